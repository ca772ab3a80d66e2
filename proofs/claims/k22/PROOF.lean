import PyProof.Rows.All
import Wide.All
import OpenK.AllK
import Wide.FinOn
import Lean
import PyProof.EqAt
import PyProof.EqKinds
import PyProof.TupleCall
import PyProof.NeData
import PyProof.SumAny
import PyProof.ReprRoads
import PyProof.CallStr
import PyProof.ReprLen
import PyProof.Rows.StrDigitsNeg
import PyProof.Rows.StrJoinMade
import PyProof.Rows.ZipGen
import PyProof.ListRange
import PyProof.TupleOfSeq
import PyProof.SetScanFacts
import PyProof.SetKind
import PyProof.Rows.SetFrom
import PyProof.SetRoads
import PyProof.Rows.SortShell
import PyProof.ListMulRoad
import PyProof.ListMulAny
import PyProof.FactsAll.tuple
import PyProof.RulesAssignMore
import PyProof.ZipIter
import PyProof.TupleIter
import PyProof.EnumFor
import PyProof.EnumMake
import PyProof.FitsBits
import KE.KDictList
import PyProof.Rows.SortShellK
import PyProof.TupleKey
import KE.KItemsList
import KE.KSortTup
import PyProof.Rows.ListMulR
import PyProof.FactsAll.list_2
import PyProof.FactsAll.list_4
import PyProof.Rows.BitMore
import PyProof.ExcArgsOwn
import PyProof.ExcAttrAll.ValueError
import PyProof.ExcBaseAll.ValueError
import PyProof.WalkInts
import PyProof.ListIndex
import PyProof.P3Eq
import PyProof.P3In
import PyProof.DictIter
import PyProof.MeetsDict
import PySem.Challenge.RW_farcords_k22_whole_rooms_hang_on_what_is
set_option maxHeartbeats 16000000
section
open PySem PySem.Spec PyProof.Rows
abbrev Qaa:=@wpAny_bind
abbrev Qab:=@List.getElem?_eq_getElem
abbrev Qac:=@List.length_map
abbrev Qad:=@Heap.get?_push_of_some
abbrev Qae:=@wpAny_pure
abbrev Qaf:=@List.getElem?_eq_some_iff
abbrev Qag:=@List.length_append
abbrev Qah:=@List.mem_append_right
abbrev Qai:=@List.mem_cons_self
abbrev Qaj:=@List.mem_singleton
abbrev Qak:=@Nat.le_refl
abbrev Qal:=@Array.length_toList
abbrev Qam:=@List.getElem?_map
abbrev Qan:=@Array.getElem?_toList
abbrev Qao:=@List.mem_cons_of_mem
abbrev Qap:=@List.mem_of_getElem?
abbrev Qaq:=@List.mem_append
abbrev Qar:=@Heap.lt_size
abbrev Qas:=@Array.getElem?_eq_getElem
abbrev Qat:=@List.mem_append_left
abbrev Qau:=@lookup_relabel_local
abbrev Qav:=@List.getElem?_append_right
abbrev Qaw:=@Heap.get?_push_size
abbrev Qax:=@List.length_replicate
abbrev Qay:=@List.mem_iff_getElem?
abbrev Qaz:=@List.mem_cons
abbrev QaA:=@List.getD_eq_getElem?_getD
abbrev QaB:=@Array.getD_eq_getD_getElem?
abbrev QaC:=@decide_eq_false
abbrev QaD:=@List.size_toArray
abbrev QaE:=@Nat.le_trans
abbrev QaF:=@List.getElem?_append_left
abbrev QaG:=@List.map_append
abbrev QaH:=@wpS_bind
abbrev QaI:=@Bool.false_ne_true
abbrev QaJ:=@Nat.ne_of_lt
abbrev QaK:=@decide_eq_true
abbrev QaL:=@List.take_of_length_le
abbrev QaM:=@List.length_cons
abbrev QaN:=@Nat.lt_of_le_of_lt
abbrev QaO:=@wpS_pure
abbrev QaP:=@List.append_assoc
abbrev QaQ:=@of_decide_eq_true
abbrev QaR:=@List.length_take
abbrev QaS:=@List.mem_map
abbrev QaT:=@Nat.lt_of_lt_of_le
abbrev QaU:=@Nat.zero_le
abbrev QaV:=@List.map_cons
abbrev QaW:=@List.getElem?_eq_none
abbrev QaX:=@List.take_append_drop
abbrev QaY:=@Heap.size_push
abbrev QaZ:=@wpAny_mono
abbrev Qa0:=@wpAny_setField_rec
abbrev Qa1:=@List.mem_range
abbrev Qa2:=@PySem.F.plainAttrs_list
abbrev Qa3:=@Bool.false_eq_true
abbrev Qa4:=@PassesOwn.never
abbrev Qa5:=@of_decide_eq_false
abbrev Qa6:=@List.take_length
abbrev Qa7:=@Array.getElem?_eq_some_iff
abbrev Qa8:=@Array.perm_iff_toList_perm
abbrev Qa9:=@PySem.mem_of_lookup
abbrev Qba:=@Nat.lt_irrefl
abbrev Qbb:=@List.pairwise_iff_getElem
abbrev Qbc:=@Nat.ne_of_gt
abbrev Qbd:=@wpAny_holding
abbrev Qbe:=@PySem.F.slot_list_append
abbrev Qbf:=@PySem.F.type_list_append
abbrev Qbg:=@List.not_mem_nil
abbrev Qbh:=@List.getElem?_eq_none_iff
abbrev Qbi:=@PyProof.Rows.F.plain_set_update_loop
abbrev Qbj:=@wpAny_call_entry
abbrev Qbk:=@PyProof.Rows.callWith_type1
abbrev Qbl:=@List.append_nil
abbrev Qbm:=@List.replicate_succ
abbrev Qbn:=@Array.toList_append
abbrev Qbo:=@Around.under_plainId
abbrev Qbp:=@List.length_drop
abbrev Qbq:=@List.flatten_cons
abbrev Qbr:=@wpAny_newObj_type
abbrev Qbs:=@Nat.lt_succ_of_lt
abbrev Qbt:=@List.mem_flatten
abbrev Qbu:=@wpAny_Call_Name_kw
abbrev Qbv:=@List.getElem?_drop
abbrev Qbw:=@Int.lt_of_le_of_lt
abbrev Qbx:=@List.mem_of_mem_take
abbrev Qby:=@Option.some.inj
abbrev Qbz:=@Option.isSome_iff_exists
abbrev QbA:=@Int.toNat_natCast
abbrev QbB:=@List.length_range
abbrev QbC:=@List.getElem?_take
abbrev QbD:=@List.getElem?_replicate
abbrev QbE:=@Heap.SameBut.extBut
abbrev QbF:=@List.lookup_cons
abbrev QbG:=@List.getElem_mem
abbrev QbH:=@codeAny_builtin
abbrev QbI:=@wpAny_setState_of
abbrev QbJ:=@Classical.byContradiction
abbrev QbK:=@Calls.spliced_cons
abbrev QbL:=@List.pairwise_cons
abbrev QbM:=@List.length_nil
abbrev QbN:=@Heap.get?_update_self
abbrev QbO:=@wpAny_field
abbrev QbP:=@wpS_forRange
abbrev QbQ:=@wpAny_rule
abbrev QbR:=@wpAny_callSpecial?_slot
abbrev QbS:=@List.filter_cons_of_pos
abbrev QbT:=@List.sum_cons
abbrev QbU:=@PyProof.Rows.callWith_builtin1
abbrev QbV:=@List.map_map
abbrev QbW:=@Heap.get?_update_other
abbrev QbX:=@List.foldl_cons
abbrev QbY:=@PyProof.Rows.F.entry_set_update_loop
abbrev QbZ:=@PySem.F.plain_extend_loop
abbrev Qb0:=@Heap.SameBut.update
abbrev Qb1:=@PySem.F.slot_dict_itemiterator_next
abbrev Qb2:=@Int.toNat_of_nonneg
abbrev Qb3:=@Calls.spliced_nil
abbrev Qb4:=@List.length_singleton
abbrev Qb5:=@List.pairwise_map
abbrev Qb6:=@wpAny_seqItems
abbrev Qb7:=@wpAny_standAt
abbrev Qb8:=@Int.le_refl
abbrev Qb9:=@List.replicate_succ'
abbrev Qca:=@wpAny_truthy_bool
abbrev Qcb:=@Array.toList_push
abbrev Qcc:=@List.nodup_append
abbrev Qcd:=@List.ext_getElem?
abbrev Qce:=@wpS_mono
abbrev Qcf:=@List.extract_eq_take_drop
abbrev Qcg:=@PySem.boot_len
abbrev Qch:=@List.find?_cons
abbrev Qci:=@wpAny_typeNameOfWhole_itemiter
abbrev Qcj:=@if_false
abbrev Qck:=@Nat.le_add_right
abbrev Qcl:=@wpAny_askSetting
abbrev Qcm:=@List.eq_nil_of_length_eq_zero
abbrev Qcn:=@List.pairwise_append
abbrev Qco:=@List.mem_of_mem_drop
abbrev Qcp:=@List.filter_cons_of_neg
abbrev Qcq:=@Int.le_of_lt
abbrev Qcr:=@List.take_zero
abbrev Qcs:=@List.Pairwise.nil
abbrev Qct:=@Nat.le_of_lt_succ
abbrev Qcu:=@List.nodup_cons
abbrev Qcv:=@if_true
abbrev Qcw:=@List.nodup_range
abbrev Qcx:=@Nat.le_of_lt
abbrev Qcy:=@List.any_cons
abbrev Qcz:=@Nat.lt_or_eq_of_le
abbrev QcA:=@plainId_quiet
abbrev QcB:=@Calls.call_function_entry
abbrev QcC:=@List.drop_eq_getElem_cons
abbrev QcD:=@List.length_dropLast
abbrev QcE:=@Array.getElem_toList
abbrev QcF:=@Array.toList_extract
abbrev QcG:=@wpAny_passesOwn
abbrev QcH:=@Array.getElem_mem_toList
abbrev QcI:=@Nat.min_le_left
abbrev QcJ:=@or_false
abbrev QcK:=@PySem.F.plain_list_iadd
abbrev QcL:=@List.getElem?_range
abbrev QcM:=@List.map_congr_left
abbrev QcN:=@Nat.lt_succ_self
abbrev QcO:=@List.drop_zero
abbrev QcP:=@Calls.callWith_builtin
abbrev QcQ:=@List.Perm.append_right
abbrev QcR:=@List.drop_of_length_le
abbrev QcS:=@Int.emod_lt_of_pos
abbrev QcT:=@codeAny_mono
abbrev QcU:=@List.length_set
abbrev QcV:=@Nat.sub_self
abbrev QcW:=@Nat.lt_trans
abbrev QcX:=@Nat.zero_add
abbrev QcY:=@List.Perm.append_left
abbrev QcZ:=@List.sum_append
abbrev Qc0:=@wpAny_pyIter_list
abbrev Qc1:=@List.foldl_append
abbrev Qc2:=@wpS_modify
abbrev Qc3:=@List.nodup_iff_pairwise_ne
abbrev Qc4:=@Array.toList_setIfInBounds
abbrev Qc5:=@Array.toList_reverse
abbrev Qc6:=@PySem.F.args_dict_itemiterator_next_1
abbrev Qc7:=@wpAny_binaryOp_repeat_ref
abbrev Qc8:=@List.getElem?_zip_eq_some
abbrev Qc9:=@PySem.F.entry_dict_itemiterator_next
abbrev Qda:=@wpAny_isInstance
abbrev Qdb:=@List.drop_append
abbrev Qdc:=@beq_eq_false_iff_ne
abbrev Qdd:=@List.reverse_append
abbrev Qde:=@List.flatten_append
abbrev Qdf:=@List.length_pos_iff
abbrev Qdg:=@call_meets
abbrev Qdh:=@wpAny_comprehension_free
abbrev Qdi:=@SetTable.toList_insertAt
abbrev Qdj:=@intKind_is
abbrev Qdk:=@Array.size_setIfInBounds
abbrev Qdl:=@List.nil_append
abbrev Qdm:=@List.forIn_cons
abbrev Qdn:=@Nat.min_eq_left
abbrev Qdo:=@codeAny_of_tree
abbrev Qdp:=@wpAny_attempt
abbrev Qdq:=@wpAny_updateSeq
abbrev Qdr:=@Int.emod_nonneg
abbrev Qds:=@Nat.add_sub_cancel_left
abbrev Qdt:=@List.getElem?_set_self
abbrev Qdu:=@Array.getElem?_eq_none
abbrev Qdv:=@wpAny_isOneOf_itemiter
abbrev Qdw:=@typeIs_int
abbrev Qdx:=@List.take_add_one
abbrev Qdy:=@Nat.le_succ
abbrev Qdz:=@wpAny_storeSet_of
abbrev QdA:=@fits_of_scanBound
abbrev QdB:=@Bool.eq_false_iff
abbrev QdC:=@List.nodup_nil
abbrev QdD:=@wpAny_newTuple
abbrev QdE:=@pairsOf_toList
abbrev QdF:=@wpAny_typeOf
abbrev QdG:=@Int.mul_le_mul_of_nonneg_right
abbrev QdH:=@PySem.F.slot_dict_get
abbrev QdI:=@Nat.succ_pos
abbrev QdJ:=@Int.le_trans
abbrev QdK:=@wpAny_forIn_list
abbrev QdL:=@Nat.le_of_not_lt
abbrev QdM:=@List.zipIdx_cons
abbrev QdN:=@List.take_append
abbrev QdO:=@Heap.size_update
abbrev QdP:=@wpAny_newFunctionEnv
abbrev QdQ:=@List.dropLast_subset
abbrev QdR:=@wpAny_updateSeq_pair
abbrev QdS:=@wpAny_newList
abbrev QdT:=@Nat.add_assoc
abbrev QdU:=@PySem.F.slot_dict_items_iter
abbrev QdV:=@Nat.mod_lt
abbrev QdW:=@List.filterMap_cons
abbrev QdX:=@wpAny_execs_nil
abbrev QdY:=@Bool.eq_iff_iff
abbrev QdZ:=@PySem.F.entry_proto_collect
abbrev Qd0:=@PySem.F.plain_proto_collect
abbrev Qd1:=@wpAny_ite_split
abbrev Qd2:=@entry_list_sort
abbrev Qd3:=@List.zipIdx_nil
abbrev Qd4:=@Option.map_some
abbrev Qd5:=@List.take_succ_cons
abbrev Qd6:=@Calls.Name_function_global
abbrev Qd7:=@PySem.F.sub_list_frozenset
abbrev Qd8:=@List.length_eraseIdx_of_lt
abbrev Qd9:=@List.perm_ext_iff_of_nodup
abbrev Qea:=@wpAny_pyIter_tuple
abbrev Qeb:=@List.mem_filterMap
abbrev Qec:=@List.zip_cons_cons
abbrev Qed:=@Int.lt_of_lt_of_le
abbrev Qee:=@tupleKind_room_in1
abbrev Qef:=@List.find?_eq_none
abbrev Qeg:=@wpAny_eqBool_tuple
abbrev Qeh:=@Int.natCast_nonneg
abbrev Qei:=@List.map_replicate
abbrev Qej:=@wpAny_runValue
abbrev Qek:=@isSubtype_stop
abbrev Qel:=@slot_list_sort
abbrev Qem:=@args_list_sort
abbrev Qen:=@Nat.mul_le_mul
abbrev Qeo:=@List.forIn_nil
abbrev Qep:=@Array.size_map
abbrev Qeq:=@PySem.F.entry_extend_loop
abbrev Qer:=@SeqAt.eqv_refl
abbrev Qes:=@List.getLast?_eq_getElem?
abbrev Qet:=@Heap.SameBut.refl
abbrev Qeu:=@Nat.lt_trichotomy
abbrev Qev:=@List.filterMap_cons_some
abbrev Qew:=@wpAny_pyIter_slot
abbrev Qex:=@bne_self_eq_false
abbrev Qey:=@wpAny_dictEntries
abbrev Qez:=@List.getElem?_set
abbrev QeA:=@Paired.length
abbrev QeB:=@List.all_cons
abbrev QeC:=@wpAny_Call_method0_late
abbrev QeD:=@wpAny_list_append_plain
abbrev QeE:=@wpAny_of_eq
abbrev QeF:=@PySem.F.entry_type_call
abbrev QeG:=@PySem.F.entry_list_iadd
abbrev QeH:=@wpAny_onRaise
abbrev QeI:=@PySem.F.args_dict_get_3
abbrev QeJ:=@PySem.F.plainAttrs_dict
abbrev QeK:=@List.getElem?_cons_succ
abbrev QeL:=@wpS_get
abbrev QeM:=@PySem.F.slot_dict_items
abbrev QeN:=@boot_min
abbrev QeO:=@List.getElem_inj
abbrev QeP:=@Bool.and_eq_true
abbrev QeQ:=@List.all_eq_true
abbrev QeR:=@PySem.W.cellsFrom_some
abbrev QeS:=@subscriptTail_builtinR
abbrev QeT:=@codeAny_compStart_list
abbrev QeU:=@PySem.F.typeCall_set_1
abbrev QeV:=@PySem.F.entry_set_init
abbrev QeW:=@PySem.F.entry_dict_get
abbrev QeX:=@List.mem_filter
abbrev QeY:=@wpAny_isTrue_Compare1
abbrev QeZ:=@List.of_mem_zip
abbrev Qe0:=@wpAny_loadPart'
abbrev Qe1:=@codeAny_loop
abbrev Qe2:=@PySem.F.plain_set_new
abbrev Qe3:=@weight_type_call_type
abbrev Qe4:=@builtinLookup_eq_fast
abbrev Qe5:=@PySem.F.slot_set_iter
abbrev Qe6:=@wpAny_specialOf
abbrev Qe7:=@plain_sorted
abbrev Qe8:=@entry_sorted
abbrev Qe9:=@args_sorted1
abbrev Qfa:=@listItems_at
abbrev Qfb:=@Nat.add_zero
abbrev Qfc:=@List.getElem?_toArray
abbrev Qfd:=@wpAny_eqIsQuiet_tuple
abbrev Qfe:=@wpAny_isSame_ref_self
abbrev Qff:=@Nat.not_lt_zero
abbrev Qfg:=@List.perm_append_comm
abbrev Qfh:=@Array.Perm.refl
abbrev Qfi:=@wpAny_dictEpoch
abbrev Qfj:=@PySem.F.slot_list_pop
abbrev Qfk:=@PySem.F.type_list_pop
abbrev Qfl:=@List.getElem?_zipWith
abbrev Qfm:=@wpS_lift
abbrev Qfn:=@isSubtype_type
abbrev Qfo:=@wpAny_fieldsOf
abbrev Qfp:=@sortedHeap_old
abbrev Qfq:=@wpAny_setField
abbrev Qfr:=@List.drop_drop
abbrev Qfs:=@Sum.inl.inj
abbrev Qft:=@wpAny_noted
abbrev Qfu:=@kind_sorted
abbrev Qfv:=@wpAny_letGo
abbrev Qfw:=@Bool.not_true
abbrev Qfx:=@sortedHeap_at
abbrev Qfy:=@And.intro
abbrev Qfz:=@List.map_drop
abbrev QfA:=@boot_int
abbrev QfB:=@PySem.W.mg_of
abbrev QfC:=@Walks.list
abbrev QfD:=@True.intro
abbrev QfE:=@boot_tuple
abbrev QfF:=@List.map_nil
abbrev QfG:=@seqIndex_neg
abbrev QfH:=@List.all_map
abbrev QfI:=@call_meetsIn
abbrev QfJ:=@mem_zip_self
abbrev QfK:=@Int.add_zero
end
namespace PySem.W.Fast
def tw4850822308971998562:=()
def tw9228347448338029154:=()
def tw10189721214187398146:=()
def tw1813040458651386850:=()
def tw16893128577174173058:=()
def tw14066592340624358050:=()
def tw1983755496730405299:=()
def tw14300305079482749427:=()
def tw7878187529505691008:=()
def tw5249691816180210496:=()
def tw13972959718501228128:=()
def tw12956650329384486816:=()
def tw5814843230686353280:=()
def tw8210627187673867584:=()
def tw7029907877864620608:=()
def tw16144416431298452416:=()
def tw11389471048060961553:=()
def tw1150124139006162673:=()
def tw11821350692750942257:=()
def tw8880855547694834705:=()
def tw15396818035129178545:=()
def tw3590707691983116145:=()
def tw11851050197142996113:=()
def tw8495745948751493233:=()
def tw13948026463325390385:=()
def tw7290140785137438193:=()
def tw10617319820771923345:=()
def tw4631569034910097798:=()
def tw11761647516908444358:=()
def tw485762630690895974:=()
def tw3110802767429158022:=()
def tw15665697471994531495:=()
def tw15543839396957500071:=()
def tw2418903069557528039:=()
def tw488458498701000423:=()
def tw16542056410921234468:=()
def tw14563978858150453156:=()
def tw16988396094649307012:=()
def tw9341771284658543812:=()
def tw4507581624942979140:=()
def tw15241942730431305796:=()
def tw10507789475409351269:=()
def tw15224638527341486117:=()
def tw18399039496226440645:=()
def tw18363415291261415141:=()
def tw5381547621121811226:=()
def tw14422509229799856314:=()
def tw16519519808047712954:=()
def tw6197749179008314042:=()
def tw450735780424774778:=()
def tw6812879698828908634:=()
def tw12628994544573247386:=()
def tw7624183632786320107:=()
def tw17881796221034174603:=()
def tw17888124307756756523:=()
def tw8172878632496048523:=()
def tw6992200240352604235:=()
def tw3075611374081914795:=()
def tw821057871641133995:=()
def tw8733846153325912971:=()
def tw6286433709922647224:=()
def tw17601951360761704088:=()
def tw13057591737386262552:=()
def tw1843408585844621592:=()
def tw4141758480950148024:=()
def tw16955324229676922185:=()
def tw7265482259171636009:=()
def tw4969031951994790089:=()
def tw13325294167106509993:=()
def tw16939352919126269353:=()
def tw14220557459972558537:=()
def tw2603205193925811230:=()
def tw3580949450043537438:=()
def tw533939746676802622:=()
def tw12009272943149473854:=()
def tw15823251669773105630:=()
def tw17341925353537163198:=()
def tw8727837577502007870:=()
def tw16193458682485114975:=()
def tw11426335049379089311:=()
def tw7101829088010799423:=()
def tw15500495492071541919:=()
def tw6930069097253125375:=()
def tw18355478391512662719:=()
def tw6210035551171308572:=()
def tw448571011178703548:=()
def tw14520666259140682108:=()
def tw9665956993571842396:=()
def tw4701891161123412925:=()
def tw8491476052778419549:=()
def tw12245940961718408541:=()
def tw15124407139742909:=()
def tw17021879310774109181:=()
def tw2058894203254038365:=()
def tw2620549223508243218:=()
def tw15092054350486119890:=()
def tw16510804008193322866:=()
def tw1718770454936436370:=()
def tw1572247120365075090:=()
def tw6243460728592813106:=()
def tw15909111941599429554:=()
def tw12925877297933142595:=()
def tw5947182726105945731:=()
def tw6282741568559916483:=()
def tw2397437392020611920:=()
def tw13718171576100072528:=()
def tw17406416552044854736:=()
def tw11014952049028168688:=()
def tw9890889763967272737:=()
def tw12787993169855152929:=()
def tw9435882692485761057:=()
def tw14771976428717207009:=()
def tw13944718332729818945:=()
def tw3000519139057097441:=()
def tw12029692372779620342:=()
def tw12701329843450468758:=()
def tw496745689448640374:=()
def tw17463812510719029366:=()
def tw9456332029786996790:=()
def tw17794293992310949462:=()
def tw1206263496653498934:=()
def tw12126785399802213431:=()
def tw12729652366245261335:=()
def tw2381622809021816759:=()
def tw6965855219833874359:=()
def tw15823333729218726807:=()
def tw1133206266197522775:=()
def tw3443943482373536919:=()
def tw7976993126716867575:=()
def tw2227898097741073847:=()
def tw11370132656528452983:=()
def tw6252597831538913527:=()
def tw18331361328914501879:=()
def tw12707428467594619188:=()
def tw14176318620845300885:=()
def tw2145526778623869013:=()
def tw11687614492427480149:=()
def tw15740547279062189621:=()
def tw15737468899034641973:=()
def tw14587941900927983989:=()
def tw9739034894258883221:=()
def tw8261705298463554581:=()
def tw17322443213033108917:=()
def tw15043150679257039093:=()
def tw3800840502424624714:=()
def tw8862263499048983530:=()
def tw2258376763560526058:=()
def tw297287651547385930:=()
def tw6000195775659647882:=()
def tw6222095686203868315:=()
def tw6968464855243148443:=()
def tw9163201645998947931:=()
def tw8627368663139332603:=()
def tw12085819406672507976:=()
def tw16123495760026802184:=()
def tw13655805046599712488:=()
def tw8934987240912518248:=()
def tw2716355818666867240:=()
def tw1927586768485198216:=()
def tw7671058548808388825:=()
def tw15125289351326286361:=()
def tw629618255343454137:=()
def tw16179337362716956046:=()
def tw441760039684276046:=()
def tw3496099748692467950:=()
def tw12214493176558436846:=()
def tw18070629357764577198:=()
def tw16906439011556750638:=()
def tw5916461552935137006:=()
def tw17945574892631968910:=()
def tw887566598493448750:=()
def tw3129367809060292207:=()
def tw5613424815462722895:=()
def tw14446495097660863631:=()
def tw12516624011957055887:=()
def tw13947218804263689487:=()
def tw11106463873620462255:=()
def tw1984530017767937516:=()
def tw5862686051864057132:=()
def tw7903052560440999180:=()
def tw17990628295792462540:=()
def tw9649736208034462220:=()
def tw18300204882409330668:=()
def tw11091041146361185452:=()
def tw9904769969818064492:=()
def tw6434904328122519148:=()
def tw10890027212893925773:=()
def tw6762174084027805069:=()
def tw12361730241350079085:=()
def tw2762435317273757677:=()
def tw8838378816765757745:=()
def tw5396812855514763185:=()
def tw14912256710468230:=()
def tw10367209808538502215:=()
def tw13552874471161951591:=()
def tw13700959347213628139:=()
def tw3494870294640188498:=()
def tw4177455652518731728:=()
def tw6652984537170684033:=()
def tw170193903165807062:=()
def tw12960014912165540596:=()
def tw3023306021790889883:=()
def tw7001765786954023513:=()
def tw10870219875023361294:=()
def tw5335918015599562830:=()
def tw17804586910852127535:=()
def tw1051122364843013965:=()
def tw14452104099416605937:=()
end PySem.W.Fast
set_option Elab.async false
set_option linter.all false
set_option maxRecDepth 100000
namespace L2
open PySem PySem.Spec PyProof.Rows
variable {s s':Shared}{qc:List (Addr×Obj)}{x qm:Str}{a b:Addr}{e tg c l:Expr}{E:Value→Shared→Prop}{u:Value}{P:Program}{w:World}{h h' base:Heap}{i t' n j:Nat}{A:Around}{op:CmpOp}{o:Obj}{es:List Expr}{M:Model}{p pos':PySem.Pos}{us:List Value}{ch fp:List Addr}{Q:Unit→Shared→Prop}{body:List Stmt}{f:Value→Value→Sem Value}{ps N:List Str}{g':Array GenState}{d':Drawn}{lo:Int}{g:Int→Int→Int}{fd:FuncData}{mg:Str→Option Value}{scope:Scope}
abbrev Key:=Sum Int Str
def Ziq:Key→Value→Bool
 | .inl k,v=>Value.isInt k v
 | .inr x,v=>Value.isStrOf x v
def Zsb (w:World):Key→Int
 | .inl k=>hashInt k
 | .inr x=>hashStr w x
theorem ZaV:∀{k:Key} {v:Value},Ziq k v=true→(∃i t,k=Sum.inl i∧v=Value.int i t)∨(∃x t,k=Sum.inr x∧v=Value.str x t)
 | .inl i,v,h=>by
  obtain⟨t,e⟩:=Value.isInt_shape (k:=i) (v:=v) h;exact .inl ⟨i,t,rfl,e⟩
 | .inr x,v,h=>by
  obtain⟨t,e⟩:=Value.isStrOf_shape (x:=x) (v:=v) h;exact .inr ⟨x,t,rfl,e⟩
theorem Zjd (i:Int)(t:Tok):Ziq (.inl i) (.int i t)=true:=by simp[Ziq,Value.isInt]
theorem Zje (x:Str)(t:Tok):Ziq (.inr x) (.str x t)=true:=by simp[Ziq,Value.isStrOf]
theorem Zpk (a b:Int):decide ((Sum.inl a:Key)=Sum.inl b)=(a==b):=by
 by_cases e:a=b
 ·subst e;simp
 ·have h:¬(Sum.inl a:Key)=Sum.inl b:=fun q=>e (Qfs q);rw[QaC h];exact(Qdc.mpr e).symm
theorem Zpl (a b:Str):decide ((Sum.inr a:Key)=Sum.inr b)=decide (a=b):=by
 by_cases e:a=b
 ·subst e;simp
 ·have h:¬(Sum.inr a:Key)=Sum.inr b:=fun q=>e (Sum.inr.inj q);rw[QaC h,QaC e]
theorem Zpm (a:Int)(b:Str):decide ((Sum.inl a:Key)=Sum.inr b)=false:=QaC (fun q=>nomatch q)
theorem Zpn (a:Str)(b:Int):decide ((Sum.inr a:Key)=Sum.inl b)=false:=QaC (fun q=>nomatch q)
def Za2 (prog:Program)(w:World):PySem.KeyKind prog w Key where
 is:=Ziq
 hash:=Zsb w
 inj:=fun v a b ha hb=>by
  rcases ZaV ha with⟨i,t,rfl,rfl⟩|⟨x,t,rfl,rfl⟩
  ·rcases ZaV hb with⟨j,u,rfl,e⟩|⟨y,u,rfl,e⟩
   ·injection e with e1 _;rw[e1]
   ·exact nomatch e
  ·rcases ZaV hb with⟨j,u,rfl,e⟩|⟨y,u,rfl,e⟩
   ·exact nomatch e
   ·injection e with e1 _;rw[e1]
 byValue:=fun k v h=>by
  rcases ZaV h with⟨i,t,rfl,rfl⟩|⟨x,t,rfl,rfl⟩<;>rfl
 pyHash:=fun hv h=>by
  rcases ZaV hv with⟨i,t,rfl,rfl⟩|⟨x,t,rfl,rfl⟩
  ·exact wpAny_pyHash_int h
  ·exact wpAny_pyHash_str h
 eqBool:=fun hu hv h=>by
  rcases ZaV hu with⟨i,t,rfl,rfl⟩|⟨x,t,rfl,rfl⟩
  ·rcases ZaV hv with⟨j,u,rfl,rfl⟩|⟨y,u,rfl,rfl⟩
   ·rw[Zpk] at h;exact wpAny_eqBool_int h
   ·rw[Zpm] at h;exact SeqAt.EqAt.int_str i t y u _ _ _ _ h
  ·rcases ZaV hv with⟨j,u,rfl,rfl⟩|⟨y,u,rfl,rfl⟩
   ·rw[Zpn] at h;exact SeqAt.EqAt.str_int x t j u _ _ _ _ h
   ·rw[Zpl] at h;exact wpAny_eqBool_str h
 «strs»:=fun k x t v h=>by
  rcases ZaV h with⟨i,u,rfl,e⟩|⟨y,u,rfl,e⟩
  ·exact nomatch e
  ·injection e with e1 _
   subst e1;cases v<;>rfl
theorem Zgq (prog:Program)(w:World)(i:Int)(t:Tok):(Za2 prog w).is (.inl i) (.int i t)=true:=Zjd i t
theorem Zgr (prog:Program)(w:World)(x:Str)(t:Tok):(Za2 prog w).is (.inr x) (.str x t)=true:=Zje x t
inductive V where
 |non|bl (b:Bool)|int (i:Int)|str (x:Str)|byt (b:Array UInt8)|flt (b:UInt64)|ref (a:Addr)|ty (n:String)
 deriving DecidableEq
def ZaY:V→Value→Prop
 | .non,u=>u=Value.none
 | .bl b,u=>u=Value.bool b
 | .int i,u=>∃t,u=Value.int i t
 | .str x,u=>∃t,u=Value.str x t
 | .byt b,u=>∃t,u=Value.bytes b t
 | .flt b,u=>∃t,u=Value.float b t
 | .ref a,u=>u=Value.ref a
 | .ty n,u=>u=Value.type n
abbrev ZaR:List V→List Value→Prop:=Paired ZaY
theorem ZaR.length {xs:List V}{us:List Value}(r:ZaR xs us):xs.length=us.length:=QeA r
theorem ZaR.get:∀{xs:List V} {us:List Value} {i:Nat} {x:V},ZaR xs us→xs[i]?=some x→∃u,us[i]?=some u∧ZaY x u
 |_,_,_,_,.nil,e=>by simp at e
 |_,_,0,_,.cons r _,e=>by simp at e;subst e;exact⟨_,rfl,r⟩
 |_,_,i+1,x,.cons _ t,e=>by
  obtain⟨u,h1,h2⟩:=ZaR.get (i:=i) (x:=x) t (by simpa using e);exact⟨u,by simpa using h1,h2⟩
theorem ZaR.set {x:V}{u:Value}(r:ZaY x u):∀{xs:List V} {us:List Value} (i:Nat),ZaR xs us→ZaR (xs.set i x) (us.set i u)
 |_,_,_,.nil=> .nil
 |_,_,0,.cons _ t=> .cons r t
 |_,_,i+1,.cons q t=> .cons q (ZaR.set r i t)
theorem ZaR.append:∀{xs ys:List V} {us ws:List Value},ZaR xs us→ZaR ys ws→ZaR (xs++ys) (us++ws)
 |_,_,_,_,.nil,s=>s
 |_,_,_,_,.cons r t,s=> .cons r (ZaR.append t s)
theorem ZaR.take:∀{xs:List V} {us:List Value} (n:Nat),ZaR xs us→ZaR (xs.take n) (us.take n)
 |_,_,0,_=> .nil
 |_,_,_+1,.nil=> .nil
 |_,_,n+1,.cons r t=> .cons r (ZaR.take n t)
theorem ZaR.drop:∀{xs:List V} {us:List Value} (n:Nat),ZaR xs us→ZaR (xs.drop n) (us.drop n)
 |_,_,0,r=>r
 |_,_,_+1,.nil=> .nil
 |_,_,n+1,.cons _ t=>ZaR.drop n t
def Zi5:Option V→Option Value→Prop
 |some v,some u=>ZaY v u
 |none,none=>True
 |_,_=>False
def KV {κ:Type}:List (κ×V)→List (κ×Value)→Prop:=Paired fun(p:κ×V) (q:κ×Value)=>p.1=q.1∧ZaY p.2 q.2
def kV:Key→V
 | .inl i=> .int i
 | .inr x=> .str x
inductive HO where
 |lst (xs:List V)
 |tup (xs:List V)
 |dK (kvs:List (Key×V))|dT (kvs:List (List Key×V))
 |set (S:Int→Bool) (n:Nat)
 |ins (C dx:Addr) (fs:List (Str×V))
 |own (x:Addr)
 |xd (fs:List (Str×V))
 |met (f x:Addr)
 |rng (lo hi:Int)
 |frz (o:Obj) (u:HO)
 |tbl (ps:Array Value)
 |ext (φ:Heap→Prop)
abbrev Hp:=Addr→Option HO
def upd (H:Hp)(a:Addr)(o:HO):Hp:=fun b=>if b=a then some o else H b
theorem Zab {H:Hp}{o:HO}:upd H a o a=some o:=by unfold upd;rw[if_pos rfl]
theorem Zak {H:Hp}{o:HO}(h:b≠a):upd H a o b=H b:=by unfold upd;rw[if_neg h]
theorem Zq1 {H:Hp}{o u:HO}(h:H a=some o)(h':H b=some u)(d:o≠u):a≠b:=by
 intro e;subst e;rw[h] at h';exact d (Qby h')
theorem Zah {H:Hp}{o:HO}(h:H a=some o)(h':H b=none):a≠b:=by
 intro e;subst e;rw[h] at h';cases h'
section
variable (P:Program)(w:World)
def Zbm (H:Hp)(h:Heap)(a:Addr):HO→Prop
 | .lst xs=>xs.length≤sizeLine∧∃(its:List Value) (n:Nat),ZaR xs its∧h.get? a=some {cls:=.type "list",data:=.seq its.toArray n }
 | .tup xs=>xs.length≤sizeLine∧∃its:List Value,ZaR xs its∧IsTup h a its.toArray
 | .dK kvs=>kvs.length≤sizeLine∧(a==sysModules)=false∧∃vs,KV kvs vs∧h.DictOf (Za2 P w) a vs
 | .dT kvs=>kvs.length≤sizeLine∧(a==sysModules)=false∧∃xs:List (List Key×Addr×Value),
   Paired (fun(p:List Key×V) (q:List Key×Addr×Value)=>p.1=q.1∧H q.2.1=some (.tup (p.1.map kV))∧ZaY p.2 q.2.2) kvs xs∧
   ∃o es ep,h.get? a=some o∧o.ExactDict∧o.data= .dict es ep∧es.toList=xs.map (entryOfKey (tupleKind (Za2 P w)))∧(xs.map (·.1)).Nodup
 | .set S n=>h.SetOf (intKind P w) a S n
 | .ins C dx fs=>H dx=some (.own a)∧fs.length≤1000∧dx≠a∧h.get? a=some (PySem.W.instObj C dx)∧
   ∃mA,h.Ns1 dx mA∧(∀f,Zi5 (fs.lookup f) (mA f))∧PySem.Within mA (fs.map (·.1))
 | .own _=>∃o,h.get? a=some o
 | .xd fs=>∃mA,h.Ns1 a mA∧∀f,Zi5 (fs.lookup f) (mA f)
 | .rng lo hi=>∃t u v,h.get? a=some {cls:=.type "range",data:=.fields #[.int lo t,.int hi u,.int 1 v] }
 | .frz o u=>h.get? a=some o∧Zbm H h a u
 | .tbl ps=>h.get? a=some {cls:=.none,data:=.fields ps }
 | .met f x=>h.get? a=some (PySem.W.methodObj (.ref f) (.ref x))
 | .ext φ=>φ h∧(∃o,h.get? a=some o)∧∀h1 h2:Heap,φ h1→(∀o,h1.get? a=some o→h2.get? a=some o)→φ h2
def HOk (H:Hp)(h:Heap):Prop:=∀a o,H a=some o→Zbm P w H h a o
end
section
variable {H H':Hp}{o:HO}
theorem Zbm.lt (x:Zbm P w H h a o):a<h.objs.size:=by
 cases o with
 |lst xs=>obtain⟨_,_,_,_,e⟩:=x;exact Qar e
 |tup xs=>obtain⟨_,_,_,p⟩:=x;exact p.lt
 |dK kvs=>obtain⟨_,_,_,_,o,_,_,e,_⟩:=x;exact Qar e
 |dT kvs=>obtain⟨_,_,_,_,o,_,_,e,_⟩:=x;exact Qar e
 |set S n=>obtain⟨o,_,_,_,e,_⟩:=x;exact Qar e
 |ins C dx fs=>obtain⟨_,_,_,e,_⟩:=x;exact Qar e
 |own y=>obtain⟨_,e⟩:=x;exact Qar e
 |xd fs=>obtain⟨_,⟨_,_,_,e,_⟩,_⟩:=x;exact Qar e
 |rng lo hi=>obtain⟨_,_,_,e⟩:=x;exact Qar e
 |frz ob u=>obtain⟨e,_⟩:=x;exact Qar e
 |tbl ps=>exact Qar (show h.get? a=some _ from x)
 |met f y=>exact Qar (show h.get? a=some _ from x)
 |ext φ=>obtain⟨_,⟨_,e⟩,_⟩:=x;exact Qar e
theorem Paired.mapP {α β:Type}{F G:α→β→Prop}:∀{l₁:List α} {l₂:List β},Paired F l₁ l₂→(∀a b,F a b→G a b)→Paired G l₁ l₂
 |_,_,.nil,_=> .nil
 |_,_,.cons r t,f=> .cons (f _ _ r) (Paired.mapP t f)
theorem Zbm.stay (x:Zbm P w H h a o)(k:∀b u,(b=a∨H b=some (.own a))→h.get? b=some u→h'.get? b=some u)
  (ho:∀b,H b=some (.own a)→H' b=some (.own a)) (ht:∀b xs,H b=some (.tup xs)→H' b=some (.tup xs)):Zbm P w H' h' a o:=by
 induction o with
 |lst xs=>obtain⟨z,its,n,r,e⟩:=x;exact⟨z,its,n,r,k _ _ (.inl rfl) e⟩
 |tup xs=>obtain⟨z,its,r,ob,e,c⟩:=x;exact⟨z,its,r,ob,k _ _ (.inl rfl) e,c⟩
 |dK kvs=>obtain⟨z,y,vs,r,ob,es,ep,e,c⟩:=x;exact⟨z,y,vs,r,ob,es,ep,k _ _ (.inl rfl) e,c⟩
 |dT kvs=>
  obtain⟨z,y,xs,r,ob,es,ep,e,c⟩:=x;exact⟨z,y,xs,Paired.mapP r fun p q z=>⟨z.1,ht _ _ z.2.1,z.2.2⟩,ob,es,ep,k _ _ (.inl rfl) e,c⟩
 |set S n=>obtain⟨ob,es,ep,t,e,c⟩:=x;exact⟨ob,es,ep,t,k _ _ (.inl rfl) e,c⟩
 |ins C dx fs=>
  obtain⟨d,z,ne,e,mA,⟨od,es,ep,e2,c⟩,r⟩:=x;exact⟨ho _ d,z,ne,k _ _ (.inl rfl) e,mA,⟨od,es,ep,k _ _ (.inr d) e2,c⟩,r⟩
 |own y=>obtain⟨ob,e⟩:=x;exact⟨ob,k _ _ (.inl rfl) e⟩
 |xd fs=>obtain⟨mA,⟨od,es,ep,e,c⟩,r⟩:=x;exact⟨mA,⟨od,es,ep,k _ _ (.inl rfl) e,c⟩,r⟩
 |rng lo hi=>obtain⟨t,u,v,e⟩:=x;exact⟨t,u,v,k _ _ (.inl rfl) e⟩
 |frz ob u ih=>obtain⟨e,q⟩:=x;exact⟨k _ _ (.inl rfl) e,ih q⟩
 |tbl ps=>
  have e:h.get? a=some {cls:=.none,data:=.fields ps }:=x;show h'.get? a=some {cls:=.none,data:=.fields ps };exact k a _ (.inl rfl) e
 |met f y=>
  have e:h.get? a=some (PySem.W.methodObj (.ref f) (.ref y)):=x;show h'.get? a=some (PySem.W.methodObj (.ref f) (.ref y));exact k a _ (.inl rfl) e
 |ext φ=>obtain⟨p,⟨o,e⟩,st⟩:=x;exact⟨st _ _ p fun o q=>k _ _ (.inl rfl) q,⟨o,k _ _ (.inl rfl) e⟩,st⟩
theorem HOk.lt (x:HOk P w H h)(e:H a=some o):a<h.objs.size:=(x a o e).lt
theorem HOk.fresh (x:HOk P w H h)(e:h.objs.size≤a):H a=none:=by
 cases q:H a with
 |none=>rfl
 |some u=>exact absurd (QaT (x.lt q) e) (Qba _)
theorem HOk.kept (x:HOk P w H h)(k:∀b u,h.get? b=some u→h'.get? b=some u):HOk P w H h':=fun a o e=>
 (x a o e).stay (fun b u _ q=>k b u q) (fun _ q=>q) fun _ _ q=>q
theorem HOk.laid (x:HOk P w H h)(k:∀b u,h.get? b=some u→h'.get? b=some u)(hp:h.objs.size≤a)(new:Zbm P w (upd H a o) h' a o):HOk P w (upd H a o) h':=fun b u e=>by
 have hn:=x.fresh hp;by_cases hb:b=a
 ·subst hb;rw[Zab] at e;cases e;exact new
 ·rw[Zak hb] at e;exact(x b u e).stay (fun c v _ q=>k c v q) (fun c q=>by rw[Zak (Zah q hn)];exact q) fun c xs q=>by rw[Zak (Zah q hn)];exact q
end
def Rd (H:Hp)(a:Addr)(u:HO):Prop:=H a=some u∨∃o,H a=some (.frz o u)
theorem Rd.ok {H:Hp}{u:HO}(r:Rd H a u)(x:HOk P w H h):Zbm P w H h a u:=by
 rcases r with r|⟨o,r⟩
 ·exact x a u r
 ·obtain⟨_,q⟩:=x a _ r;exact q
def Mut:Option HO→Prop
 |some (.lst _)=>True
 |some (.dK _)=>True
 |some (.dT _)=>True
 |some (.set _ _)=>True
 |some (.ins _ _ _)=>True
 |some (.ext _)=>True
 |_=>False
section
variable {H:Hp}{x e:Addr}{o':HO}
theorem HOk.write (ok:HOk P w H h)(mu:Mut (H x))(he:e=x∨H e=some (.own x))(k:∀b u,b≠e→h.get? b=some u→h'.get? b=some u)(heo:∃u,h'.get? e=some u)
  (new:Zbm P w (upd H x o') h' x o'):HOk P w (upd H x o') h':=fun b u q=>by
 have nown:∀c y,H c=some (.own y)→c≠x:=fun c y r z=>by subst z;rw[r] at mu;exact mu
 have ntup:∀c xs,H c=some (.tup xs)→c≠x:=fun c xs r z=>by subst z;rw[r] at mu;exact mu
 by_cases hb:b=x
 ·subst hb;rw[Zab] at q;cases q;exact new
 ·rw[Zak hb] at q;by_cases hbe:b=e
  ·have q':H b=some (.own x):=by
    rcases he with z|z
    ·exact absurd (hbe.trans z) hb
    ·rw[hbe];exact z
   rw[q] at q';cases q';obtain⟨v,hv⟩:=heo;exact⟨v,by rw[hbe];exact hv⟩
  ·refine(ok b u q).stay (fun c v hc r=>k c v ?_ r) (fun c r=>by rw[Zak (nown c b r)];exact r) fun c xs r=>by rw[Zak (ntup c xs r)];exact r
   rcases hc with rfl|hc
   ·exact hbe
   ·rintro rfl;rcases he with z|z
    ·exact nown c b hc z
    ·rw[hc] at z;cases z;exact hb rfl
end
structure Un (fs ex:List Addr)(H H':Hp)(h h':Heap):Prop where
 keep:∀b o,h.get? b=some o→H b=none→b∉fs→b∉ex→h'.get? b=some o
 slot:∀b o,h.get? b=some o→H b=none→b∈fs→b∉ex→∃sl,h'.get? b=some {o with slots:=sl }
 free:∀b o,h.get? b=some o→H b=none→b∉ex→H' b=none
 there:∀b o,h.get? b=some o→b∉ex→∃o',h'.get? b=some o'
 tups:∀b xs,H b=some (.tup xs)→H' b=some (.tup xs)
 frzs:∀b o u,H b=some (.frz o u)→H' b=some (.frz o u)
 tbls:∀b ps,H b=some (.tbl ps)→∃more,H' b=some (.tbl (ps++more))
section
variable {fs fs' ex ex':List Addr}{H H1 H2:Hp}{h1 h2:Heap}{x e:Addr}{o:HO}
theorem Un.any (u:Un fs ex H H1 h h1){ob:Obj}(q:h.get? b=some ob)(n:H b=none)(hx:b∉ex):∃sl,h1.get? b=some {ob with slots:=sl }:=by
 by_cases hb:b∈fs
 ·exact u.slot b ob q n hb hx
 ·exact⟨ob.slots,u.keep b ob q n hb hx⟩
theorem Un.kept (k:∀b u,h.get? b=some u→h'.get? b=some u):Un fs ex H H h h':=
 ⟨fun b ob q _ _ _=>k b ob q,fun b ob q _ _ _=>⟨ob.slots,k b ob q⟩,fun _ _ _ n _=>n,fun b ob q _=>⟨ob,k b ob q⟩,fun _ _ q=>q,fun _ _ _ q=>q,fun _ ps q=>⟨#[],by rw[q];simp⟩⟩
theorem Un.refl:Un fs ex H H h h:=Un.kept fun _ _ q=>q
theorem Un.laid (k:∀b u,h.get? b=some u→h'.get? b=some u)(hp:h.objs.size≤a)(hn:H a=none):Un fs ex H (upd H a o) h h' where
 keep:=fun b u q _ _ _=>k b u q
 slot:=fun b u q _ _ _=>⟨u.slots,k b u q⟩
 free:=fun b u q n _=>by rw[Zak (QaJ (QaT (Qar q) hp))];exact n
 there:=fun b u q _=>⟨u,k b u q⟩
 tups:=fun b xs q=>by rw[Zak (Zah q hn)];exact q
 frzs:=fun b u xs q=>by rw[Zak (Zah q hn)];exact q
 tbls:=fun b ps q=>⟨#[],by rw[Zak (Zah q hn),q];simp⟩
theorem Un.write (mu:Mut (H x))(he:e=x∨H e=some (.own x))(k:∀b u,b≠e→h.get? b=some u→h'.get? b=some u)(heo:∃u,h'.get? e=some u):Un fs ex H (upd H x o) h h':=by
 have hx:∀b,H b=none→b≠x:=fun b n z=>by subst z;rw[n] at mu;exact mu
 have hb:∀b,H b=none→b≠e:=fun b n z=>by
  subst z;rcases he with r|r
  ·exact hx b n r
  ·rw[n] at r;cases r
 have hm:∀b u,H b=some u→¬Mut (some u)→b≠x:=fun b u q nm z=>by subst z;rw[q] at mu;exact nm mu
 refine⟨fun b u q n _ _=>k b u (hb b n) q,fun b u q n _ _=>⟨u.slots,k b u (hb b n) q⟩,fun b u q n _=>by rw[Zak (hx b n)];exact n,fun b u q _=> ?_,
  fun b xs q=>by rw[Zak (hm b _ q fun z=>z)];exact q,fun b u xs q=>by rw[Zak (hm b _ q fun z=>z)];exact q,fun b ps q=>⟨#[],by rw[Zak (hm b _ q fun z=>z),q];simp⟩⟩
 by_cases hbe:b=e
 ·subst hbe;exact heo
 ·exact⟨u,k b u hbe q⟩
end
def trk (h:Heap)(H:Hp):List Addr:=(List.range h.objs.size).filter fun a=>(H a).isSome
def ZlD (h:Heap)(H:Hp):Heap:=PySem.W.hideAll h (trk h H)
theorem Zjf (h:Heap)(H:Hp):(ZlD h H).objs.size=h.objs.size:=PySem.W.hideAll_size _ _
theorem ZlE {H:Hp}(e:h.get? b=some o)(n:H b=none):(ZlD h H).get? b=some o:=
 PySem.W.hideAll_get _ e fun hm=>by
  have q:(H b).isSome=true:=(QeX.mp hm).2;rw[n] at q;simp at q
theorem ZnY {H:Hp}(e:(ZlD h H).get? b=some o):h.get? b=some o∧H b=none:=by
 have e':h.get? b=some o:=PySem.W.of_hideAll (trk h H) e;refine⟨e',?_⟩
 cases q:H b with
 |none=>rfl
 |some x=>
  have hm:b∈trk h H:=QeX.mpr ⟨Qa1.mpr (Qar e'),by simp[q]⟩;have z:(ZlD h H).get? b=none:=PySem.W.hideAll_none (trk h H) hm;rw[z] at e;cases e
def ZnZ (g h:Heap)(L:Addr):List (Addr×Obj):=(List.range h.objs.size).filterMap fun a=>if a=L∨(g.get? a).isSome=true then none else(h.get? a).map fun o=>(a,o)
def rest (g h:Heap)(L d:Addr):List (Addr×Obj):=(ZnZ g h L).filter fun p=>decide (p.1≠d)
structure Mod (K:PySem.W.Frag)(mg:Str→Option Value)(base:Heap):Prop where
 kin:K.In base
 glob:base.Ns mainGlobals mg
 blt:∃mb,base.Ns builtinsNs mb∧∀x:Str,x≠ "__name__" →mb x=bootBuiltins x
 nolimit:base.NoLimit
structure Cx where
 prog:Program
 w:World
 K:PySem.W.Frag
 mg:Str→Option Value
 base:Heap
 A:Around
 N:List Str
 s₀:Shared
 H₀:Hp
 env:Env
 outer:List Env
 stack:List Env
 ex:List Addr
 fn:Str→Bool
 calm:Bool
 pn:List (Addr×Obj)
 xe:Value→Shared→Prop
def frs (l:List Env):List Addr:=l.filterMap (·.frame)
abbrev Cx.fs (X:Cx):List Addr:=frs X.outer
def Vis (sc:Scope)(x:Str):Prop:=sc.names.lookup x=some .local∨sc.names.lookup x=some .cell∨sc.names.lookup x=some .free
def Loc (sc:Scope)(x:Str):Prop:=sc.names.lookup x=some .local∨sc.names.lookup x=some .cell
def ZqM (env:Env)(h:Heap)(m:Str→Option Value)(x:Str)(u:Value):Prop:=
 (env.kindOf x=some .local∧m x=some u)∨((env.kindOf x=some .cell∨env.kindOf x=some .free)∧∃c,env.cells.lookup x=some c∧h.IsCell c (some u))
structure Cx.Ok (X:Cx):Prop where
 mod:Mod X.K X.mg X.base
 kind:X.env.scope.kind= .function
 glob:X.env.globals=mainGlobals
 blt:X.env.builtins=builtinsNs
 above:X.s₀.heap.objs.size≤X.env.locals
 inj:∀x y c,X.env.cells.lookup x=some c→X.env.cells.lookup y=some c→x=y
 has:∀x,(X.env.kindOf x=some .cell∨X.env.kindOf x=some .free)→∃c,X.env.cells.lookup x=some c
 cab:∀x c,X.fn x=true→X.env.cells.lookup x=some c→X.s₀.heap.objs.size≤c
 hd:X.calm=true→X.A.handled=none
 frames:X.A.frames=some X.stack
 stk:X.stack=X.outer∨(X.stack=X.env::X.outer∧X.env.frame=some X.env.locals)
 exf:∀b∈X.ex,b≠X.env.locals∧∀x c,X.env.cells.lookup x=some c→c≠b
 bs:∀b o,X.base.get? b=some o→X.s₀.heap.get? b=some o∧X.H₀ b=none
 bsz:X.base.objs.size≤X.s₀.heap.objs.size
 noex:∀b o,X.base.get? b=some o→b∉X.ex
 exfs:∀b∈X.ex,b∉X.fs
 funs:X.s₀.heap.FunFrames X.base X.outer
 frf:∀b∈X.fs,X.H₀ b=none
structure Inv (X:Cx)(qc:List (Addr×Obj))(σ:List (Option V))(H:Hp)(s:Shared):Prop where
 ok:X.Ok
 os:s.os=X.s₀.os
 bare:AllBare s.gens
 base:Un X.fs X.ex X.H₀ H X.s₀.heap s.heap
 loc:∃m,s.heap.Ns X.env.locals m∧∀(i:Nat) (x:Str) (v:V),X.N[i]?=some x→σ[i]?=some (some v)→Vis X.env.scope x→∃u,ZaY v u∧ZqM X.env s.heap m x u
 cell:∀x c,X.env.cells.lookup x=some c→∃v,s.heap.IsCell c v
 free:H X.env.locals=none
 freeC:∀x c,X.env.cells.lookup x=some c→H c=none
 pin:∀p∈X.pn++qc,s.heap.get? p.1=some p.2∧H p.1=none∧p.1≠X.env.locals∧p.1∉X.fs∧∀v,p.2.data≠ .cell v
 hok:HOk X.prog X.w H s.heap
 len:σ.length=X.N.length
section
variable {X:Cx}{σ:List (Option V)}{H H':Hp}
theorem Cx.Ok.nofr (ok:X.Ok)(e:X.base.get? b=some o):b∉X.fs:=fun hb=>by
 have:=(ok.funs.mem hb).1;rw[e] at this;cases this
theorem Inv.bs (I:Inv X qc σ H s):∀b o,X.base.get? b=some o→s.heap.get? b=some o∧H b=none:=fun b o e=>
 ⟨I.base.keep b o (I.ok.bs b o e).1 (I.ok.bs b o e).2 (I.ok.nofr e) (I.ok.noex b o e),I.base.free b o (I.ok.bs b o e).1 (I.ok.bs b o e).2 (I.ok.noex b o e)⟩
theorem Inv.bk (I:Inv X qc σ H s):∀b o,X.base.get? b=some o→s.heap.get? b=some o:=fun b o e=>(I.bs b o e).1
theorem Inv.mod (I:Inv X qc σ H s):Mod X.K X.mg X.base:=I.ok.mod
theorem Inv.kIn (I:Inv X qc σ H s):X.K.In s.heap:=I.ok.mod.kin.keeps I.bk
theorem Inv.lt (I:Inv X qc σ H s):X.env.locals<s.heap.objs.size:=let⟨_,hn,_⟩:=I.loc;hn.lt
theorem Inv.sz (I:Inv X qc σ H s):X.s₀.heap.objs.size≤s.heap.objs.size:=QaE I.ok.above (Qcx I.lt)
theorem Inv.nofs (I:Inv X qc σ H s)(h:s.heap.objs.size≤a):a∉X.fs:=fun hb=>by
 obtain⟨_,o,ho,_⟩:=I.ok.funs.mem hb;exact absurd (QaT (Qar ho) (QaE I.sz h)) (Qba _)
theorem Inv.cne (I:Inv X qc σ H s):∀x c,X.env.cells.lookup x=some c→c≠X.env.locals:=fun x c e z=>by
 obtain⟨v,o,ho,hd⟩:=I.cell x c e;obtain⟨m,⟨o',es,ep,ho',hd',_⟩,_⟩:=I.loc;rw[z,ho'] at ho;cases ho;rw[hd'] at hd;cases hd
theorem Inv.funs (I:Inv X qc σ H s):s.heap.FunFrames X.base X.outer:=by
 have all:∀(l:List Env),(∀b∈frs l,b∈X.fs)→X.s₀.heap.FunFrames X.base l→s.heap.FunFrames X.base l:=by
  intro l
  induction l with
  |nil=>intro _ _;trivial
  |cons env r ih=>
   intro hs hl;obtain⟨hk,⟨L,o,hf,hn,ho,hd⟩,hr⟩:=hl;have hL:L∈X.fs:=hs L (by unfold frs;rw[QdW,hf];exact Qai);obtain⟨sl,e⟩:=I.base.slot L o ho (I.ok.frf L hL) hL fun z=>I.ok.exfs L z hL;exact⟨hk,⟨L,_,hf,hn,e,hd⟩,ih (fun b hb=>hs b (by unfold frs;rw[QdW,hf];exact Qao _ hb)) hr⟩
 exact all X.outer (fun _ hb=>hb) I.ok.funs
theorem Inv.stack (I:Inv X qc σ H s):s.heap.FunFrames X.base X.stack:=by
 rcases I.ok.stk with e|⟨e,hf⟩
 ·rw[e];exact I.funs
 ·rw[e];obtain⟨m,hn,_⟩:=I.loc;refine .cons (by rw[I.ok.kind];decide) hf hn ?_ I.funs;exact Heap.get?_none_of_le (QaE I.ok.bsz I.ok.above)
theorem Inv.stkSub (I:Inv X qc σ H s):∀b∈frs X.stack,b∈X.env.locals::X.fs:=fun b hb=>by
 rcases I.ok.stk with e|⟨e,hf⟩
 ·rw[e] at hb;exact Qao _ hb
 ·rw[e] at hb;unfold frs at hb;rw[QdW,hf] at hb;exact hb
theorem Inv.stkFree (I:Inv X qc σ H s):∀b∈frs X.stack,H b=none:=fun b hb=>by
 rcases Qaz.mp (I.stkSub b hb) with e|hb
 ·rw[e];exact I.free
 ·obtain⟨_,o,ho,_⟩:=I.ok.funs.mem hb;exact I.base.free b o ho (I.ok.frf b hb) fun z=>I.ok.exfs b z hb
theorem Inv.step (I:Inv X qc σ H s)
  (hch:∀b∈ch,(b∈X.ex∨X.s₀.heap.objs.size≤b)∧b≠X.env.locals∧(∀x c,X.env.cells.lookup x=some c→c≠b)∧∀p∈X.pn++qc,p.1≠b)
  (keep:∀b o,b≠X.env.locals→b∉X.fs→b∉ch→s.heap.get? b=some o→H b=none→h'.get? b=some o)
  (slot:∀b o,b≠X.env.locals→b∈X.fs→b∉ch→s.heap.get? b=some o→H b=none→∃sl,h'.get? b=some {o with slots:=sl }) (free:∀b o,b∉ch→s.heap.get? b=some o→H b=none→H' b=none)
  (there:∀b o,b∉ch→s.heap.get? b=some o→∃o',h'.get? b=some o')
  (tups:∀b xs,H b=some (.tup xs)→H' b=some (.tup xs)) (frzs:∀b o u,H b=some (.frz o u)→H' b=some (.frz o u)) (tbls:∀b ps,H b=some (.tbl ps)→∃more,H' b=some (.tbl (ps++more)))
  (ns:∀m,s.heap.Ns X.env.locals m→h'.Ns X.env.locals m) (hok:HOk X.prog X.w H' h') (hg:AllBare g'):
  Inv X qc σ H' {s with heap:=h',gens:=g',drawn:=d',toks:=t' }:=by
 have neL:∀b o,X.s₀.heap.get? b=some o→b≠X.env.locals:=fun b o e=>QaJ (QaT (Qar e) I.ok.above)
 have neC:∀b o,X.s₀.heap.get? b=some o→b∉X.ex→b∉ch:=fun b o e hx hb=>by
  rcases(hch b hb).1 with z|z
  ·exact hx z
  ·exact absurd (QaT (Qar e) z) (Qba _)
 have cellK:∀x c,X.env.cells.lookup x=some c→∀v,s.heap.IsCell c v→h'.IsCell c v:=fun x c e v ⟨o,ho,hd⟩=>by
  have nch:c∉ch:=fun z=>(hch c z).2.2.1 x c e rfl;by_cases hc:c∈X.fs
  ·obtain⟨sl,q⟩:=slot c o (I.cne x c e) hc nch ho (I.freeC x c e);exact⟨_,q,hd⟩
  ·exact⟨o,keep c o (I.cne x c e) hc nch ho (I.freeC x c e),hd⟩
 refine⟨I.ok,I.os,hg,⟨fun b o e n hb hx=> ?_,fun b o e n hb hx=> ?_,fun b o e n hx=> ?_,fun b o e hx=> ?_,fun b xs e=>tups b xs (I.base.tups b xs e),fun b o xs e=>frzs b o xs (I.base.frzs b o xs e),fun b ps e=> ?_⟩,?_,fun x c e=> ?_,?_,fun x c e=> ?_,fun p hp=> ?_,hok,I.len⟩
 ·exact keep b o (neL b o e) hb (neC b o e hx) (I.base.keep b o e n hb hx) (I.base.free b o e n hx)
 ·obtain⟨sl,e1⟩:=I.base.slot b o e n hb hx;obtain⟨sl',e2⟩:=slot b _ (neL b o e) hb (neC b o e hx) e1 (I.base.free b o e n hx);exact⟨sl',e2⟩
 ·obtain⟨o',e1⟩:=I.base.there b o e hx;exact free b o' (neC b o e hx) e1 (I.base.free b o e n hx)
 ·obtain⟨o',e1⟩:=I.base.there b o e hx;exact there b o' (neC b o e hx) e1
 ·obtain⟨m1,e1⟩:=I.base.tbls b ps e;obtain⟨m2,e2⟩:=tbls b _ e1;exact⟨m1++m2,by rw[e2,Array.append_assoc]⟩
 ·obtain⟨m,hn,hl⟩:=I.loc;refine⟨m,ns m hn,fun i x v e1 e2 e3=> ?_⟩;obtain⟨u,r,l⟩:=hl i x v e1 e2 e3;refine⟨u,r,?_⟩;rcases l with l|⟨k,c,e,z⟩
  ·exact .inl l
  ·exact .inr ⟨k,c,e,cellK x c e _ z⟩
 ·obtain⟨v,z⟩:=I.cell x c e;exact⟨v,cellK x c e v z⟩
 ·obtain⟨m,⟨o,_,_,ho,_⟩,_⟩:=I.loc;exact free _ o (fun z=>(hch _ z).2.1 rfl) ho I.free
 ·obtain⟨v,o,ho,hd⟩:=I.cell x c e;exact free c o (fun z=>(hch c z).2.2.1 x c e rfl) ho (I.freeC x c e)
 ·obtain⟨e,n,ne,nf,d⟩:=I.pin p hp;have nch:p.1∉ch:=fun z=>(hch p.1 z).2.2.2 p hp rfl;exact⟨keep p.1 p.2 ne nf nch e n,free p.1 p.2 nch e n,ne,nf,d⟩
theorem Inv.un (I:Inv X qc σ H s)(u:Un X.fs [] H H' s.heap h')(hok:HOk X.prog X.w H' h'):Inv X qc σ H' {s with heap:=h',toks:=t' }:=by
 obtain⟨m,⟨o,es,ep,ho,r⟩,_⟩:=id I.loc;obtain⟨sl,hL⟩:=u.any ho I.free (by simp)
 exact I.step (g':=s.gens) (d':=s.drawn) (ch:=[]) (fun _ z=>nomatch z) (fun b o _ hb _ e n=>u.keep b o e n hb (by simp)) (fun b o _ hb _ e n=>u.slot b o e n hb (by simp)) (fun b o _ e n=>u.free b o e n (by simp)) (fun b o _ e=>u.there b o e (by simp)) u.tups u.frzs u.tbls (fun m' hm=>by
  obtain⟨o',es',ep',ho',r'⟩:=hm
  rw[ho] at ho';cases ho'
  exact⟨_,es',ep',hL,r'⟩) hok I.bare
theorem Inv.call (I:Inv X qc σ H s)(u:Un (frs X.stack) ch H H' s.heap h')(hok:HOk X.prog X.w H' h')(hg:AllBare g')
  (hch:∀b∈ch,(b∈X.ex∨X.s₀.heap.objs.size≤b)∧b≠X.env.locals∧(∀x c,X.env.cells.lookup x=some c→c≠b)∧∀p∈X.pn++qc,p.1≠b):
  Inv X qc σ H' {s with heap:=h',gens:=g',drawn:=d',toks:=t' }:=by
 obtain⟨m,⟨o,es,ep,ho,r⟩,_⟩:=id I.loc;obtain⟨sl,hL⟩:=u.any ho I.free fun z=>(hch _ z).2.1 rfl
 exact I.step (ch:=ch) hch (fun b o hL hb hc e n=>u.keep b o e n (fun z=>(Qaz.mp (I.stkSub b z)).elim hL hb) hc) (fun b o _ _ hc e n=>u.any e n hc) (fun b o hc e n=>u.free b o e n hc) (fun b o hc e=>u.there b o e hc) u.tups u.frzs u.tbls (fun m' hm=>by
  obtain⟨o',es',ep',ho',r'⟩:=hm
  rw[ho] at ho';cases ho'
  exact⟨_,es',ep',hL,r'⟩) hok hg
theorem Inv.turned {it:Addr}(I:Inv X qc σ H s)(k:∀b o,b≠it→s.heap.get? b=some o→h'.get? b=some o)(hn:H it=none)(hL:it≠X.env.locals)
  (h1:it∈X.ex∨X.s₀.heap.objs.size≤it) (h2:∀x c,X.env.cells.lookup x=some c→c≠it) (h3:∀p∈X.pn++qc,p.1≠it):Inv X qc σ H {s with heap:=h',toks:=t' }:=by
 have nit:∀b u,H b=some u→b≠it:=fun b u e z=>by rw[z,hn] at e;cases e
 refine I.step (g':=s.gens) (d':=s.drawn) (ch:=[it]) (fun b hb=> ?_) (fun b o _ _ hc e _=>k b o (fun z=>hc (by simp[z])) e) (fun b o _ _ hc e _=>⟨o.slots,k b o (fun z=>hc (by simp[z])) e⟩) (fun _ _ _ _ n=>n)
  (fun b o hc e=>⟨o,k b o (fun z=>hc (by simp[z])) e⟩) (fun _ _ e=>e) (fun _ _ _ e=>e) (fun b ps e=>⟨#[],by rw[e];simp⟩) (fun m hm=> ?_) (fun b u e=> ?_) I.bare
 ·have e:b=it:=by simpa using hb
  subst e;exact⟨h1,hL,h2,h3⟩
 ·obtain⟨o,es,ep,ho,r⟩:=hm;exact⟨o,es,ep,k _ o (Ne.symm hL) ho,r⟩
 ·refine(I.hok b u e).stay (fun c v hc q=>k c v ?_ q) (fun _ q=>q) fun _ _ q=>q;rcases hc with z|z
  ·rw[z];exact nit b u e
  ·exact nit c _ z
theorem Inv.tok (I:Inv X qc σ H s)(t:Nat):Inv X qc σ H {s with toks:=t }:=I.un (h':=s.heap) (t':=t) Un.refl I.hok
theorem Inv.kept {t':Nat}(I:Inv X qc σ H s)(k:∀b u,s.heap.get? b=some u→h'.get? b=some u):Inv X qc σ H {s with heap:=h',toks:=t' }:=I.un (Un.kept k) (I.hok.kept k)
theorem Inv.laid {a:Addr}{o:HO}{t':Nat}(I:Inv X qc σ H s)(k:∀b u,s.heap.get? b=some u→h'.get? b=some u)(hp:s.heap.objs.size≤a)(new:Zbm X.prog X.w (upd H a o) h' a o):
  Inv X qc σ (upd H a o) {s with heap:=h',toks:=t' }:=I.un (Un.laid k hp (I.hok.fresh hp)) (I.hok.laid k hp new)
theorem Inv.write {x e:Addr}{o:HO}{t':Nat}(I:Inv X qc σ H s)(mu:Mut (H x))(he:e=x∨H e=some (.own x))(k:∀b u,b≠e→s.heap.get? b=some u→h'.get? b=some u)(heo:∃u,h'.get? e=some u)
  (new:Zbm X.prog X.w (upd H x o) h' x o):Inv X qc σ (upd H x o) {s with heap:=h',toks:=t' }:=I.un (Un.write mu he k heo) (I.hok.write mu he k heo new)
theorem Inv.pins_of {pins':List (Addr×Obj)}(I:Inv X qc σ H s)(h:∀p∈pins',s.heap.get? p.1=some p.2∧H p.1=none∧p.1≠X.env.locals∧p.1∉X.fs∧∀v,p.2.data≠ .cell v):Inv X pins' σ H s:=
 ⟨I.ok,I.os,I.bare,I.base,I.loc,I.cell,I.free,I.freeC,fun p hp=>(Qaq.mp hp).elim (fun z=>I.pin p (Qat _ z)) (h p),I.hok,I.len⟩
theorem Zhz (hN:N.Nodup)(a:N[i]?=some x)(b:N[j]?=some x):i=j:=by
 obtain⟨h1,e1⟩:=Qaf.mp a;obtain⟨h2,e2⟩:=Qaf.mp b;exact(QeO hN).mp (e1.trans e2.symm)
theorem Zjg {v:V}(I:Inv X qc σ H s)(hN:X.N.Nodup)(hi:X.N[i]?=some x)(hx:Loc X.env.scope x)(r:ZaY v u)
  (h:∀s',Inv X qc (σ.set i (some v)) H s'→(∃a,Heap.SameBut a s.heap s'.heap∧(a=X.env.locals∨X.env.cells.lookup x=some a))→Q () s') (hf:X.fn x=true∨X.env.scope.names.lookup x=some .local:=by first|exact .inl rfl|exact .inr rfl|assumption):wpAny M A (storeName X.env x u) Q E s:=by
 obtain⟨m,hn,hl⟩:=id I.loc;have hcls:(X.env.scope.kind== .class ||(X.env.scope.kind== .module && X.env.locals !=X.env.globals))=false:=by rw[I.ok.kind];rfl
 have hiσ:i<σ.length:=by rw[I.len];exact(Qaf.mp hi).1
 have cne:=I.cne
 have tracked:∀{a:Addr} {h':Heap},(∃o,s.heap.get? a=some o∧H a=none)→Heap.SameBut a s.heap h'→HOk X.prog X.w H h':=fun{a h'} ha hs b ob e=>by
  obtain⟨_,_,qr⟩:=ha;refine(I.hok b ob e).stay (fun c w' hc q=>(hs.2 c ?_).trans q) (fun _ q=>q) fun _ _ q=>q;rintro rfl;rcases hc with rfl|hc
  ·rw[qr] at e;cases e
  ·rw[qr] at hc;cases hc
 rcases hx with hk|hk
 ·refine wpAny_storeName_local hk hn (fun h' hn' hs=> ?_) hcls;obtain⟨oL,_,_,hoL,_⟩:=id hn;refine h _ ⟨I.ok,I.os,I.bare,⟨fun b o e n hb hx=> ?_,fun b o e n hb hx=> ?_,I.base.free,fun b o e hx=> ?_,I.base.tups,I.base.frzs,I.base.tbls⟩,⟨_,hn',fun j y v' e1 e2 e3=> ?_⟩,fun y c e=> ?_,I.free,I.freeC,fun p hp=> ?_,tracked ⟨oL,hoL,I.free⟩ hs,by simpa using I.len⟩ ⟨_,hs,.inl rfl⟩
  ·exact(hs.2 b (QaJ (QaT (Qar e) I.ok.above))).trans (I.base.keep b o e n hb hx)
  ·obtain⟨sl,e1⟩:=I.base.slot b o e n hb hx;exact⟨sl,(hs.2 b (QaJ (QaT (Qar e) I.ok.above))).trans e1⟩
  ·obtain⟨o',e1⟩:=I.base.there b o e hx;exact⟨o',(hs.2 b (QaJ (QaT (Qar e) I.ok.above))).trans e1⟩
  ·by_cases hj:j=i
   ·subst hj;rw[hi] at e1;cases e1;rw[Qdt hiσ] at e2;cases e2;exact⟨u,r,.inl ⟨hk,by simp⟩⟩
   ·rw[List.getElem?_set_ne (Ne.symm hj)] at e2;obtain⟨u',r',q⟩:=hl j y v' e1 e2 e3;refine⟨u',r',?_⟩;rcases q with⟨k,e⟩|⟨k,c,e,z⟩
    ·refine .inl ⟨k,?_⟩
     have:y≠x:=fun e=>hj (Zhz hN e1 (e ▸ hi));simp[this,e]
    ·exact .inr ⟨k,c,e,z.sameBut hs (cne y c e)⟩
  ·obtain⟨w',z⟩:=I.cell y c e;exact⟨w',z.sameBut hs (cne y c e)⟩
  ·obtain⟨e,n,ne,nf,d⟩:=I.pin p hp;exact⟨(hs.2 p.1 ne).trans e,n,ne,nf,d⟩
 ·have hfn:X.fn x=true:=by
   rcases hf with z|z
   ·exact z
   ·rw[z] at hk;cases hk
  obtain⟨c,hc⟩:=I.ok.has x (.inl hk);obtain⟨w',z⟩:=I.cell x c hc;refine wpAny_storeName_cell I.ok.kind hk hc z (fun h' hc' hs=> ?_);obtain⟨oc,hoc,hocd⟩:=id z;refine h {s with heap:=h' } ⟨I.ok,I.os,I.bare,⟨fun b o e n hb hx=> ?_,fun b o e n hb hx=> ?_,I.base.free,fun b o e hx=> ?_,I.base.tups,I.base.frzs,I.base.tbls⟩,⟨m,hn.sameBut hs (Ne.symm (cne x c hc)),fun j y v' e1 e2 e3=> ?_⟩,fun y c' e=> ?_,I.free,I.freeC,fun p hp=> ?_,tracked ⟨oc,hoc,I.freeC x c hc⟩ hs,by simpa using I.len⟩ ⟨c,hs,.inr hc⟩
  ·exact(hs.2 b (QaJ (QaT (Qar e) (I.ok.cab x c hfn hc)))).trans (I.base.keep b o e n hb hx)
  ·obtain⟨sl,e1⟩:=I.base.slot b o e n hb hx;exact⟨sl,(hs.2 b (QaJ (QaT (Qar e) (I.ok.cab x c hfn hc)))).trans e1⟩
  ·obtain⟨o',e1⟩:=I.base.there b o e hx;exact⟨o',(hs.2 b (QaJ (QaT (Qar e) (I.ok.cab x c hfn hc)))).trans e1⟩
  ·by_cases hj:j=i
   ·subst hj;rw[hi] at e1;cases e1;rw[Qdt hiσ] at e2;cases e2;exact⟨u,r,.inr ⟨.inl hk,c,hc,hc'⟩⟩
   ·rw[List.getElem?_set_ne (Ne.symm hj)] at e2;obtain⟨u',r',q⟩:=hl j y v' e1 e2 e3;refine⟨u',r',?_⟩;rcases q with q|⟨k,c',e,z'⟩
    ·exact .inl q
    ·refine .inr ⟨k,c',e,z'.sameBut hs ?_⟩;rintro rfl;exact hj (Zhz hN e1 (I.ok.inj _ _ _ e hc ▸ hi))
  ·by_cases hcc:c'=c
   ·subst hcc;exact⟨_,hc'⟩
   ·obtain⟨w2,z2⟩:=I.cell y c' e;exact⟨w2,z2.sameBut hs hcc⟩
  ·obtain⟨e,n,ne,nf,d⟩:=I.pin p hp;refine⟨(hs.2 p.1 ?_).trans e,n,ne,nf,d⟩;intro q;rw[q,hoc] at e;have q':oc=p.2:=Qby e;exact d w' (by rw[←q'];exact hocd)
theorem ZeG {v:V}(I:Inv X qc σ H s)(hN:X.N.Nodup)(hi:X.N[i]?=some x)(hx:Loc X.env.scope x)(r:ZaY v u)
  (h:∀s',Inv X qc (σ.set i (some v)) H s'→Q () s') (hf:X.fn x=true∨X.env.scope.names.lookup x=some .local:=by first|exact .inl rfl|exact .inr rfl|assumption):wpAny M A (storeName X.env x u) Q E s:=
 Zjg I hN hi hx r (fun s' I' _=>h s' I') hf
theorem Inv.call' (I:Inv X qc σ H s)(ho:s'.os=s.os)(u:Un (frs X.stack) ch H H' s.heap s'.heap)(hok:HOk X.prog X.w H' s'.heap)(hg:AllBare s'.gens)
  (hch:∀b∈ch,(b∈X.ex∨X.s₀.heap.objs.size≤b)∧b≠X.env.locals∧(∀x c,X.env.cells.lookup x=some c→c≠b)∧∀p∈X.pn++qc,p.1≠b):Inv X qc σ H' s':=by
 obtain⟨h',g',d',t',o'⟩:=s';have e:o'=s.os:=ho;subst e;exact I.call (g':=g') (t':=t') (d':=d') u hok hg hch
end
abbrev XK:=Value→Option Addr→Hp→Prop
abbrev St:=List (Option V)
abbrev VK:=V→Hp→Prop
abbrev TE:=St→Hp→VK→Prop
abbrev TT:=St→Hp→(Bool→Hp→Prop)→Prop
abbrev TA:=St→Hp→(List V→Hp→Prop)→Prop
structure Zi6 where
 nx:St→Hp→Prop
 rt:VK
 bk:St→Hp→Prop:=fun _ _=>False
 ct:St→Hp→Prop:=fun _ _=>False
abbrev TS:=Zi6→St→Hp→Prop
def EP (X:Cx)(qc:List (Addr×Obj))(σ:St)(Q:VK)(u:Value)(s':Shared):Prop:=∃v H',Inv X qc σ H' s'∧ZaY v u∧Q v H'
def TP (X:Cx)(qc:List (Addr×Obj))(σ:St)(Q:Bool→Hp→Prop)(b:Bool)(s':Shared):Prop:=∃H',Inv X qc σ H' s'∧Q b H'
def AP (X:Cx)(qc:List (Addr×Obj))(σ:St)(Q:List V→Hp→Prop)(us:List Value)(s':Shared):Prop:=∃vs H',Inv X qc σ H' s'∧ZaR vs us∧Q vs H'
def SP (X:Cx)(qc:List (Addr×Obj))(D:Zi6)(f:Flow)(s':Shared):Prop:=
 match f with
 | .next=>∃σ' H',Inv X qc σ' H' s'∧D.nx σ' H'
 | .brk=>∃σ' H',Inv X qc σ' H' s'∧D.bk σ' H'
 | .cont=>∃σ' H',Inv X qc σ' H' s'∧D.ct σ' H'
 | .ret u=>∃v σ' H',Inv X qc σ' H' s'∧ZaY v u∧D.rt v H'
def PE (X:Cx)(e:Expr)(t:TE):Prop:=
 ∀(qc:List (Addr×Obj)) (s:Shared) (σ:St) (H:Hp) (Q:VK),Inv X qc σ H s→t σ H Q→wpAny (model X.prog X.w) X.A (eval e X.env) (EP X qc σ Q) X.xe s
def PT (X:Cx)(e:Expr)(t:TT):Prop:=
 ∀(qc:List (Addr×Obj)) (s:Shared) (σ:St) (H:Hp) (Q:Bool→Hp→Prop),Inv X qc σ H s→t σ H Q→wpAny (model X.prog X.w) X.A (isTrue e X.env (eval e X.env)) (TP X qc σ Q) X.xe s
def PW (X:Cx)(e:Expr)(t:TT):Prop:=
 ∀(qB:Sem Value) (qc:List (Addr×Obj)) (s:Shared) (σ:St) (H:Hp) (Q:Bool→Hp→Prop),Inv X qc σ H s→t σ H Q→wpAny (model X.prog X.w) X.A (isTrue e X.env qB) (TP X qc σ Q) X.xe s
theorem PW.pt {X:Cx}{t:TT}(h:PW X e t):PT X e t:=h _
def PA (X:Cx)(es:List Expr)(t:TA):Prop:=
 ∀(pos:PySem.Pos) (qc:List (Addr×Obj)) (s:Shared) (σ:St) (H:Hp) (Q:List V→Hp→Prop),Inv X qc σ H s→t σ H Q→wpAny (model X.prog X.w) X.A (spliced (backTo pos (starEach es X.env))) (AP X qc σ Q) X.xe s
def PS (X:Cx)(st:Stmt)(t:TS):Prop:=
 ∀(qc:List (Addr×Obj)) (s:Shared) (σ:St) (H:Hp) (D:Zi6),Inv X qc σ H s→t D σ H→wpAny (model X.prog X.w) X.A (exec st X.env) (SP X qc D) X.xe s
def PSs (X:Cx)(st:List Stmt)(t:TS):Prop:=
 ∀(qc:List (Addr×Obj)) (s:Shared) (σ:St) (H:Hp) (D:Zi6),Inv X qc σ H s→t D σ H→wpAny (model X.prog X.w) X.A (execs st X.env) (SP X qc D) X.xe s
theorem thn {α:Type}{t:Sem α}{Q Q':α→Shared→Prop}(h:wpAny M A t Q E s)(hQ:∀a s,Q a s→Q' a s):wpAny M A t Q' E s:=QaZ h hQ fun _ _ x=>x
section
variable {X:Cx}
def Zan (i:Nat):TE:=fun σ H Q=>∃v,σ[i]?=some (some v)∧Q v H
def tC (v:V):TE:=fun _ H Q=>Q v H
theorem Zpo {pos:PySem.Pos}(hN:X.N[i]?=some x)(hv:Vis X.env.scope x)(hd:(x==("__debug__" :Str))=false:=by decide)(hcd:(x==("__classdict__" :Str))=false:=by decide):PE X (.Name x pos) (Zan i):=by
 intro qc s σ H Q I h;obtain⟨v,e,h⟩:=h;obtain⟨m,hn,hl⟩:=I.loc;obtain⟨u,r,l⟩:=hl i x v hN e hv;have fin:EP X qc σ Q u s:=⟨v,H,I,r,h⟩;rcases l with⟨hk,hm⟩|⟨hk,c,hc,qj⟩
 ·exact wpAny_Name (wpAny_loadName_local I.ok.kind hk hn hm fin) hd
 ·rcases hk with hk|hk
  ·exact wpAny_Name (wpAny_loadName_cell I.ok.kind hk hc qj fin) hd
  ·exact wpAny_Name (wpAny_loadName_free I.ok.kind hk hc qj fin hcd) hd
theorem Zae {i j pos}:PE X (.Constant (.int i) j pos) (tC (.int i)):=fun _ _ _ H _ I h=>wpAny_Constant_int ⟨.int i,H,I.tok _,⟨_,rfl⟩,h⟩
theorem Zec {b j pos}:PE X (.Constant (.bool b) j pos) (tC (.bl b)):=fun _ _ _ H _ I h=>Constant_bool ⟨.bl b,H,I,rfl,h⟩
theorem ZhA {j pos}:PE X (.Constant .none j pos) (tC .non):=fun _ _ _ H _ I h=>Constant_none ⟨.non,H,I,rfl,h⟩
def Gl (X:Cx)(x:Str):Prop:=X.env.kindOf x=some .globalImplicit
theorem Zjh {σ:St}{H:Hp}{pos:PySem.Pos}{Q:Value→Shared→Prop}(I:Inv X qc σ H s)(hg:Gl X x)(hm:X.mg x=some u)(h:Q u s)
  (hd:(x==("__debug__" :Str))=false:=by decide):wpAny (model X.prog X.w) X.A (eval (.Name x pos) X.env) Q E s:=
 Qd6 I.ok.kind hg (Calls.loadGlobal_global (by rw[I.ok.glob];exact I.mod.glob.keeps I.bk) hm h) hd
theorem ZbS {σ:St}{H:Hp}{pos:PySem.Pos}{Q:Value→Shared→Prop}(I:Inv X qc σ H s)(hg:Gl X x)(hm:X.mg x=none)(hv:bootBuiltins x=some u)(h:Q u s)
  (hn:x≠ "__name__" :=by decide) (hd:(x==("__debug__" :Str))=false:=by decide):wpAny (model X.prog X.w) X.A (eval (.Name x pos) X.env) Q E s:=by
 obtain⟨mb,h1,h2⟩:=I.mod.blt;exact Qd6 I.ok.kind hg (Calls.loadGlobal_builtin (by rw[I.ok.glob];exact I.mod.glob.keeps I.bk) hm (by rw[I.ok.blt];exact h1.keeps I.bk) ((h2 x hn).trans hv) h) hd
theorem Zn0 {v:V}{pos:PySem.Pos}(hg:Gl X x)(hm:X.mg x=some u)(r:ZaY v u)(hd:(x==("__debug__" :Str))=false:=by decide):PE X (.Name x pos) (tC v):=
 fun _ _ _ H _ I h=>Zjh I hg hm ⟨v,H,I,r,h⟩ hd
variable {a b:Expr}{ta tb:TE}{pos:PySem.Pos}
def PC (X:Cx)(op:CmpOp)(a b:Expr)(t:TE):Prop:=
 ∀(qc:List (Addr×Obj)) (s:Shared) (σ:St) (H:Hp) (Q:VK),Inv X qc σ H s→t σ H Q→
  wpAny (model X.prog X.w) X.A (eval a X.env) (fun v s₁=>wpAny (model X.prog X.w) X.A (eval b X.env) (fun u s₂=>wpAny (model X.prog X.w) X.A (compareOp op v u) (EP X qc σ Q) X.xe s₂) X.xe s₁) X.xe s
theorem ZlF (b:Expr)(h:op≠ .In)(h2:op≠ .NotIn):behindInMarks op b=false:=by
 have e1:(op==CmpOp.In)=false:=by cases op<;>first|rfl|exact absurd rfl h
 have e2:(op==CmpOp.NotIn)=false:=by cases op<;>first|rfl|exact absurd rfl h2
 cases b<;>simp[behindInMarks,e1,e2]
def Zpp (ta:TE):TE:=fun σ H Q=>ta σ H fun x H1=>Q (.bl (!decide (x= .non))) H1
theorem ZaY.none_iff {x:V}{v:Value}(r:ZaY x v):(v==Value.none)=decide (x= .non):=by
 cases x with
 |non=>cases r;rfl
 |bl _=>cases r;rfl
 |int _=>obtain⟨t,rfl⟩:=r;rfl
 |str _=>obtain⟨t,rfl⟩:=r;rfl
 |byt _=>obtain⟨t,rfl⟩:=r;rfl
 |flt _=>obtain⟨t,rfl⟩:=r;rfl
 |ref _=>cases r;rfl
 |ty _=>cases r;rfl
theorem Zji {j pos'}(ha:PE X a ta):PC X .IsNot a (.Constant .none j pos') (Zpp ta):=by
 intro qc s σ H Q I h;refine thn (ha qc s σ H _ I h) fun v s1 ⟨x,H1,I1,r1,q1⟩=> ?_;exact Constant_none (isnot_none_gen ⟨.bl _,H1,I1,by rw[r1.none_iff];rfl,q1⟩)
def tB (t:TE):TT:=fun σ H Q=>t σ H fun x H1=>∃c,x= .bl c∧Q c H1
theorem Zm4 {t:TE}(h:PC X op a b t)(h1:behindInMarks op b=false:=by first|exact ZlF _ (by decide) (by decide)|rfl):PT X (.Compare a [op] [b] pos) (tB t):=by
 intro qc s σ H Q I hw;refine QeY (thn (h qc s σ H _ I hw) fun v s1 h1=>thn h1 fun u s2 h2=>thn h2 fun c s3 ⟨x,H1,I1,r1,q1⟩=> ?_) h1;obtain⟨d,rfl,q⟩:=q1;cases r1;exact Qca ⟨H1,I1,q⟩
theorem Zem {t:TE}(h:PE X e t)(he:∀qB,isTrue e X.env qB=(do let v←qB;standAt e.pos;holding [v] (truthy v)):=by intro _;rfl):PT X e (tB t):=by
 intro qc s σ H Q I hw;refine isTrue_plain (thn (h qc s σ H _ I hw) fun v s1 ⟨x,H1,I1,r1,q1⟩=> ?_) (he _);obtain⟨d,rfl,q⟩:=q1;cases r1;exact Qca ⟨H1,I1,q⟩
variable {tA tB':TT}{rest:List Expr}
def Zq2 (t u:TT):TT:=fun σ H Q=>t σ H fun c H1=>if c=true then u σ H1 Q else Q false H1
def tOr (t u:TT):TT:=fun σ H Q=>t σ H fun c H1=>if c=true then Q true H1 else u σ H1 Q
def Zpe (t:TT):TT:=fun σ H Q=>t σ H fun c H1=>Q (!c) H1
theorem Zgs (ha:PT X a tA):PW X (.BoolOp .And [a] pos) tA:=by
 intro wh qc s σ H Q I h;refine isTrue_and (thn (ha qc s σ H Q I h) fun c s1 e=> ?_)
 cases c with
 |true=>exact isTrue_and_nil e
 |false=>exact e
theorem Zm5 (ha:PT X a tA):PW X (.BoolOp .Or [a] pos) tA:=by
 intro wh qc s σ H Q I h;refine isTrue_or (thn (ha qc s σ H Q I h) fun c s1 e=> ?_)
 cases c with
 |false=>exact isTrue_or_nil e
 |true=>exact e
theorem Zjj (ha:PT X a tA)(hb:PW X (.BoolOp .And (b::rest) pos) tB'):PW X (.BoolOp .And (a::b::rest) pos) (Zq2 tA tB'):=by
 intro wh qc s σ H Q I h;refine isTrue_and (thn (ha qc s σ H _ I h) fun c s1 ⟨H1,I1,q1⟩=> ?_)
 cases c with
 |true=>exact hb wh qc s1 σ H1 Q I1 q1
 |false=>exact⟨H1,I1,q1⟩
theorem Zpq (ha:PT X a tA)(hb:PW X (.BoolOp .Or (b::rest) pos) tB'):PW X (.BoolOp .Or (a::b::rest) pos) (tOr tA tB'):=by
 intro wh qc s σ H Q I h;refine isTrue_or (thn (ha qc s σ H _ I h) fun c s1 ⟨H1,I1,q1⟩=> ?_)
 cases c with
 |true=>exact⟨H1,I1,q1⟩
 |false=>exact hb wh qc s1 σ H1 Q I1 q1
theorem Zfw (ha:PT X a tA):PT X (.UnaryOp .Not a pos) (Zpe tA):=by
 intro qc s σ H Q I h;exact isTrue_not (ha qc s σ H (fun c H1=>Q (!c) H1) I h)
def tIf (t:TT)(ta tb:TE):TE:=fun σ H Q=>t σ H fun c H1=>if c=true then ta σ H1 Q else tb σ H1 Q
theorem ZhB (hc:PT X c tA)(ha:PE X a ta)(hb:PE X b tb):PE X (.IfExp c a b pos) (tIf tA ta tb):=by
 intro qc s σ H Q I h;refine wpAny_IfExp (thn (hc qc s σ H _ I h) fun d s1 ⟨H1,I1,q1⟩=> ?_)
 cases d with
 |true=>exact ha qc s1 σ H1 Q I1 q1
 |false=>exact hb qc s1 σ H1 Q I1 q1
end
def SqL (K:PySem.W.Frag)(H:Hp)(a:Addr)(xs:List V):Prop:=
 Rd H a (.lst xs)∨
  ∃(o:Obj) (its:Array Value) (n:Nat),K.lookup a=some o∧o.cls= .type "list" ∧o.dict=none∧o.data= .seq its n∧its.size≤sizeLine∧ZaR xs its.toList
def SqT (K:PySem.W.Frag)(H:Hp)(a:Addr)(xs:List V):Prop:=
 Rd H a (.tup xs)∨
  ∃(o:Obj) (its:Array Value) (n:Nat),K.lookup a=some o∧o.cls= .type "tuple" ∧o.data= .seq its n∧its.size≤sizeLine∧ZaR xs its.toList
def Zsc:Value→Option V
 | .none=>some .non
 | .bool b=>some (.bl b)
 | .int i _=>some (.int i)
 | .str x _=>some (.str x)
 | .bytes b _=>some (.byt b)
 | .float b _=>some (.flt b)
 | .ref a=>some (.ref a)
 | .type n=>some (.ty n)
 |_=>none
theorem ZaY.abs {x:V}(r:ZaY x u):Zsc u=some x:=by
 cases x with
 |non=>cases r;rfl
 |bl _=>cases r;rfl
 |int _=>obtain⟨t,rfl⟩:=r;rfl
 |str _=>obtain⟨t,rfl⟩:=r;rfl
 |byt _=>obtain⟨t,rfl⟩:=r;rfl
 |flt _=>obtain⟨t,rfl⟩:=r;rfl
 |ref _=>cases r;rfl
 |ty _=>cases r;rfl
theorem ZaY.inj {x y:V}(r:ZaY x u)(q:ZaY y u):x=y:=Qby (r.abs.symm.trans q.abs)
theorem ZaR.inj:∀{xs ys:List V} {us:List Value},ZaR xs us→ZaR ys us→xs=ys
 |_,_,_,.nil,.nil=>rfl
 |_,_,_,.cons r t,.cons r' t'=>by rw[r.inj r',ZaR.inj t t']
section
variable {X:Cx}{σ:St}{H:Hp}{xs ys:List V}
theorem SqL.of {K:PySem.W.Frag}(h:H a=some (.lst xs)):SqL K H a xs:=.inl (.inl h)
theorem SqT.of {K:PySem.W.Frag}(h:H a=some (.tup xs)):SqT K H a xs:=.inl (.inl h)
theorem Inv.list (I:Inv X qc σ H s)(h:SqL X.K H a xs):∃its:List Value,ZaR xs its∧PlainL s.heap a its.toArray∧xs.length≤sizeLine:=by
 rcases h with h|⟨o,its,n,hk,hc,hd,hs,hz,r⟩
 ·obtain⟨z,its,n,r,e⟩:=h.ok I.hok;exact⟨its,r,⟨_,n,e,rfl,rfl,rfl⟩,z⟩
 ·refine⟨its.toList,r,⟨o,n,I.kIn a o hk,hc,hd,by simpa using hs⟩,?_⟩;have e:=r.length;simp only[Qal] at e;omega
theorem Inv.tuple (I:Inv X qc σ H s)(h:SqT X.K H a xs):∃its:List Value,ZaR xs its∧IsTup s.heap a its.toArray∧xs.length≤sizeLine:=by
 rcases h with h|⟨o,its,n,hk,hc,hs,hz,r⟩
 ·obtain⟨z,its,r,p⟩:=h.ok I.hok;exact⟨its,r,p,z⟩
 ·refine⟨its.toList,r,⟨o,I.kIn a o hk,hc,n,by simpa using hs⟩,?_⟩;have e:=r.length;simp only[Qal] at e;omega
theorem Inv.list_inj (I:Inv X qc σ H s)(h:SqL X.K H a xs)(h':SqL X.K H a ys):xs=ys:=by
 obtain⟨its,r,⟨o,n,e,_,_,d⟩,_⟩:=I.list h;obtain⟨its',r',⟨o',n',e',_,_,d'⟩,_⟩:=I.list h';rw[e] at e';cases e';rw[d] at d';injection d' with d1 _
 have:its=its':=by simpa using congrArg Array.toList d1
 subst this;exact r.inj r'
theorem Inv.tuple_inj (I:Inv X qc σ H s)(h:SqT X.K H a xs)(h':SqT X.K H a ys):xs=ys:=by
 obtain⟨its,r,⟨o,e,_,n,d⟩,_⟩:=I.tuple h;obtain⟨its',r',⟨o',e',_,n',d'⟩,_⟩:=I.tuple h';rw[e] at e';cases e';rw[d] at d';injection d' with d1 _
 have:its=its':=by simpa using congrArg Array.toList d1
 subst this;exact r.inj r'
end
abbrev Cx.wish (X:Cx)(E:Value→Shared→Prop):Cx:={X with xe:=E }
abbrev Cx.nox (X:Cx):Cx:=X.wish fun _ _=>False
theorem Cx.Ok.wish {X:Cx}(ok:X.Ok)(E:Value→Shared→Prop):(X.wish E).Ok:=
 ⟨ok.mod,ok.kind,ok.glob,ok.blt,ok.above,ok.inj,ok.has,ok.cab,ok.hd,ok.frames,ok.stk,ok.exf,ok.bs,ok.bsz,ok.noex,ok.exfs,ok.funs,ok.frf⟩
theorem Cx.Ok.unwish {X:Cx}(ok:(X.wish E).Ok):X.Ok:=
 ⟨ok.mod,ok.kind,ok.glob,ok.blt,ok.above,ok.inj,ok.has,ok.cab,ok.hd,ok.frames,ok.stk,ok.exf,ok.bs,ok.bsz,ok.noex,ok.exfs,ok.funs,ok.frf⟩
section
variable {X:Cx}{σ:St}{H:Hp}
theorem Inv.wish (I:Inv X qc σ H s)(E:Value→Shared→Prop):Inv (X.wish E) qc σ H s:=⟨I.ok.wish E,I.os,I.bare,I.base,I.loc,I.cell,I.free,I.freeC,I.pin,I.hok,I.len⟩
theorem Inv.unwish (I:Inv (X.wish E) qc σ H s):Inv X qc σ H s:=⟨I.ok.unwish,I.os,I.bare,I.base,I.loc,I.cell,I.free,I.freeC,I.pin,I.hok,I.len⟩
theorem SP.unwish {D:Zi6}{f:Flow}{s':Shared}(h:SP (X.wish E) qc D f s'):SP X qc D f s':=by
 cases f with
 |next=>obtain⟨σ',H',I,q⟩:=h;exact⟨σ',H',I.unwish,q⟩
 |brk=>obtain⟨σ',H',I,q⟩:=h;exact⟨σ',H',I.unwish,q⟩
 |cont=>obtain⟨σ',H',I,q⟩:=h;exact⟨σ',H',I.unwish,q⟩
 |ret u=>obtain⟨v,σ',H',I,r,q⟩:=h;exact⟨v,σ',H',I.unwish,r,q⟩
theorem PSs.nox {st:List Stmt}{t:TS}(h:PSs X.nox st t):PSs X st t:=fun qc s σ H D I hw=>
 QaZ (h qc s σ H D (I.wish _) hw) (fun _ _ q=>q.unwish) fun _ _ z=>False.elim z
end
section
variable {X:Cx}{st:Stmt}{rest:List Stmt}{t u:TS}{te:TE}{pos:PySem.Pos}
def ZbT:TS:=fun D σ H=>D.nx σ H
def ZaX (t u:TS):TS:=fun D σ H=>t {D with nx:=u D } σ H
theorem ZaF:PSs X [] ZbT:=fun _ _ σ H _ I h=>QdX ⟨σ,H,I,h⟩
theorem Zac (h1:PS X st t)(h2:PSs X rest u):PSs X (st::rest) (ZaX t u):=by
 intro qc s σ H D I h;refine wpAny_execs_cons (thn (h1 qc s σ H {D with nx:=u D } I h) fun f s1 q=> ?_)
 cases f with
 |next=>
  obtain⟨σ',H',I',q⟩:=q;exact h2 qc s1 σ' H' D I' q
 |ret v=>exact q
 |brk=>exact q
 |cont=>exact q
theorem Zai (h1:PS X st t):PSs X [st] t:=by
 intro qc s σ H D I h;refine wpAny_execs_cons (thn (h1 qc s σ H D I h) fun f s1 q=> ?_)
 cases f with
 |next=>exact QdX q
 |ret v=>exact q
 |brk=>exact q
 |cont=>exact q
theorem Inv.quiet {σ:St}{H:Hp}(I:Inv X qc σ H s):interactive X.env=false:=by simp[interactive,I.ok.kind]
def ZeH (te:TE):TS:=fun D σ H=>te σ H fun _ H1=>D.nx σ H1
theorem ZbH (he:PE X e te)(hs:swapsWith e none pos.line X.env=pure false:=by rfl):PS X (.Expr e pos) (ZeH te):=by
 intro qc s σ H D I h;exact wpAny_Expr_any (thn (he qc s σ H _ I h) fun v s1 ⟨x,H1,I1,r1,q1⟩=>⟨σ,H1,I1,q1⟩) I.quiet hs
def ZcY (te:TE):TS:=fun D σ H=>te σ H D.rt
theorem Zax (he:PE X e te):PS X (.Return (some e) pos) (ZcY te):=by
 intro qc s σ H D I h;exact wpAny_Return_some (thn (he qc s σ H _ I h) fun v s1 ⟨x,H1,I1,r1,q1⟩=>⟨x,σ,H1,I1,r1,q1⟩)
def Zen (c:TT)(t u:TS):TS:=fun D σ H=>c σ H fun b H1=>if b=true then t D σ H1 else u D σ H1
theorem Zbn {a b:List Stmt}{tc:TT}(hc:PT X c tc)(ha:PSs X a t)(hb:PSs X b u):PS X (.If c a b pos) (Zen tc t u):=by
 intro qc s σ H D I h;refine wpAny_If (thn (hc qc s σ H _ I h) fun d s1 ⟨H1,I1,q1⟩=> ?_)
 cases d with
 |true=>exact ha qc s1 σ H1 D I1 q1
 |false=>exact hb qc s1 σ H1 D I1 q1
end
abbrev TG:=V→St→Hp→(St→Hp→Prop)→Prop
abbrev TGs:=List V→St→Hp→(St→Hp→Prop)→Prop
def PG (X:Cx)(target:Expr)(t:TG):Prop:=
 ∀(qc:List (Addr×Obj)) (s:Shared) (σ:St) (H:Hp) (v:V) (u:Value) (Q:St→Hp→Prop),Inv X qc σ H s→ZaY v u→t v σ H Q→
  wpAny (model X.prog X.w) X.A (assign target X.env u) (fun _ s'=>∃σ' H',Inv X qc σ' H' s'∧Q σ' H') X.xe s
def PGs (X:Cx)(ts:List Expr)(t:TGs):Prop:=
 ∀(qc:List (Addr×Obj)) (s:Shared) (σ:St) (H:Hp) (vs:List V) (us:List Value) (Q:St→Hp→Prop),Inv X qc σ H s→ZaR vs us→t vs σ H Q→
  wpAny (model X.prog X.w) X.A (assignInOrder ((assignEach ts X.env).map (·.2)) us) (fun _ s'=>∃σ' H',Inv X qc σ' H' s'∧Q σ' H') X.xe s
abbrev Zq3:=V→V→V→Hp→(Hp→Prop)→Prop
def ZrE (X:Cx)(t:Zq3):Prop:=
 ∀(qc:List (Addr×Obj)) (s:Shared) (σ:St) (H:Hp) (o i v:V) (ov iv u:Value) (Q:Hp→Prop),Inv X qc σ H s→ZaY o ov→ZaY i iv→ZaY v u→t o i v H Q→
  wpAny (model X.prog X.w) X.A (setItem ov iv u) (fun _ s'=>∃H',Inv X qc σ H' s'∧Q H') X.xe s
abbrev TIp:=V→V→Hp→VK→Prop
def PIp (X:Cx)(op:Operator)(t:TIp):Prop:=
 ∀(qc:List (Addr×Obj)) (s:Shared) (σ:St) (H:Hp) (x y:V) (v u:Value) (Q:VK),Inv X qc σ H s→ZaY x v→ZaY y u→t x y H Q→
  wpAny (model X.prog X.w) X.A (inplaceOp op v u) (EP X qc σ Q) X.xe s
section
variable {X:Cx}{pos:PySem.Pos}
def Zar (i:Nat):TG:=fun v σ H Q=>Q (σ.set i (some v)) H
theorem Zal (hN:X.N.Nodup)(hi:X.N[i]?=some x)(hx:Loc X.env.scope x)(hf:X.fn x=true∨X.env.scope.names.lookup x=some .local:=by first|exact .inl rfl|exact .inr rfl|assumption):PG X (.Name x pos) (Zar i):=by
 intro qc s σ H v u Q I r h;exact wpAny_assign_Name (ZeG I hN hi hx r (fun s' I'=>⟨_,H,I',h⟩) hf)
def ZlB:TGs:=fun vs σ H Q=>vs=[]∧Q σ H
def ZbN (t:TG)(u:TGs):TGs:=fun vs σ H Q=>∃v r,vs=v::r∧t v σ H fun σ' H'=>u r σ' H' Q
theorem Zbf:PGs X [] ZlB:=by
 intro qc s σ H vs us Q I r h;obtain⟨e,h⟩:=h;subst e;cases r;exact assignInOrder_nil ⟨σ,H,I,h⟩
theorem Zas {t:TG}{u:TGs}(h1:PG X e t)(h2:PGs X es u)
  (hs:(assignEach (e::es) X.env).map (·.2)=assign e X.env::(assignEach es X.env).map (·.2):=by rfl):PGs X (e::es) (ZbN t u):=by
 intro qc s σ H vs us Q I r h;obtain⟨v,vr,e1,h⟩:=h;subst e1
 cases r with
 |cons r rr=>
  rw[hs];refine assignInOrder_cons (thn (h1 qc s σ H _ _ _ I r h) fun _ s1 ⟨σ1,H1,I1,q1⟩=> ?_);exact h2 qc s1 σ1 H1 _ _ Q I1 rr q1
def Zjk (K:PySem.W.Frag)(n:Nat)(t:TGs):TG:=fun v σ H Q=>∃a xs,v= .ref a∧SqT K H a xs∧xs.length=n∧t xs σ H Q
theorem Zce {k:Nat}{t:TGs}(hc:X.calm=true)(h:PGs X es t)
  (hn:(assignEach es X.env).length=n:=by rfl) (hst:(assignEach es X.env).findIdx? (·.1)=none:=by rfl):PG X (.Tuple es k pos) (Zjk X.K n t):=by
 intro qc s σ H v u Q I r hw;obtain⟨a,xs,e1,hq,hl,hw⟩:=hw;subst e1;cases r;obtain⟨its,rv,ht,hz⟩:=I.tuple hq;refine assign_Tuple_tuple (I.ok.hd hc) ht (by simp[hn,←hl,rv.length]) hst fun h' hx=> ?_;have I1:Inv X qc σ H {s with heap:=h' }:=I.kept (t':=s.toks) fun b o e=>hx b o (QaJ (Qar e)) e;exact h qc _ σ H xs _ Q I1 (by simpa using rv) hw
def Zq4 (to ti:TE)(t:Zq3):TG:=fun v σ H Q=>to σ H fun o H1=>ti σ H1 fun i H2=>t o i v H2 fun H3=>Q σ H3
theorem ZhC {o i:Expr}{to ti:TE}{t:Zq3}(ho:PE X o to)(hi:PE X i ti)(hs:ZrE X t)
  (ha:∀v,assign (.Subscript o i pos) X.env v=(do
   let ov←holding [v] (eval o X.env)
   let iv←holding [v,ov] (eval i X.env)
   standAt pos
   holding [v,ov,iv] (setItem ov iv v)
   release [v,ov,iv] []):=by intro _;rfl):PG X (.Subscript o i pos) (Zq4 to ti t):=by
 intro qc s σ H v u Q I r h;rw[ha];refine Qaa (Qbd (thn (ho qc s σ H _ I h) fun ov s1 ⟨x,H1,I1,r1,q1⟩=> ?_));refine Qaa (Qbd (thn (hi qc s1 σ H1 _ I1 q1) fun iv s2 ⟨y,H2,I2,r2,q2⟩=> ?_));refine Qaa (Qb7 (Qaa (Qbd (thn (hs qc s2 σ H2 x y v ov iv u _ I2 r1 r2 r q2) fun _ s3 ⟨H3,I3,q3⟩=> ?_))));exact wpAny_release ⟨σ,H3,I3,q3⟩
def Zbk (te:TE)(g:TG):TS:=fun D σ H=>te σ H fun x H1=>g x σ H1 D.nx
theorem ZcM {te:TE}{g:TG}(he:PE X e te)(hg:PG X tg g)(hs:swapsWithSole [tg] e pos.line X.env=pure false:=by rfl)(hw:swappedStores [tg] e X.env=pure none:=by rfl)
  (h1:(assignEach [tg] X.env).map (·.2)=[assign tg X.env]:=by rfl):PS X (.Assign [tg] e pos) (Zbk te g):=by
 intro qc s σ H D I h;refine wpAny_Assign_stores (thn (he qc s σ H _ I h) fun v s1 ⟨x,H1,I1,r1,q1⟩=> ?_) hs hw;rw[h1];exact thn (hg qc s1 σ H1 x v _ I1 r1 q1) fun _ s2 q=>q
theorem Zap {te:TE}(hN:X.N.Nodup)(hi:X.N[i]?=some x)(hx:Loc X.env.scope x)(he:PE X e te)(hs:swapsWith e (some (.Name x pos')) pos.line X.env=pure false:=by rfl)(hf:X.fn x=true∨X.env.scope.names.lookup x=some .local:=by first|exact .inl rfl|exact .inr rfl|assumption):
  PS X (.Assign [.Name x pos'] e pos) (Zbk te (Zar i)):=by
 intro qc s σ H D I h;refine wpAny_Assign_Name (thn (he qc s σ H _ I h) fun v s1 ⟨y,H1,I1,r1,q1⟩=> ?_) hs;exact ZeG I1 hN hi hx r1 (fun s2 I2=>⟨_,H1,I2,q1⟩) hf
def Zsd (i:Nat)(te:TE)(ti:TIp):TS:=fun D σ H=>∃x,σ[i]?=some (some x)∧te σ H fun y H1=>ti x y H1 fun z H2=>D.nx (σ.set i (some z)) H2
theorem Zm6 {te:TE}{op:Operator}{ti:TIp}(hN:X.N.Nodup)(hi:X.N[i]?=some x)(hx:Loc X.env.scope x)(he:PE X e te)(ho:PIp X op ti)(hf:X.fn x=true∨X.env.scope.names.lookup x=some .local:=by first|exact .inl rfl|exact .inr rfl|assumption):
  PS X (.AugAssign (.Name x pos') op e pos) (Zsd i te ti):=by
 intro qc s σ H D I h;obtain⟨v,e1,h⟩:=h;obtain⟨m,hn,hl⟩:=I.loc;have vis:Vis X.env.scope x:=by rcases hx with k|k;exact .inl k;exact .inr (.inl k)
 obtain⟨u,r,l⟩:=hl i x v hi e1 vis;refine wpAny_AugAssign_Name ?_
 have go:wpAny (model X.prog X.w) X.A (eval e X.env) (fun w s₂=>wpAny (model X.prog X.w) X.A (inplaceOp op u w) (fun r s₃=>wpAny (model X.prog X.w) X.A (storeName X.env x r) (fun _=>SP X qc D .next) X.xe s₃) X.xe s₂) X.xe s:=by
  refine thn (he qc s σ H _ I h) fun w s1 ⟨y,H1,I1,r1,q1⟩=> ?_;refine thn (ho qc s1 σ H1 v y u w _ I1 r r1 q1) fun z s2 ⟨zv,H2,I2,r2,q2⟩=> ?_;exact ZeG I2 hN hi hx r2 (fun s3 I3=>⟨_,H2,I3,q2⟩) hf
 rcases l with⟨hk,hm⟩|⟨hk,c,hc,qj⟩
 ·exact wpAny_loadName_local I.ok.kind hk hn hm go
 ·rcases hk with hk|hk
  ·exact wpAny_loadName_cell I.ok.kind hk hc qj go
  ·rcases hx with k|k
   ·have:X.env.scope.names.lookup x=some .free:=hk;rw[k] at this;cases this
   ·have:X.env.scope.names.lookup x=some .free:=hk;rw[k] at this;cases this
def ipI (f:Int→Int→Int):TIp:=fun x y H Q=>∃i j,x= .int i∧y= .int j∧Q (.int (f i j)) H
theorem Zpr:PIp X .Add (ipI fun i j=>i+j):=by
 intro qc s σ H x y v u Q I r1 r2 h;obtain⟨i,j,e1,e2,q⟩:=h;subst e1;subst e2;obtain⟨t,rfl⟩:=r1;obtain⟨t',rfl⟩:=r2;exact iadd_int ⟨.int _,H,I.tok _,⟨_,rfl⟩,q⟩
theorem Zps:PIp X .Sub (ipI fun i j=>i-j):=by
 intro qc s σ H x y v u Q I r1 r2 h;obtain⟨i,j,e1,e2,q⟩:=h;subst e1;subst e2;obtain⟨t,rfl⟩:=r1;obtain⟨t',rfl⟩:=r2;exact isub_int ⟨.int _,H,I.tok _,⟨_,rfl⟩,q⟩
end
section
variable {X:Cx}{pos:PySem.Pos}
def ZhD (c:TT)(tb:TS):TS:=fun D σ H=>∃W:Nat→St→Hp→Prop,(∃m,W m σ H)∧∀m σ H,W m σ H→
 c σ H fun b H1=>if b=true then∃N:St→Hp→Prop,(∀σ' H',N σ' H'→∃m',m'<m∧W m' σ' H')∧tb {D with nx:=N,ct:=N,bk:=D.nx } σ H1 else D.nx σ H1
theorem ZhE {tc:TT}{tb:TS}(hp:PassesOwn (model X.prog X.w) X.A X.env X.xe)(hc:PT X c tc)(hb:PSs X body tb):PS X (.While c body [] pos) (ZhD tc tb):=by
 intro qc s σ H D I h;obtain⟨W,⟨m0,w0⟩,turn⟩:=h;refine wpAny_While (codeAny_whileLoop (fun n s'=>∃σ' H',Inv X qc σ' H' s'∧W n σ' H') ?_ m0 ⟨σ,H,I,w0⟩);rintro n s1 ⟨σ1,H1,I1,w1⟩;refine QcG hp (thn (hc qc s1 σ1 H1 _ I1 (turn n σ1 H1 w1)) fun b s2 ⟨H2,I2,q2⟩=> ?_)
 cases b with
 |true=>
  obtain⟨N,hN,q2⟩:=q2;rw[if_pos rfl];refine QcG hp (thn (hb qc s2 σ1 H2 _ I2 q2) fun f s3 q3=> ?_)
  cases f with
  |next=>
   obtain⟨σ3,H3,I3,n3⟩:=q3;obtain⟨m',hm,w3⟩:=hN σ3 H3 n3;exact⟨m',hm,σ3,H3,I3,w3⟩
  |cont=>
   obtain⟨σ3,H3,I3,n3⟩:=q3;obtain⟨m',hm,w3⟩:=hN σ3 H3 n3;exact⟨m',hm,σ3,H3,I3,w3⟩
  |brk=>exact q3
  |ret v=>exact q3
 |false=>
  rw[if_neg QaI];exact QdX ⟨σ1,H2,I2,q2⟩
end
structure It where
 go:Nat→Hp→Prop
 yld:Nat→Hp→V→Hp→Prop
 stop:Nat→Hp→Prop
def Zi7 (X:Cx)(qc:List (Addr×Obj))(H:Hp)(b:Addr):Prop:=
 H b=none∧b≠X.env.locals∧b∉X.fs∧(b∈X.ex∨X.s₀.heap.objs.size≤b)∧(∀x c,X.env.cells.lookup x=some c→c≠b)∧∀p∈X.pn++qc,p.1≠b
theorem Inv.fpOk {X:Cx}{σ:St}{H H':Hp}(I:Inv X qc σ H s)(hb:s.heap.objs.size≤b)(hn:H' b=none):Zi7 X qc H' b:=by
 refine⟨hn,Qbc (QaT I.lt hb),I.nofs hb,.inr (QaE I.sz hb),fun x c e z=> ?_,fun p hp z=> ?_⟩
 ·obtain⟨v,q⟩:=I.cell x c e;exact absurd (QaT q.lt (by rw[z];exact hb)) (Qba _)
 ·exact absurd (QaT (Qar (I.pin p hp).1) (by rw[z];exact hb)) (Qba _)
structure Zpf (P:Program)(w:World)(K:PySem.W.Frag)(tg:Expr)(J:It)(fp:List Addr)(it:Addr)(tn:Nat→Heap→Prop):Prop where
 mem:it∈fp
 obj:∀i h,tn i h→∀b∈fp,∃o,h.get? b=some o∧∀v,o.data≠ .cell v
 keep:∀i h h',tn i h→(∀b∈fp,∀o,h.get? b=some o→h'.get? b=some o)→tn i h'
 item:∀(X:Cx),X.prog=P→X.w=w→X.K=K→X.calm=true→∀(i:Nat) (qc:List (Addr×Obj)) (s:Shared) (σ:St) (H:Hp) (E:Value→Shared→Prop),Inv X qc σ H s→(∀b∈fp,Zi7 X qc H b)→tn i s.heap→J.go i H→
  wpAny (model P w) X.A (pyNext (.ref it)) (fun r s1=>∃u,r=some u∧
   wpAny (model P w) X.A (letOwnedTupleGo tg (.ref it) u) (fun _ s2=>∃x H',Inv X qc σ H' s2∧ZaY x u∧J.yld i H x H'∧tn (i+1) s2.heap∧∀b∈fp,H' b=none) E s1) E s
 done:∀(X:Cx),X.prog=P→X.w=w→X.K=K→X.calm=true→∀(i:Nat) (qc:List (Addr×Obj)) (s:Shared) (σ:St) (H:Hp) (E:Value→Shared→Prop),Inv X qc σ H s→(∀b∈fp,Zi7 X qc H b)→tn i s.heap→J.stop i H→
  wpAny (model P w) X.A (pyNext (.ref it)) (fun r s1=>r=none∧Inv X qc σ H s1) E s
 self:∀(A:Around) (i:Nat) (s:Shared) (Q:Value→Shared→Prop) (E:Value→Shared→Prop),tn i s.heap→Q (.ref it) s→wpAny (model P w) A (pyIter (.ref it)) Q E s
abbrev TI:=St→Hp→(It→Hp→Prop)→Prop
def PIE (X:Cx)(qc:List (Addr×Obj))(σ:St)(tg:Expr)(R:It→Hp→Prop)(itv:Value)(s2:Shared):Prop:=
 ∃(it:Addr) (fp:List Addr) (tn:Nat→Heap→Prop) (J:It) (H':Hp),itv= .ref it∧Inv X qc σ H' s2∧Zpf X.prog X.w X.K tg J fp it tn∧tn 0 s2.heap∧(∀b∈fp,Zi7 X qc H' b)∧R J H'
def PI (X:Cx)(tg qe:Expr)(wi:TI):Prop:=
 ∀(qc:List (Addr×Obj)) (s:Shared) (σ:St) (H:Hp) (R:It→Hp→Prop),Inv X qc σ H s→wi σ H R→
  wpAny (model X.prog X.w) X.A (eval qe X.env) (fun v s1=>wpAny (model X.prog X.w) X.A (pyIter v) (PIE X qc σ tg R) X.xe s1) X.xe s
theorem Zn1 {it:Addr}{n:String}{vs:Array Value}(ho:s.heap.get? it=some o)(hc:o.cls= .type n)(hd:o.data= .fields vs)
  (hn:["enumerate", "zip", "dict_itemiterator", "dict_reverseitemiterator", "odict_iterator", "itertools.zip_longest", "itertools.pairwise"].contains n=false) (hQ:Q () s):wpAny M A (letOwnedTupleGo tg (.ref it) u) Q E s:=by
 unfold letOwnedTupleGo
 cases tg<;>first
  |exact Qae hQ
  | (cases u<;>first
    |exact Qae hQ
    | (refine Qaa (wpAny_load ho ?_)
       rw[hc,hd]
       show wpAny M A (if(["enumerate", "zip", "dict_itemiterator", "dict_reverseitemiterator", "odict_iterator", "itertools.zip_longest", "itertools.pairwise"].contains n && vs[0]?==some (rawInt _))=true then _ else _) Q E s
       rw[if_neg (by intro h;rw[hn,Bool.false_and] at h;cases h)]
       exact Qae hQ))
def Itl (K:PySem.W.Frag)(a:Addr):It:=
 ⟨fun i H=>∃xs x,SqL K H a xs∧xs[i]?=some x,fun i H x H'=>H'=H∧∀xs,SqL K H a xs→xs[i]?=some x,fun i H=>∃xs,SqL K H a xs∧xs.length≤i⟩
def Itt (K:PySem.W.Frag)(a:Addr):It:=
 ⟨fun i H=>∃xs x,SqT K H a xs∧xs[i]?=some x,fun i H x H'=>H'=H∧∀xs,SqT K H a xs→xs[i]?=some x,fun i H=>∃xs,SqT K H a xs∧xs.length≤i⟩
def Itr (lo:Int)(n:Nat):It:=⟨fun i _=>i<n,fun i H x H'=>H'=H∧x= .int (lo+i),fun i _=>n≤i⟩
theorem Zjl {K:PySem.W.Frag}(a it:Addr):Zpf P w K tg (Itl K a) [it] it (fun i h=>h.IsListIter it a i) where
 mem:=by simp
 obj:=fun i h st b hb=>by
  have e:b=it:=by simpa using hb
  subst e;obtain⟨o,e,c,d⟩:=st;exact⟨o,e,fun v z=>by rw[d] at z;cases z⟩
 keep:=fun i h h' st k=>st.at fun o e=>k it (by simp) o e
 item:=by
  intro X hP hw hK hc i qc s σ H E I hf st hg;subst hP hw hK;obtain⟨xs,x,hq,hx⟩:=hg;obtain⟨its,rv,p,hz⟩:=I.list hq;obtain⟨u,hu,ru⟩:=rv.get hx;obtain⟨f0,f1,f2,f3,f4,f5⟩:=hf it (by simp);refine wpAny_pyNext_list_item st p.isList (x:=u) (by simpa using hu) fun h' st' sb=> ?_;have I1:Inv X qc σ H {s with heap:=h' }:=I.turned (t':=s.toks) (fun b o hb e=>(sb.2 b hb).trans e) f0 f1 f3 f4 f5;obtain⟨o,e,c,d⟩:=id st';exact⟨u,rfl,Zn1 (s:={s with heap:=h' }) e c d (by decide) ⟨x,H,I1,ru,⟨rfl,fun ys hy=>by rw[I.list_inj hy hq];exact hx⟩,st',fun b hb=>(hf b hb).1⟩⟩
 done:=by
  intro X hP hw hK hc i qc s σ H E I hf st hg;subst hP hw hK;obtain⟨xs,hq,hx⟩:=hg;obtain⟨its,rv,p,hz⟩:=I.list hq;obtain⟨f0,f1,f2,f3,f4,f5⟩:=hf it (by simp);have hl:=rv.length;exact wpAny_pyNext_list_end (I.ok.hd hc) st p.isList (by simp;omega) fun h' eb=>⟨rfl,I.turned (t':=s.toks) (fun b o hb e=>eb b o hb e) f0 f1 f3 f4 f5⟩
 self:=fun _ _ _ _ _ st h=>wpAny_pyIter_listiter st h
theorem Zir {K:PySem.W.Frag}(a it:Addr):Zpf P w K tg (Itt K a) [it] it (fun i h=>h.IsTupleIter it a i) where
 mem:=by simp
 obj:=fun i h st b hb=>by
  have e:b=it:=by simpa using hb
  subst e;obtain⟨o,e,c,d⟩:=st;exact⟨o,e,fun v z=>by rw[d] at z;cases z⟩
 keep:=fun i h h' st k=>st.at fun o e=>k it (by simp) o e
 item:=by
  intro X hP hw hK hc i qc s σ H E I hf st hg;subst hP hw hK;obtain⟨xs,x,hq,hx⟩:=hg;obtain⟨its,rv,p,hz⟩:=I.tuple hq;obtain⟨u,hu,ru⟩:=rv.get hx;obtain⟨f0,f1,f2,f3,f4,f5⟩:=hf it (by simp);refine wpAny_pyNext_tuple_item st (show s.heap.IsTuple a its.toArray from p) (x:=u) (by simpa using hu) fun h' st' sb=> ?_;have I1:Inv X qc σ H {s with heap:=h' }:=I.turned (t':=s.toks) (fun b o hb e=>(sb.2 b hb).trans e) f0 f1 f3 f4 f5;obtain⟨o,e,c,d⟩:=id st';exact⟨u,rfl,Zn1 (s:={s with heap:=h' }) e c d (by decide) ⟨x,H,I1,ru,⟨rfl,fun ys hy=>by rw[I.tuple_inj hy hq];exact hx⟩,st',fun b hb=>(hf b hb).1⟩⟩
 done:=by
  intro X hP hw hK hc i qc s σ H E I hf st hg;subst hP hw hK;obtain⟨xs,hq,hx⟩:=hg;obtain⟨its,rv,p,hz⟩:=I.tuple hq;obtain⟨f0,f1,f2,f3,f4,f5⟩:=hf it (by simp);have hl:=rv.length;exact wpAny_pyNext_tuple_end (I.ok.hd hc) st (show s.heap.IsTuple a its.toArray from p) (by simp;omega) fun h' eb=>⟨rfl,I.turned (t':=s.toks) (fun b o hb e=>eb b o hb e) f0 f1 f3 f4 f5⟩
 self:=fun _ _ _ _ _ st h=>wpAny_pyIter_tupleiter st h
theorem Zis {K:PySem.W.Frag}(it:Addr)(lo:Int)(n:Nat):Zpf P w K tg (Itr lo n) [it] it (fun i h=>IsRangeIter h it (lo+(i:Nat)*1) ((n:Int)-(i:Nat)) 1) where
 mem:=by simp
 obj:=fun i h st b hb=>by
  have e:b=it:=by simpa using hb
  subst e
  exact⟨_,st,fun v z=>by
   have z':Data.fields _=Data.cell v:=z
   cases z'⟩
 keep:=fun i h h' st k=>k it (by simp) _ st
 item:=by
  intro X hP hw hK hc i qc s σ H E I hf st hg;subst hP hw hK;obtain⟨f0,f1,f2,f3,f4,f5⟩:=hf it (by simp);have W:=Walks.range (prog:=X.prog) (w:=X.w) (I.ok.hd hc) it lo 1 n;refine W.item i s _ _ hg st fun v h' tk hv st' kk=> ?_;obtain⟨t,rfl⟩:=hv;have I1:Inv X qc σ H {s with heap:=h',toks:=tk }:=I.turned (fun b o hb e=>kk b o (by simpa using hb) e) f0 f1 f3 f4 f5;refine⟨_,rfl,Zn1 (s:={s with heap:=h',toks:=tk }) (n:= "range_iterator") st' rfl rfl (by decide) ⟨.int (lo+i),H,I1,⟨t,?_⟩,⟨rfl,rfl⟩,st',fun b hb=>(hf b hb).1⟩⟩;rw[Int.mul_one]
 done:=by
  intro X hP hw hK hc i qc s σ H E I hf st hg;subst hP hw hK;obtain⟨f0,f1,f2,f3,f4,f5⟩:=hf it (by simp);exact wpAny_pyNext_range_end (I.ok.hd hc) st (by have:n≤i:=hg;omega) fun h' eb=>⟨rfl,I.turned (t':=s.toks) (fun b o hb e=>eb b o hb e) f0 f1 f3 f4 f5⟩
 self:=fun _ _ _ _ _ st h=>wpAny_pyIter_rangeiter st h
section
variable {X:Cx}
def ZbO (K:PySem.W.Frag)(tl:TE):TI:=fun σ H R=>tl σ H fun x H1=>∃a,x= .ref a∧(∃xs,SqL K H1 a xs)∧R (Itl K a) H1
def ZrF (K:PySem.W.Frag)(tl:TE):TI:=fun σ H R=>tl σ H fun x H1=>∃a,x= .ref a∧(∃xs,SqT K H1 a xs)∧R (Itt K a) H1
theorem ZaT {tl:TE}(hl:PE X l tl):PI X tg l (ZbO X.K tl):=by
 intro qc s σ H R I h;refine thn (hl qc s σ H _ I h) fun v s1 ⟨x,H1,I1,r1,q1⟩=> ?_;obtain⟨a,e,⟨xs,hq⟩,q⟩:=q1;subst e;cases r1;obtain⟨its,rv,p,hz⟩:=I1.list hq;refine Qc0 p.isList ?_;refine⟨s1.heap.objs.size,[s1.heap.objs.size],_,_,H1,rfl,I1.kept (t':=s1.toks) fun b o e=>Qad _ e,Zjl a _,⟨_,Qaw _ rfl,rfl,rfl⟩,fun b hb=> ?_,q⟩;have e:b=s1.heap.objs.size:=by simpa using hb
 subst e;exact I1.fpOk (Qak _) (I1.hok.fresh (Qak _))
theorem Zpt {tl:TE}(hl:PE X l tl):PI X tg l (ZrF X.K tl):=by
 intro qc s σ H R I h;refine thn (hl qc s σ H _ I h) fun v s1 ⟨x,H1,I1,r1,q1⟩=> ?_;obtain⟨a,e,⟨xs,hq⟩,q⟩:=q1;subst e;cases r1;obtain⟨its,rv,p,hz⟩:=I1.tuple hq;refine Qea (show s1.heap.IsTuple a its.toArray from p) ?_;refine⟨s1.heap.objs.size,[s1.heap.objs.size],_,_,H1,rfl,I1.kept (t':=s1.toks) fun b o e=>Qad _ e,Zir a _,⟨_,Qaw _ rfl,rfl,rfl⟩,fun b hb=> ?_,q⟩;have e:b=s1.heap.objs.size:=by simpa using hb
 subst e;exact I1.fpOk (Qak _) (I1.hok.fresh (Qak _))
theorem ZhF {σ:St}{H:Hp}{R:It→Hp→Prop}{hi:Int}{t u v:Tok}{tk:Nat}(I:Inv X qc σ H s)(h1: -(2^62)≤lo)(h2:lo<2^62)(h3: -(2^62)≤hi)(h4:hi<2^62)
  (q:R (Itr lo (hi-lo).toNat) H):wpAny (model X.prog X.w) X.A (pyIter (.ref s.heap.objs.size)) (PIE X qc σ tg R) E {s with heap:=s.heap.push {cls:=.type "range",data:=.fields #[.int lo t,.int hi u,.int 1 v] },toks:=tk }:=by
 refine wpAny_pyIter_range (IsRange.new ..) (small_one h1 h2 h3 h4) ?_;have I1:Inv X qc σ H {s with heap:=s.heap.push {cls:=.type "range",data:=.fields #[.int lo t,.int hi u,.int 1 v] },toks:=tk }:=I.kept fun b o e=>Qad _ e
 refine⟨(s.heap.push {cls:=.type "range",data:=.fields #[.int lo t,.int hi u,.int 1 v] }).objs.size,[(s.heap.push {cls:=.type "range",data:=.fields #[.int lo t,.int hi u,.int 1 v] }).objs.size],_,_,H,rfl,
  I1.kept (t':=tk) fun b o e=>Qad _ e,Zis _ lo (hi-lo).toNat,?_,fun b hb=> ?_,q⟩
 ·have e1:lo+((0:Nat):Int)*1=lo:=by simp
  have e2:(((hi-lo).toNat:Nat):Int)-((0:Nat):Int)=Builtin.Range.rangeSize lo hi 1:=by rw[rangeSize_one];split<;>omega
  show IsRangeIter _ _ (lo+((0:Nat):Int)*1) ((((hi-lo).toNat:Nat):Int)-((0:Nat):Int)) 1;rw[e1,e2];exact Qaw _ rfl
 ·have e:b=(s.heap.push {cls:=.type "range",data:=.fields #[.int lo t,.int hi u,.int 1 v] }).objs.size:=by simpa using hb
  subst e;exact I1.fpOk (Qak _) (I1.hok.fresh (Qak _))
def Zjm (ta:TA):TI:=fun σ H R=>ta σ H fun vs H1=>∃j:Int,vs=[.int j]∧-(2^62)≤j∧j<2^62∧R (Itr 0 j.toNat) H1
def Zpu (ta:TA):TI:=fun σ H R=>ta σ H fun vs H1=>∃i j:Int,vs=[.int i,.int j]∧(-(2^62)≤i∧i<2^62∧-(2^62)≤j∧j<2^62)∧R (Itr i (j-i).toNat) H1
theorem Zbg {a:Expr}{ta:TA}{pos:PySem.Pos}(hg:Gl X "range")(hm:X.mg "range" =none)(ha:PA X [a] ta)(hs:starEach [a] X.env=[(false,eval a X.env)]:=by rfl):PI X tg (.Call (.Name "range" p) [a] [] pos) (Zjm ta):=by
 intro qc s σ H R I h;refine Call_ (ZbS I hg hm boot_range (Qbk (thn (ha pos qc s σ H _ I h) fun us s1 ⟨vs,H1,I1,r1,q1⟩=> ?_) hs rfl));obtain⟨j,e,q1,q2,q⟩:=q1;subst e
 cases r1 with
 |cons r rr=>
  cases rr;obtain⟨t,rfl⟩:=r;exact call_range_1 (ZhF I1 (by omega) (by omega) q1 q2 (by simpa using q))
theorem Zfx {a b:Expr}{ta:TA}{pos:PySem.Pos}(hg:Gl X "range")(hm:X.mg "range" =none)(ha:PA X [a,b] ta)(hs:starEach [a,b] X.env=[(false,eval a X.env),(false,eval b X.env)]:=by rfl)(hs2:starEach [b] X.env=[(false,eval b X.env)]:=by rfl):
  PI X tg (.Call (.Name "range" p) [a,b] [] pos) (Zpu ta):=by
 intro qc s σ H R I h;refine Call_ (ZbS I hg hm boot_range (Qbk (thn (ha pos qc s σ H _ I h) fun us s1 ⟨vs,H1,I1,r1,q1⟩=> ?_) (by rw[hs,hs2]) (by rw[hs2];rfl)));obtain⟨i,j,e,⟨q1,q2,q3,q4⟩,q⟩:=q1;subst e
 cases r1 with
 |cons r rr=>
  cases rr with
  |cons r' rr=>
   cases rr;obtain⟨t,rfl⟩:=r;obtain⟨t',rfl⟩:=r';exact call_range_2 (ZhF I1 q1 q2 q3 q4 q)
def Zgt (wi:TI)(g:TG)(tb:TS):TS:=fun D σ H=>wi σ H fun J H1=>∃W:Nat→Nat→St→Hp→Prop,(∃m,W 0 m σ H1)∧∀i m σ H,W i m σ H→
 (J.stop i H∧D.nx σ H)∨(J.go i H∧∃N:St→Hp→Prop,(∀σ' H',N σ' H'→∃m',m'<m∧W (i+1) m' σ' H')∧∀x H',J.yld i H x H'→g x σ H' fun σ2 H2=>tb {D with nx:=N,ct:=N,bk:=D.nx } σ2 H2)
def Zdf (fp:List Addr)(h:Heap):List (Addr×Obj):=fp.filterMap fun b=>(h.get? b).map fun o=>(b,o)
theorem Za0 (hb:b∈fp)(e:h.get? b=some o):(b,o)∈Zdf fp h:=Qeb.mpr ⟨b,hb,by rw[e];rfl⟩
theorem Zfy {p:Addr×Obj}(hp:p∈Zdf fp h):p.1∈fp∧h.get? p.1=some p.2:=by
 obtain⟨b,hb,e⟩:=Qeb.mp hp
 cases q:h.get? b with
 |none=>rw[q] at e;cases e
 |some o=>
  rw[q] at e;have e':(b,o)=p:=Qby e;subst e';exact⟨hb,q⟩
theorem Inv.pinned {σ:St}{H:Hp}(I:Inv X qc σ H s)(hf:∀b∈fp,Zi7 X qc H b)(ho:∀b∈fp,∃o,s.heap.get? b=some o∧∀v,o.data≠ .cell v):Inv X (qc++Zdf fp s.heap) σ H s:=
 I.pins_of fun p hp=>(Qaq.mp hp).elim (fun z=>I.pin p (Qah _ z)) fun z=>by
  obtain⟨hb,e⟩:=Zfy z;obtain⟨f0,f1,f2,_⟩:=hf p.1 hb;obtain⟨o,e',d⟩:=ho p.1 hb;rw[e] at e';cases e';exact⟨e,f0,f1,f2,d⟩
theorem Inv.unpinned {pl:List (Addr×Obj)}{σ:St}{H:Hp}(I:Inv X (qc++pl) σ H s):Inv X qc σ H s:=I.pins_of fun p hp=>I.pin p (Qah _ (Qat _ hp))
theorem Zbh {qe:Expr}{wi:TI}{g:TG}{tb:TS}{pos:PySem.Pos}(hp:PassesOwn (model X.prog X.w) X.A X.env X.xe)(hc:X.calm=true)(hi:PI X tg qe wi)(hg:PG X tg g)(hb:PSs X body tb)
  (hs:∀x,foldedSetIterable qe X.env x=pure x:=by intro _;rfl):PS X (.For tg qe body [] pos) (Zgt wi g tb):=by
 intro qc s σ H D I h;refine wpAny_For (thn (hi qc s σ H _ I h) fun v s1 h1=>thn h1 fun itv s2 h2=> ?_) hs;obtain⟨it,fp,tn,J,H2,e,I2,T,st2,f2,W,⟨m0,w0⟩,turn⟩:=h2;subst e;have stat:∀{H':Hp},(∀b∈fp,H' b=none)→∀b∈fp,Zi7 X qc H' b:=fun hn b hb=>⟨hn b hb,(f2 b hb).2⟩;refine codeAny_forLoop_any (fun n s'=>∃i σ' H',Inv X qc σ' H' s'∧tn i s'.heap∧(∀b∈fp,H' b=none)∧W i n σ' H') ?_ m0 ⟨0,σ,H2,I2,st2,fun b hb=>(f2 b hb).1,w0⟩;rintro n s3 ⟨i,σ3,H3,I3,st3,fr3,w3⟩;rcases turn i n σ3 H3 w3 with⟨stop,qn⟩|⟨go,N,hN,step⟩
 ·refine QcG hp (thn (T.done X rfl rfl rfl hc i qc s3 σ3 H3 X.xe I3 (stat fr3) st3 stop) fun r s4 ⟨hr,I4⟩=> ?_);subst hr;exact QdX ⟨σ3,H3,I4,qn⟩
 ·refine QcG hp (thn (T.item X rfl rfl rfl hc i qc s3 σ3 H3 X.xe I3 (stat fr3) st3 go) fun r s4 ⟨u,hr,h4⟩=> ?_);subst hr;refine QcG hp (thn h4 fun _ s5 ⟨x,H5,I5,r5,y5,st5,fr5⟩=> ?_);have I5':=I5.pinned (stat fr5) (T.obj _ _ st5);refine QcG hp (thn (hg _ s5 σ3 H5 x u _ I5' r5 (step x H5 y5)) fun _ s6 ⟨σ6,H6,I6,q6⟩=> ?_);refine QcG hp (thn (hb _ s6 σ6 H6 _ I6 q6) fun f s7 q7=> ?_)
  have again:∀{σ7:St} {H7:Hp},Inv X (qc++Zdf fp s5.heap) σ7 H7 s7→N σ7 H7→∃m,m<n∧∃i σ' H',Inv X qc σ' H' s7∧tn i s7.heap∧(∀b∈fp,H' b=none)∧W i m σ' H':=fun{σ7 H7} I7 n7=>by
   obtain⟨m',hm,w7⟩:=hN σ7 H7 n7;refine⟨m',hm,i+1,σ7,H7,I7.unpinned,T.keep _ _ _ st5 fun b hb o e=>(I7.pin (b,o) (Qah _ (Qah _ (Za0 hb e)))).1,fun b hb=> ?_,w7⟩;obtain⟨o,e,d⟩:=T.obj _ _ st5 b hb;exact(I7.pin (b,o) (Qah _ (Qah _ (Za0 hb e)))).2.1
  cases f with
  |next=>obtain⟨σ7,H7,I7,n7⟩:=q7;exact again I7 n7
  |cont=>obtain⟨σ7,H7,I7,n7⟩:=q7;exact again I7 n7
  |brk=>obtain⟨σ7,H7,I7,q7⟩:=q7;exact⟨σ7,H7,I7.unpinned,q7⟩
  |ret v=>obtain⟨x7,σ7,H7,I7,r7,q7⟩:=q7;exact⟨x7,σ7,H7,I7.unpinned,r7,q7⟩
end
theorem Zbi {K:PySem.W.Frag}{xs:List V}{g:TG}{tb:TS}{D:Zi6}{σ:St}{H:Hp}(Pv:Nat→St→Hp→Prop)(h0:Pv 0 σ H)(hl:∀i σ H,i≤xs.length→Pv i σ H→SqL K H a xs)
  (hs:∀i x σ H,xs[i]?=some x→Pv i σ H→g x σ H fun σ2 H2=>tb {D with nx:=Pv (i+1),ct:=Pv (i+1),bk:=D.nx } σ2 H2) (hd:∀σ H,Pv xs.length σ H→D.nx σ H):
  ∃W:Nat→Nat→St→Hp→Prop,(∃m,W 0 m σ H)∧∀i m σ H,W i m σ H→
   ((Itl K a).stop i H∧D.nx σ H)∨((Itl K a).go i H∧∃N:St→Hp→Prop,(∀σ' H',N σ' H'→∃m',m'<m∧W (i+1) m' σ' H')∧∀x H',(Itl K a).yld i H x H'→g x σ H' fun σ2 H2=>tb {D with nx:=N,ct:=N,bk:=D.nx } σ2 H2):=by
 refine⟨fun i m σ H=>m=xs.length-i∧i≤xs.length∧Pv i σ H,⟨xs.length,by simp,QaU _,h0⟩,?_⟩;rintro i m σ H ⟨rfl,hi,p⟩;have q:=hl i σ H hi p;by_cases hlt:i<xs.length
 ·refine .inr ⟨⟨xs,xs[i],q,by simp[hlt]⟩,Pv (i+1),fun σ' H' p'=>⟨xs.length-(i+1),by omega,rfl,hlt,p'⟩,fun x H' y=> ?_⟩;obtain⟨e,y⟩:=y;subst e;exact hs i x σ _ (y xs q) p
 ·have e:i=xs.length:=by omega
  subst e;exact .inl ⟨⟨xs,q,Qak _⟩,hd σ H p⟩
theorem ZbI {g:TG}{tb:TS}{D:Zi6}{σ:St}{H:Hp}(Pv:Nat→St→Hp→Prop)(h0:Pv 0 σ H)
  (hs:∀i σ H,i<n→Pv i σ H→g (.int (lo+i)) σ H fun σ2 H2=>tb {D with nx:=Pv (i+1),ct:=Pv (i+1),bk:=D.nx } σ2 H2) (hd:∀σ H,Pv n σ H→D.nx σ H):
  ∃W:Nat→Nat→St→Hp→Prop,(∃m,W 0 m σ H)∧∀i m σ H,W i m σ H→
   ((Itr lo n).stop i H∧D.nx σ H)∨((Itr lo n).go i H∧∃N:St→Hp→Prop,(∀σ' H',N σ' H'→∃m',m'<m∧W (i+1) m' σ' H')∧∀x H',(Itr lo n).yld i H x H'→g x σ H' fun σ2 H2=>tb {D with nx:=N,ct:=N,bk:=D.nx } σ2 H2):=by
 refine⟨fun i m σ H=>m=n-i∧i≤n∧Pv i σ H,⟨n,by simp,QaU _,h0⟩,?_⟩;rintro i m σ H ⟨rfl,hi,p⟩;by_cases hlt:i<n
 ·refine .inr ⟨hlt,Pv (i+1),fun σ' H' p'=>⟨n-(i+1),by omega,rfl,hlt,p'⟩,fun x H' y=> ?_⟩;obtain⟨e,y⟩:=y;subst e y;exact hs i σ _ hlt p
 ·have e:i=n:=by omega
  subst e;exact .inl ⟨Qak _,hd σ H p⟩
theorem ZhG {c:TT}{tb:TS}{D:Zi6}{σ:St}{H:Hp}(Pv:St→Hp→Prop)(μ:St→Hp→Nat)(h0:Pv σ H)
  (hs:∀σ H,Pv σ H→c σ H fun b H1=>if b=true then tb {D with nx:=fun σ' H'=>Pv σ' H'∧μ σ' H'<μ σ H,ct:=fun σ' H'=>Pv σ' H'∧μ σ' H'<μ σ H,bk:=D.nx } σ H1 else D.nx σ H1)
  (mono:∀σ H Q Q',(∀b H1,Q b H1→Q' b H1)→c σ H Q→c σ H Q'):ZhD c tb D σ H:=by
 refine⟨fun m σ H=>m=μ σ H∧Pv σ H,⟨_,rfl,h0⟩,?_⟩;rintro m σ H ⟨rfl,p⟩;refine mono σ H _ _ (fun b H1 q=> ?_) (hs σ H p)
 cases b with
 |true=>exact⟨_,fun σ' H' ⟨p',l⟩=>⟨_,l,rfl,p'⟩,q⟩
 |false=>exact q
abbrev R2:=V→V→Hp→VK→Prop
def OpR (X:Cx)(f:Value→Value→Sem Value)(r:R2):Prop:=
 ∀(qc:List (Addr×Obj)) (s:Shared) (σ:St) (H:Hp) (x y:V) (v u:Value) (Q:VK),Inv X qc σ H s→ZaY x v→ZaY y u→r x y H Q→
  wpAny (model X.prog X.w) X.A (f v u) (EP X qc σ Q) X.xe s
def UnR (X:Cx)(f:Value→Sem Value)(r:V→Hp→VK→Prop):Prop:=
 ∀(qc:List (Addr×Obj)) (s:Shared) (σ:St) (H:Hp) (x:V) (v:Value) (Q:VK),Inv X qc σ H s→ZaY x v→r x H Q→
  wpAny (model X.prog X.w) X.A (f v) (EP X qc σ Q) X.xe s
def ZcE (X:Cx)(f:Value)(r:List V→Hp→VK→Prop):Prop:=
 ∀(qc:List (Addr×Obj)) (s:Shared) (σ:St) (H:Hp) (xs:List V) (us:List Value) (Q:VK),Inv X qc σ H s→ZaR xs us→r xs H Q→
  wpAny (model X.prog X.w) X.A (call f us) (EP X qc σ Q) X.xe s
def Zse (X:Cx)(r:V→Hp→(Bool→Hp→Prop)→Prop):Prop:=
 ∀(qc:List (Addr×Obj)) (s:Shared) (σ:St) (H:Hp) (x:V) (v:Value) (Q:Bool→Hp→Prop),Inv X qc σ H s→ZaY x v→r x H Q→
  wpAny (model X.prog X.w) X.A (truthy v) (TP X qc σ Q) X.xe s
def tOp (r:R2)(ta tb:TE):TE:=fun σ H Q=>ta σ H fun x H1=>tb σ H1 fun y H2=>r x y H2 Q
def tUn (r:V→Hp→VK→Prop)(ta:TE):TE:=fun σ H Q=>ta σ H fun x H1=>r x H1 Q
def rI (C:Int→Int→Prop)(g:Int→Int→V):R2:=fun x y H Q=>∃i j,x= .int i∧y= .int j∧C i j∧Q (g i j) H
def rI0 (g:Int→Int→V):R2:=fun x y H Q=>∃i j,x= .int i∧y= .int j∧Q (g i j) H
def rU (g:Int→V):V→Hp→VK→Prop:=fun x H Q=>∃i,x= .int i∧Q (g i) H
section
variable {X:Cx}{a b:Expr}{ta tb tc:TE}{pos:PySem.Pos}
theorem Zq5 (ha:PE X a ta)(hb:PE X b tb){σ:St}{H:Hp}{R:V→V→Hp→Prop}(I:Inv X qc σ H s)
  (h:ta σ H fun x H1=>tb σ H1 fun y H2=>R x y H2) {Q:Value→Shared→Prop} {f:Value→Value→Sem Value}
  (hf:∀v u s2 x y H2,Inv X qc σ H2 s2→ZaY x v→ZaY y u→R x y H2→wpAny (model X.prog X.w) X.A (f v u) Q X.xe s2):
  wpAny (model X.prog X.w) X.A (eval a X.env) (fun v s₁=>wpAny (model X.prog X.w) X.A (eval b X.env) (fun u s₂=>wpAny (model X.prog X.w) X.A (f v u) Q X.xe s₂) X.xe s₁) X.xe s:=by
 refine thn (ha qc s σ H _ I h) fun v s1 ⟨x,H1,I1,r1,q1⟩=> ?_;refine thn (hb qc s1 σ H1 _ I1 q1) fun u s2 ⟨y,H2,I2,r2,q2⟩=> ?_;exact hf v u s2 x y H2 I2 r1 r2 q2
theorem Zau {op:Operator}{r:R2}(ho:OpR X (binaryOp op) r)(ha:PE X a ta)(hb:PE X b tb):PE X (.BinOp a op b pos) (tOp r ta tb):=by
 intro qc s σ H Q I h;exact wpAny_BinOp (Zq5 ha hb I h fun v u s2 x y H2 I2 rx ry q=>ho qc s2 σ H2 x y v u Q I2 rx ry q)
theorem Zq6 {op:UnaryOp}{r:V→Hp→VK→Prop}(ho:UnR X (unaryOp op) r)(ha:PE X a ta):PE X (.UnaryOp op a pos) (tUn r ta):=by
 intro qc s σ H Q I h;exact UnaryOp_ (thn (ha qc s σ H _ I h) fun v s1 ⟨x,H1,I1,r1,q1⟩=>ho qc s1 σ H1 x v Q I1 r1 q1)
theorem opI {C:Int→Int→Prop}
  (rule:∀(i j:Int) (t u:Tok) (s:Shared) (Q:Value→Shared→Prop) (E:Value→Shared→Prop),C i j→Q (.int (g i j) s.toks) {s with toks:=s.toks+1 }→wpAny (model X.prog X.w) X.A (f (.int i t) (.int j u)) Q E s):
  OpR X f (rI C fun i j=> .int (g i j)):=by
 intro qc s σ H x y v u Q I rx ry h;obtain⟨i,j,rfl,rfl,hc,q⟩:=h;obtain⟨t,rfl⟩:=rx;obtain⟨t',rfl⟩:=ry;exact rule i j t t' s _ _ hc ⟨.int (g i j),H,I.tok _,⟨_,rfl⟩,q⟩
theorem ZrG 
  (rule:∀(i j:Int) (t u:Tok) (s:Shared) (Q:Value→Shared→Prop) (E:Value→Shared→Prop),Q (.int (g i j) s.toks) {s with toks:=s.toks+1 }→wpAny (model X.prog X.w) X.A (f (.int i t) (.int j u)) Q E s):
  OpR X f (rI0 fun i j=> .int (g i j)):=by
 intro qc s σ H x y v u Q I rx ry h;obtain⟨i,j,rfl,rfl,q⟩:=h;obtain⟨t,rfl⟩:=rx;obtain⟨t',rfl⟩:=ry;exact rule i j t t' s _ _ ⟨.int (g i j),H,I.tok _,⟨_,rfl⟩,q⟩
theorem ZqN {g:Int→Int→Bool}
  (rule:∀(i j:Int) (t u:Tok) (s:Shared) (Q:Value→Shared→Prop) (E:Value→Shared→Prop),Q (.bool (g i j)) s→wpAny (model X.prog X.w) X.A (f (.int i t) (.int j u)) Q E s):
  OpR X f (rI0 fun i j=> .bl (g i j)):=by
 intro qc s σ H x y v u Q I rx ry h;obtain⟨i,j,rfl,rfl,q⟩:=h;obtain⟨t,rfl⟩:=rx;obtain⟨t',rfl⟩:=ry;exact rule i j t t' s _ _ ⟨.bl (g i j),H,I,rfl,q⟩
def Zsf (i j:Int):Prop:=0≤j∧j≤1000000∧i.natAbs<2^64
def ZqO (i j:Int):Prop:=(-(2^64)<i∧i<2^64)∨(-(2^64)<j∧j<2^64)
theorem ZqO.ok {i j:Int}(h:ZqO i j):IntMulOk i j:=by
 rcases h with⟨h1,h2⟩|⟨h1,h2⟩
 ·exact .of_left (intBits_le_64 h1 h2)
 ·exact .of_right (intBits_le_64 h1 h2)
theorem ZaP:OpR X (binaryOp .Add) (rI0 fun i j=> .int (i+j)):=ZrG fun _ _ _ _ _ _ _ q=>add_int q
theorem Zbz:OpR X (binaryOp .Sub) (rI0 fun i j=> .int (i-j)):=ZrG fun _ _ _ _ _ _ _ q=>sub_int q
theorem ZcN:OpR X (binaryOp .Mult) (rI ZqO fun i j=> .int (i*j)):=opI fun _ _ _ _ _ _ _ hc q=>mul_int q hc.ok
theorem Zeo:OpR X (binaryOp .Mod) (rI (fun _ j=>0<j) fun i j=> .int (i%j)):=opI fun i j _ _ _ _ _ hc q=>by
 have h1:(0:Int)<j:=hc;exact mod_int' (by omega) (by rw[Int.fmod_eq_emod_of_nonneg i (by omega)];exact q)
theorem ZhH:OpR X (binaryOp .Pow) (rI Zsf fun i j=> .int (i^j.toNat)):=opI fun _ _ _ _ _ _ _ hc q=>pow_int_small hc.1 hc.2.1 hc.2.2 q
theorem unI {f:Value→Sem Value}{g:Int→Int}
  (rule:∀(i:Int) (t:Tok) (s:Shared) (Q:Value→Shared→Prop) (E:Value→Shared→Prop),Q (.int (g i) s.toks) {s with toks:=s.toks+1 }→wpAny (model X.prog X.w) X.A (f (.int i t)) Q E s):
  UnR X f (rU fun i=> .int (g i)):=by
 intro qc s σ H x v Q I rx h;obtain⟨i,rfl,q⟩:=h;obtain⟨t,rfl⟩:=rx;exact rule i t s _ _ ⟨.int (g i),H,I.tok _,⟨_,rfl⟩,q⟩
theorem Zpv:UnR X (unaryOp .USub) (rU fun i=> .int (-i)):=unI fun _ _ _ _ _ q=>neg_int q
end
def ZrH:V→V→Bool
 | .non,.non=>true| .non,.int _=>true| .int _,.non=>true| .non,.bl _=>true| .bl _,.non=>true| .non,.str _=>true| .str _,.non=>true
 | .int _,.int _=>true| .bl _,.bl _=>true| .str _,.str _=>true| .byt _,.byt _=>true
 | .int _,.str _=>true| .str _,.int _=>true| .bl _,.str _=>true| .str _,.bl _=>true
 |_,_=>false
def rEq:R2:=fun x y H Q=>ZrH x y=true∧Q (.bl (decide (x=y))) H
def rNe:R2:=fun x y H Q=>ZrH x y=true∧Q (.bl (!decide (x=y))) H
theorem Zjn {i j:Int}:decide (V.int i=V.int j)=(i==j):=by
 rw[QdY];simp
theorem Zm7 {i j:Bool}:decide (V.bl i=V.bl j)=(i==j):=by
 rw[QdY];simp
theorem Zjo {i j:Str}:decide (V.str i=V.str j)=(i==j):=by
 rw[QdY];simp
theorem Zjp {i j:Array UInt8}:decide (V.byt i=V.byt j)=(i.toList==j.toList):=by
 rw[QdY];cases i;cases j;simp
section
variable {X:Cx}{a b:Expr}{ta tb tc:TE}{pos:PySem.Pos}
theorem ZaN {σ:St}{H:Hp}{Q:VK}{k k':Bool}(I:Inv X qc σ H s)(q:Q (.bl k) H)(e:k=k'):EP X qc σ Q (.bool k') s:=by
 subst e;exact⟨.bl k,H,I,rfl,q⟩
theorem ZeI:OpR X (compareOp .Eq) rEq:=by
 intro qc s σ H x y v u Q I rx ry h;obtain⟨hs,q⟩:=h
 cases x with
 |non=>
  cases rx
  cases y with
  |non=>cases ry;exact PySem.EqNone.eq_none_none (ZaN I q (by simp))
  |bl j=>cases ry;exact PySem.EqNone.eq_none_bool (ZaN I q (by simp))
  |int j=>obtain⟨t',rfl⟩:=ry;exact PySem.EqNone.eq_none_int (ZaN I q (by simp))
  |str j=>obtain⟨t',rfl⟩:=ry;exact PySem.EqNone.eq_none_str (ZaN I q (by simp))
  |_=>exact absurd (show false=true from hs) QaI
 |bl i=>
  cases rx
  cases y with
  |non=>cases ry;exact PySem.EqNone.eq_bool_none (ZaN I q (by simp))
  |bl j=>cases ry;exact eq_bool (ZaN I q Zm7)
  |str j=>obtain⟨t',rfl⟩:=ry;exact PySem.EqMixed.eq_bool_str (ZaN I q (by simp))
  |_=>exact absurd (show false=true from hs) QaI
 |int i=>
  obtain⟨t,rfl⟩:=rx
  cases y with
  |non=>cases ry;exact PySem.EqNone.eq_int_none (ZaN I q (by simp))
  |int j=>obtain⟨t',rfl⟩:=ry;exact eq_int (ZaN I q Zjn)
  |str j=>obtain⟨t',rfl⟩:=ry;exact PySem.EqMixed.eq_int_str (ZaN I q (by simp))
  |_=>exact absurd (show false=true from hs) QaI
 |str i=>
  obtain⟨t,rfl⟩:=rx
  cases y with
  |non=>cases ry;exact PySem.EqNone.eq_str_none (ZaN I q (by simp))
  |bl j=>cases ry;exact PySem.EqMixed.eq_str_bool (ZaN I q (by simp))
  |int j=>obtain⟨t',rfl⟩:=ry;exact PySem.EqMixed.eq_str_int (ZaN I q (by simp))
  |str j=>obtain⟨t',rfl⟩:=ry;exact eq_str (ZaN I q Zjo)
  |_=>exact absurd (show false=true from hs) QaI
 |byt i=>
  obtain⟨t,rfl⟩:=rx
  cases y with
  |byt j=>obtain⟨t',rfl⟩:=ry;exact PySem.W.eq_bytes (ZaN I q Zjp)
  |_=>exact absurd (show false=true from hs) QaI
 |_=>cases y<;>exact absurd (show false=true from hs) QaI
theorem Zpw:OpR X (compareOp .NotEq) rNe:=by
 intro qc s σ H x y v u Q I rx ry h;obtain⟨hs,q⟩:=h
 cases x with
 |non=>
  cases rx
  cases y with
  |non=>cases ry;exact PySem.EqNone.ne_none_none (ZaN I q (by simp))
  |bl j=>cases ry;exact PySem.EqNone.ne_none_bool (ZaN I q (by simp))
  |int j=>obtain⟨t',rfl⟩:=ry;exact PySem.EqNone.ne_none_int (ZaN I q (by simp))
  |str j=>obtain⟨t',rfl⟩:=ry;exact PySem.EqNone.ne_none_str (ZaN I q (by simp))
  |_=>exact absurd (show false=true from hs) QaI
 |bl i=>
  cases rx
  cases y with
  |non=>cases ry;exact PySem.EqNone.ne_bool_none (ZaN I q (by simp))
  |bl j=>cases ry;exact ne_bool (ZaN I q (congrArg not Zm7))
  |str j=>obtain⟨t',rfl⟩:=ry;exact PySem.EqMixed.ne_bool_str (ZaN I q (by simp))
  |_=>exact absurd (show false=true from hs) QaI
 |int i=>
  obtain⟨t,rfl⟩:=rx
  cases y with
  |non=>cases ry;exact PySem.EqNone.ne_int_none (ZaN I q (by simp))
  |int j=>obtain⟨t',rfl⟩:=ry;exact ne_int (ZaN I q (congrArg not Zjn))
  |str j=>obtain⟨t',rfl⟩:=ry;exact PySem.EqMixed.ne_int_str (ZaN I q (by simp))
  |_=>exact absurd (show false=true from hs) QaI
 |str i=>
  obtain⟨t,rfl⟩:=rx
  cases y with
  |non=>cases ry;exact PySem.EqNone.ne_str_none (ZaN I q (by simp))
  |bl j=>cases ry;exact PySem.EqMixed.ne_str_bool (ZaN I q (by simp))
  |int j=>obtain⟨t',rfl⟩:=ry;exact PySem.EqMixed.ne_str_int (ZaN I q (by simp))
  |str j=>obtain⟨t',rfl⟩:=ry;exact ne_str (ZaN I q (congrArg not Zjo))
  |_=>exact absurd (show false=true from hs) QaI
 |byt i=>
  obtain⟨t,rfl⟩:=rx
  cases y with
  |byt j=>obtain⟨t',rfl⟩:=ry;exact PySem.W.ne_bytes (ZaN I q (congrArg not Zjp))
  |_=>exact absurd (show false=true from hs) QaI
 |_=>cases y<;>exact absurd (show false=true from hs) QaI
theorem Zit:OpR X (compareOp .Lt) (rI0 fun i j=> .bl (decide (i<j))):=ZqN fun _ _ _ _ _ _ _ q=>lt_int q
theorem Zq7:OpR X (compareOp .LtE) (rI0 fun i j=> .bl (decide (i≤j))):=ZqN fun _ _ _ _ _ _ _ q=>le_int q
theorem Zgu:OpR X (compareOp .Gt) (rI0 fun i j=> .bl (decide (j<i))):=ZqN fun _ _ _ _ _ _ _ q=>gt_int q
theorem Zn2:OpR X (compareOp .GtE) (rI0 fun i j=> .bl (decide (j≤i))):=ZqN fun _ _ _ _ _ _ _ q=>ge_int q
theorem ZaI (b:Expr)(h:op≠ .In:=by decide)(h2:op≠ .NotIn:=by decide):behindInMarks op b=false:=by
 have e1:(op==CmpOp.In)=false:=by cases op<;>first|rfl|exact absurd rfl h
 have e2:(op==CmpOp.NotIn)=false:=by cases op<;>first|rfl|exact absurd rfl h2
 cases b<;>simp[behindInMarks,e1,e2]
theorem ZbP {r:R2}(ho:OpR X (compareOp op) r)(ha:PE X a ta)(hb:PE X b tb)(hm:behindInMarks op b=false):PE X (.Compare a [op] [b] pos) (tOp r ta tb):=by
 intro qc s σ H Q I h;exact wpAny_Compare1 (Zq5 ha hb I h fun v u s2 x y H2 I2 rx ry q=>ho qc s2 σ H2 x y v u Q I2 rx ry q) hm
def ZbZ (t:TE):TT:=fun σ H Q=>t σ H fun x H'=>∃k,x= .bl k∧Q k H'
theorem ZaG {r:R2}(ho:OpR X (compareOp op) r)(ha:PE X a ta)(hb:PE X b tb)(hm:behindInMarks op b=false):PT X (.Compare a [op] [b] pos) (ZbZ (tOp r ta tb)):=by
 intro qc s σ H Q I h
 refine QeY (thn (ha qc s σ H _ I h) fun v s1 ⟨x,H1,I1,r1,q1⟩=>thn (hb qc s1 σ H1 _ I1 q1) fun u s2 ⟨y,H2,I2,r2,q2⟩=>
  thn (ho qc s2 σ H2 x y v u _ I2 r1 r2 q2) fun c s3 ⟨z,H3,I3,r3,k,e,q3⟩=> ?_) hm
 subst e;cases r3;exact Qca ⟨H3,I3,q3⟩
def Zpx (r r':R2)(ta tb tc:TE):TE:=fun σ H Q=>ta σ H fun x H1=>tb σ H1 fun y H2=>r x y H2 fun z H3=>∃k,z= .bl k∧
 (if k=true then tc σ H3 fun w' H4=>r' y w' H4 Q else Q (.bl false) H3)
theorem ZlG {op':CmpOp}{r r':R2}(ho:OpR X (compareOp op) r)(ho':OpR X (compareOp op') r')(ha:PE X a ta)(hb:PE X b tb)(hc:PE X c tc)
  (hm:lastMarks [op,op'] [b,c]=false:=by with_unfolding_all rfl):PT X (.Compare a [op,op'] [b,c] pos) (ZbZ (Zpx r r' ta tb tc)):=by
 intro qc s σ H Q I h
 refine isTrue_chain (thn (ha qc s σ H _ I h) fun v s1 ⟨x,H1,I1,r1,q1⟩=>test_link (thn (hb qc s1 σ H1 _ I1 q1) fun u s2 ⟨y,H2,I2,r2,q2⟩=>
  thn (ho qc s2 σ H2 x y v u _ I2 r1 r2 q2) fun d s3 ⟨z,H3,I3,r3,k,e,q3⟩=> ?_)) hm
 subst e;cases r3;refine Qca ?_
 cases k with
 |false=>
  obtain⟨k',e',q'⟩:=q3;cases e';exact ite_ff ⟨H3,I3,q'⟩
 |true=>
  refine ite_tt (test_last (thn (hc qc s3 σ H3 _ I3 q3) fun w' s4 ⟨z',H4,I4,r4,q4⟩=>thn (ho' qc s4 σ H4 y z' u w' _ I4 r2 r4 q4) fun d' s5 ⟨z2,H5,I5,r5,k2,e2,q5⟩=> ?_));subst e2;cases r5;exact Qca ⟨H5,I5,q5⟩
def ZqP (K:PySem.W.Frag)(x:V)(H:Hp)(k:Bool):Prop:=
 match x with
 | .non=>k=false
 | .bl b=>k=b
 | .int i=>k=(i !=0)
 | .str y=>y.length≤sizeLine∧k=((y.length:Int) !=0)
 | .byt y=>y.size≤sizeLine∧k=((y.size:Int) !=0)
 | .ref p=>(∃xs,SqL K H p xs∧k= !xs.isEmpty)∨(∃xs,SqT K H p xs∧k= !xs.isEmpty)∨∃kvs,H p=some (.dK kvs)∧k= !kvs.isEmpty
 |_=>False
theorem Ziu {κ:Type}{kvs:List (κ×V)}{vs:List (κ×Value)}(r:KV kvs vs):(!vs.isEmpty)= !kvs.isEmpty:=by
 cases r<;>rfl
theorem Zep {xs:List V}{its:List Value}(r:ZaR xs its):(!its.toArray.isEmpty)= !xs.isEmpty:=by
 cases r<;>simp
theorem Zfz:(sizeLine:Nat)<2^63:=by rw[sizeLine_eq];decide
theorem Zpy:Zse X (fun x H Q=>∃k,ZqP X.K x H k∧Q k H):=by
 intro qc s σ H x v Q I rx h;obtain⟨k,e,q⟩:=h;have hl:=Zfz;have hs:sizeLine=16777216:=sizeLine_eq
 cases x with
 |non=>
  cases rx;have e':k=false:=e;subst e';exact truthy_none ⟨H,I,q⟩
 |bl b=>
  cases rx;have e':k=b:=e;subst e';exact Qca ⟨H,I,q⟩
 |int i=>
  obtain⟨t,rfl⟩:=rx;have e':k=(i !=0):=e;subst e';exact PySem.P.truthy_int ⟨H,I,q⟩
 |str y=>
  obtain⟨t,rfl⟩:=rx;obtain⟨hy,e'⟩:y.length≤sizeLine∧k=((y.length:Int) !=0):=e;subst e';exact PySem.P.truthy_str (by omega) ⟨H,I.tok _,q⟩
 |byt y=>
  obtain⟨t,rfl⟩:=rx;obtain⟨hy,e'⟩:y.size≤sizeLine∧k=((y.size:Int) !=0):=e;subst e';exact PySem.W.truthy_bytes (by omega) ⟨H,I.tok _,q⟩
 |ref p=>
  cases rx;have e':(∃xs,SqL X.K H p xs∧k= !xs.isEmpty)∨(∃xs,SqT X.K H p xs∧k= !xs.isEmpty)∨∃kvs,H p=some (.dK kvs)∧k= !kvs.isEmpty:=e;rcases e' with⟨xs,hx,e'⟩|⟨xs,hx,e'⟩|⟨kvs,hx,e'⟩
  ·subst e';obtain⟨its,r,pl,hz⟩:=I.list hx;have hlen:=r.length;exact wpAny_truthy_list pl.isList (by simp only[QaD];omega) ⟨H,I.tok _,by rw[Zep r];exact q⟩
  ·subst e';obtain⟨its,r,pl,hz⟩:=I.tuple hx;have hlen:=r.length;exact truthy_tuple pl (by simp only[QaD];omega) ⟨H,I.tok _,by rw[Zep r];exact q⟩
  ·subst e';obtain⟨hz,hS,vs,r,m⟩:kvs.length≤sizeLine∧(p==sysModules)=false∧∃vs,KV kvs vs∧s.heap.DictOf (Za2 X.prog X.w) p vs:=I.hok p _ hx;have hlen:kvs.length=vs.length:=QeA r;exact wpAny_truthy_dict hS m (by omega) ⟨H,I.tok _,by rw[Ziu r];exact q⟩
 |_=>exact(show False from e).elim
theorem ZlH (ha:PE X a ta)(he:∀qB,isTrue a X.env qB=(do let v←qB;standAt a.pos;holding [v] (truthy v))):
  PT X a (fun σ H Q=>ta σ H fun x H'=>∃k,ZqP X.K x H' k∧Q k H'):=by
 intro qc s σ H Q I h;exact isTrue_plain (thn (ha qc s σ H _ I h) fun v s1 ⟨x,H1,I1,r1,q1⟩=>Zpy qc s1 σ H1 x v Q I1 r1 q1) (he _)
theorem ZcZ {x:V}(r:ZaR [x] us):∃u,us=[u]∧ZaY x u:=by
 cases r with
 |cons r1 r2=>cases r2;exact⟨_,rfl,r1⟩
theorem Zn3 {x y:V}(r:ZaR [x,y] us):∃u w',us=[u,w']∧ZaY x u∧ZaY y w':=by
 cases r with
 |cons r1 r2=>
  cases r2 with
  |cons r3 r4=>cases r4;exact⟨_,_,rfl,r1,r3⟩
theorem ZdE (hc:X.calm=true):ZcE X (.builtin "max") (fun xs H Q=>∃i j,xs=[.int i,.int j]∧Q (.int (if j>i then j else i)) H):=by
 intro qc s σ H xs us Q I r h;obtain⟨i,j,rfl,q⟩:=h;obtain⟨u,w',rfl,⟨t,rfl⟩,⟨t',rfl⟩⟩:=Zn3 r;refine max_two_ints (I.ok.hd hc) fun h' tk k=>⟨_,H,I.kept k,?_,q⟩;by_cases hj:j>i
 ·rw[if_pos hj,if_pos hj];exact⟨_,rfl⟩
 ·rw[if_neg hj,if_neg hj];exact⟨_,rfl⟩
theorem Zbu (hc:X.calm=true):ZcE X (.builtin "min") (fun xs H Q=>∃i j,xs=[.int i,.int j]∧Q (.int (if j<i then j else i)) H):=by
 intro qc s σ H xs us Q I r h;obtain⟨i,j,rfl,q⟩:=h;obtain⟨u,w',rfl,⟨t,rfl⟩,⟨t',rfl⟩⟩:=Zn3 r;refine min_two_ints (I.ok.hd hc) fun h' tk k=>⟨_,H,I.kept k,?_,q⟩;by_cases hj:j<i
 ·rw[if_pos hj,if_pos hj];exact⟨_,rfl⟩
 ·rw[if_neg hj,if_neg hj];exact⟨_,rfl⟩
theorem ZbU:ZcE X (.type "int") (fun xs H Q=>(∃i,xs=[.int i]∧Q (.int i) H)∨∃k,xs=[.bl k]∧Q (.int (if k then 1 else 0)) H):=by
 intro qc s σ H xs us Q I r h;rcases h with⟨i,rfl,q⟩|⟨k,rfl,q⟩
 ·obtain⟨u,rfl,t,rfl⟩:=ZcZ r;exact call_int_int ⟨.int i,H,I,⟨_,rfl⟩,q⟩
 ·obtain⟨u,rfl,r1⟩:=ZcZ r;cases r1;exact call_int_bool ⟨.int (if k then 1 else 0),H,I.tok _,⟨_,rfl⟩,q⟩
end
theorem Zi5.some_of {v:V}{o:Option Value}(r:Zi5 (some v) o):∃u,o=some u∧ZaY v u:=by
 cases o with
 |none=>exact(show False from r).elim
 |some u=>exact⟨u,rfl,r⟩
structure Zdo (k:Nat)(A:Around):Prop where
 hd:A.handled=none
 dp:A.depth+3*k+5<recursionLimit
 un:A.units+16*k+200<cLine
 gd:A.guards=some []
theorem Zdo.mono {k:Nat}(r:Zdo k A)(h:j≤k):Zdo j A:=⟨r.hd,by have:=r.dp;omega,by have:=r.un;omega,r.gd⟩
theorem Zdo.deeper {k:Nat}{A:Around}(r:Zdo (k+1) A)(env:Env):Zdo k (A.deeper env):=
 ⟨r.hd,by have:=r.dp;show A.depth+1+3*k+5<_;omega,by have:=r.un;show A.units+3+16*k+200<_;omega,r.gd⟩
theorem Zdo.depth {k:Nat}{A:Around}(r:Zdo k A):A.depth<recursionLimit:=by have:=r.dp;omega
theorem Zdo.units {k:Nat}{A:Around}(r:Zdo k A):A.units+64<cLine:=by have:=r.un;omega
def ZaB:TA:=fun _ H Q=>Q [] H
def Zaf (ta:TE)(tr:TA):TA:=fun σ H Q=>ta σ H fun x H1=>tr σ H1 fun xs H2=>Q (x::xs) H2
section
variable {X:Cx}{te:TE}{t:TA}{pos:PySem.Pos}
theorem Zad:PA X [] ZaB:=fun _ _ _ _ H Q I h=>Qb3 ⟨[],H,I,.nil,h⟩
theorem ZaA (ha:PE X e te)(hr:PA X es t)(hs:starEach (e::es) X.env=(false,eval e X.env)::starEach es X.env:=by rfl):PA X (e::es) (Zaf te t):=by
 intro pos qc s σ H Q I h;rw[hs];show wpAny _ _ (spliced ((false,eval e X.env)::backTo pos (starEach es X.env))) _ _ s;refine QbK (thn (ha qc s σ H _ I h) fun u s1 ⟨x,H1,I1,r1,q1⟩=> ?_);exact thn (hr pos qc s1 σ H1 _ I1 q1) fun us s2 ⟨xs,H2,I2,r2,q2⟩=>⟨x::xs,H2,I2,.cons r1 r2,q2⟩
def ZlC (t:TA):TE:=fun σ H Q=>t σ H fun xs H1=>xs.length≤sizeLine∧∀p,H1 p=none→Q (.ref p) (upd H1 p (.tup xs))
def ZeJ (t:TA):TE:=fun σ H Q=>t σ H fun xs H1=>xs.length≤sizeLine∧∀p,H1 p=none→Q (.ref p) (upd H1 p (.lst xs))
theorem Zcg {x1}(h:PA X es t):PE X (.Tuple es x1 pos) (ZlC t):=by
 intro qc s σ H Q I hq;refine wpAny_Tuple_spliced (thn (h pos qc s σ H _ I hq) fun us s1 ⟨xs,H1,I1,r,z,q⟩=>⟨by rw[←r.length];exact z,?_⟩);have hf:H1 s1.heap.objs.size=none:=I1.hok.fresh (Qak _);refine⟨.ref s1.heap.objs.size,upd H1 s1.heap.objs.size (.tup xs),I1.laid (t':=s1.toks) (fun b u e=>Qad _ e) (Qak _) ?_,rfl,q _ hf⟩;exact⟨z,us,r,⟨_,Qaw _ rfl,rfl,_,rfl⟩⟩
theorem ZaO (h:PA X es t):PE X (.List es pos) (ZeJ t):=by
 intro qc s σ H Q I hq;refine wpAny_List_spliced (thn (h pos qc s σ H _ I hq) fun us s1 ⟨xs,H1,I1,r,z,q⟩=>⟨by rw[←r.length];exact z,?_⟩);have hf:H1 s1.heap.objs.size=none:=I1.hok.fresh (Qak _);refine⟨.ref s1.heap.objs.size,upd H1 s1.heap.objs.size (.lst xs),I1.laid (t':=s1.toks) (fun b u e=>Qad _ e) (Qak _) ?_,rfl,q _ hf⟩;exact⟨z,us,0,r,Qaw _ rfl⟩
end
abbrev Sp:=List V→Hp→VK→XK→Prop
abbrev CXT:=List Env→Hp→Shared→XK→Value→Shared→Prop
structure ZqQ (P:Program)(w:World)(K:PySem.W.Frag)(mg:Str→Option Value)(base:Heap)(A:Around)(outer:List Env)(s:Shared)(H:Hp):Prop where
 frames:A.frames=some outer
 mod:Mod K mg base
 bs:∀b o,base.get? b=some o→s.heap.get? b=some o∧H b=none
 bsz:base.objs.size≤s.heap.objs.size
 funs:s.heap.FunFrames base outer
 frf:∀b∈frs outer,H b=none
 hok:HOk P w H s.heap
 bare:AllBare s.gens
def CE (outer:List Env)(P:Program)(w:World)(H:Hp)(s:Shared)(Q:VK)(u:Value)(s':Shared):Prop:=
 ∃v H',s'.os=s.os∧AllBare s'.gens∧Un (frs outer) [] H H' s.heap s'.heap∧HOk P w H' s'.heap∧ZaY v u∧Q v H'
def CR (CX:CXT)(outer:List Env)(P:Program)(w:World)(H:Hp)(s:Shared)(Q:VK)(E:XK)(r:Result)(s':Shared):Prop:=
 match r with
 | .ok (.ret u)=>CE outer P w H s Q u s'
 | .ok _=>False
 | .error e=>CX outer H s E e s'
structure ZbK (P:Program)(w:World)(K:PySem.W.Frag)(mg:Str→Option Value)(base:Heap)(CX:CXT)(k:Nat)(f:Addr)(fd:FuncData)(ps:List Str)(sp:Sp):Prop where
 len:∀vs H Q E,sp vs H Q E→vs.length=ps.length
 run:∀(A:Around) (outer:List Env) (s:Shared) (H:Hp) (args:Args) (us:List Value) (vs:List V) (Q:VK) (E:XK),Zdo k A→ZqQ P w K mg base A outer s H→BindsTo s fd args (ps.zip us)→ZaR vs us→sp vs H Q E→
  codeAny (model P w) A (.call (.ref f) args) (CR CX outer P w H s Q E) s
section
variable {X:Cx}{σ:St}{H:Hp}
theorem Inv.env0 (I:Inv X qc σ H s):ZqQ X.prog X.w X.K X.mg X.base X.A X.stack s H:=
 ⟨I.ok.frames,I.ok.mod,I.bs,QaE I.ok.bsz I.sz,I.stack,I.stkFree,I.hok,I.bare⟩
theorem Inv.after {Q:VK}(I:Inv X qc σ H s)(h:CE X.stack X.prog X.w H s Q u s'):EP X qc σ Q u s':=by
 obtain⟨v,H',os,bare,un,hok,r,q⟩:=h;obtain⟨hh,g,d,t,os'⟩:=s';obtain rfl:os'=s.os:=os;exact⟨v,H',I.call (h':=hh) (g':=g) (d':=d) (t':=t) (ch:=[]) un hok bare (fun b z=>absurd z (by simp)),r,q⟩
end
def ZaK (sp:Sp)(dvs:List V)(E:XK)(t:TA):TE:=fun σ H Q=>t σ H fun vs H1=>sp (vs++dvs) H1 Q E
def Ziv (K:PySem.W.Frag)(fd:FuncData)(ps:List Str)(ds:List Value):Prop:=
 ∀(s:Shared) (us:List Value),K.In s.heap→(us++ds).length=ps.length→BindsTo s fd ⟨us,[]⟩ (ps.zip (us++ds))
theorem Ziv.all {K:PySem.W.Frag}(h:∀us:List Value,us.length=ps.length→bindArgs fd ⟨us,[]⟩=pure (ps.zip us)):Ziv K fd ps []:=fun s us _ hl=>by
 rw[Qbl] at hl⊢;exact .of_eq (h us hl)
def Zjq (CX:CXT)(X:Cx)(E:XK):Prop:=∀(qc:List (Addr×Obj)) (σ:St) (H:Hp) (s:Shared) (e:Value) (s':Shared),Inv X qc σ H s→CX X.stack H s E e s'→X.xe e s'
section
variable {X:Cx}{CX:CXT}{k:Nat}{f C:Addr}{sp:Sp}{dvs:List V}{ds:List Value}{E:XK}{m:Str}{pos qz:PySem.Pos}{o:Expr}{ta:TE}{t:TA}
theorem Zpz {σ:St}{H:Hp}{Q:VK}{vs:List V}(F:ZbK X.prog X.w X.K X.mg X.base CX k f fd ps sp)(hr:Zdo k X.A)(hb:Ziv X.K fd ps ds)(hd:ZaR dvs ds)(hx:Zjq CX X E)
  (I:Inv X qc σ H s) (r:ZaR vs us) (h:sp (vs++dvs) H Q E):wpAny (model X.prog X.w) X.A (call (.ref f) us) (EP X qc σ Q) X.xe s:=by
 have r2:ZaR (vs++dvs) (us++ds):=r.append hd;have hl:(us++ds).length=ps.length:=by rw[←r2.length];exact F.len _ _ _ _ h
 refine wpAny_call (QcT (F.run X.A X.stack s H ⟨us,[]⟩ (us++ds) (vs++dvs) Q E hr I.env0 (hb s us I.kIn hl) r2 h) fun r s' hq=> ?_)
 cases r with
 |error e=>exact hx qc σ H s e s' I hq
 |ok fl=>
  cases fl with
  |ret u=>exact I.after hq
  |next=>exact False.elim hq
  |brk=>exact False.elim hq
  |cont=>exact False.elim hq
theorem Zn4 (F:ZbK X.prog X.w X.K X.mg X.base CX k f fd ps sp)(hr:Zdo k X.A)(hg:Gl X x)(hm:X.mg x=some (.ref f))(hk:PySem.W.keepIn X.K (.ref f)=true)(hb:Ziv X.K fd ps ds)(hd:ZaR dvs ds)(hx:Zjq CX X E)
  (ha:PA X (e::es) t) (hdb:(x==("__debug__" :Str))=false:=by decide) (he:starEach (e::es) X.env=(false,eval e X.env)::starEach es X.env:=by rfl) (hpl:(backTo pos (starEach es X.env)).any (·.1)=false:=by rfl):
  PE X (.Call (.Name x p) (e::es) [] pos) (ZaK sp dvs E t):=by
 intro qc s σ H Q I h;refine Qbu (Zjh I hg hm ?_ hdb);refine PySem.W.callWith_K (h₀:=X.base) I.ok.mod.kin hk (thn (ha pos qc s σ H _ I h) fun us s1 ⟨vs,H1,I1,r,q⟩=>⟨I1.kIn,?_⟩) he hpl;exact Zpz F hr hb hd hx I1 r q
end
structure Zaw (N P:List Str)(sc:Scope):Prop where
 kind:sc.kind= .function
 co:sc.isCoroutine=false
 gen:sc.isGenerator=false
 nd:N.Nodup
 pre:N.take P.length=P
 par:∀x∈P,sc.names.lookup x=some .local∨sc.names.lookup x=some .cell
 nofree:∀y∈sc.names,y.2≠ .free
theorem ZfA {kindOf:Str→Option NameKind}{x:Str}:∀{binds:List (Str×Value)} {m:Str→Option Value},(∀v,(x,v) ∉binds)→bindL kindOf binds m x=m x
 | [],_,_=>rfl
 | (n,v)::r,m,h=>by
  unfold bindL;rw[ZfA fun w hw=>h w (Qao _ hw)];split
  ·have:x≠n:=by rintro rfl;exact h v Qai
   simp[this]
  ·rfl
theorem ZfB {kindOf:Str→Option NameKind}{x:Str}:∀{binds:List (Str×Value)} {m:Str→Option Value},(∀v,(x,v) ∉binds)→bindC kindOf binds m x=m x
 | [],_,_=>rfl
 | (n,v)::r,m,h=>by
  unfold bindC;rw[ZfB fun w hw=>h w (Qao _ hw)];split
  ·rfl
  ·have:x≠n:=by rintro rfl;exact h v Qai
   simp[this]
theorem ZfC {kindOf:Str→Option NameKind}{x:Str}{v:Value}:∀{P:List Str} {vs:List Value} {i:Nat} {m:Str→Option Value},P.Nodup→P[i]?=some x→vs[i]?=some v→kindOf x=some .local→
  bindL kindOf (P.zip vs) m x=some v
 | [],_,_,_,_,h,_,_=>by simp at h
 |_::_,[],_,_,_,_,h,_=>by simp at h
 |p::P,w::vs,0,m,nd,h1,h2,hk=>by
  simp at h1 h2;subst h1;subst h2;show bindL kindOf ((p,w)::P.zip vs) m p=_;unfold bindL;rw[ZfA fun v hv=>(Qcu.mp nd).1 (QeZ hv).1,if_pos hk];simp
 |p::P,w::vs,i+1,m,nd,h1,h2,hk=>by
  show bindL kindOf ((p,w)::P.zip vs) m x=_;unfold bindL;exact ZfC (i:=i) (Qcu.mp nd).2 (by simpa using h1) (by simpa using h2) hk
theorem ZfD {kindOf:Str→Option NameKind}{x:Str}{v:Value}:∀{P:List Str} {vs:List Value} {i:Nat} {m:Str→Option Value},P.Nodup→P[i]?=some x→vs[i]?=some v→kindOf x≠some .local→
  bindC kindOf (P.zip vs) m x=some v
 | [],_,_,_,_,h,_,_=>by simp at h
 |_::_,[],_,_,_,_,h,_=>by simp at h
 |p::P,w::vs,0,m,nd,h1,h2,hk=>by
  simp at h1 h2;subst h1;subst h2;show bindC kindOf ((p,w)::P.zip vs) m p=_;unfold bindC;rw[ZfB fun v hv=>(Qcu.mp nd).1 (QeZ hv).1,if_neg hk];simp
 |p::P,w::vs,i+1,m,nd,h1,h2,hk=>by
  show bindC kindOf ((p,w)::P.zip vs) m x=_;unfold bindC;exact ZfD (i:=i) (Qcu.mp nd).2 (by simpa using h1) (by simpa using h2) hk
def start (N:List Str)(vs:List V):St:=vs.map some++List.replicate (N.length-vs.length) none
def Zpg (CX:CXT)(P:Program)(w:World)(K:PySem.W.Frag)(mg:Str→Option Value)(base:Heap)(N:List Str)(qm:Str)(scope:Scope)(f:Addr)(cd:Value)(A:Around)(outer:List Env)(s:Shared)(H:Hp)(E:XK):Cx where
 prog:=P
 w:=w
 K:=K
 mg:=mg
 base:=base
 A:=A.deeper (envOfC qm scope s.heap.objs.size f cd)
 N:=N
 s₀:=s
 H₀:=H
 env:=envOfC qm scope s.heap.objs.size f cd
 outer:=outer
 stack:=envOfC qm scope s.heap.objs.size f cd::outer
 ex:=[]
 calm:=true
 fn:=fun _=>true
 pn:=[]
 xe:=fun e s'=>wpAny (model P w) (A.deeper (envOfC qm scope s.heap.objs.size f cd)) (leaving (envOfC qm scope s.heap.objs.size f cd) e) (fun _ s''=>CX outer H s E e s'') (fun e' s''=>CX outer H s E e' s'') s'
theorem ZhI {sc:Scope}(h:sc.names.lookup x=some .cell):∃c,(cellsFrom n sc.names []).lookup x=some c:=by
 have q:=QeR sc.names n [] (.inl h);exact Qbz.mp q
theorem Zjr {CX:CXT}{K:PySem.W.Frag}{f:Addr}{cd:Value}{outer:List Env}{s1:Shared}{H:Hp}{E:XK}{vs:List V}
  (S:Zaw N ps scope) (hd:A.handled=none) (e0:ZqQ P w K mg base A outer s H) (hl:vs.length=ps.length) (r:ZaR vs us)
  (x:InCallC s s.heap.objs.size (bindL (envOfC qm scope s.heap.objs.size f cd).kindOf (ps.zip us) fun _=>none) (cellsFrom (s.heap.objs.size+1) scope.names []) (bindC (envOfC qm scope s.heap.objs.size f cd).kindOf (ps.zip us) fun _=>none) s1):
  Inv (Zpg CX P w K mg base N qm scope f cd A outer s H E) [] (start N vs) H s1:=by
 have hpl:ps.length≤N.length:=by have:=congrArg List.length S.pre;rw[QaR] at this;omega
 obtain⟨h1,tk,rfl,hk⟩:=x.done;have noA:∀b:Addr,b∉(Zpg CX P w K mg base N qm scope f cd A outer s H E).ex:=fun b z=>absurd (show b∈([]:List Addr) from z) (by simp)
 refine⟨⟨e0.mod,S.kind,rfl,rfl,Qak _,fun y z c h1 h2=> ?_,fun y hy=> ?_,fun y c _ h=> ?_,fun _=>hd,Around.frames_deeper e0.frames,.inr ⟨rfl,rfl⟩,fun b z=>absurd z (noA b),e0.bs,e0.bsz,fun b _ _=>noA b,fun b z=>absurd z (noA b),e0.funs,e0.frf⟩,
  rfl,e0.bare,Un.kept hk,⟨_,x.toInCall.ns,fun i y v h1 h2 h3=> ?_⟩,fun y c h=>⟨_,x.cell y c h⟩,e0.hok.fresh (Qak _),fun y c h=> ?_,fun p hp=>absurd (show p∈([]:List (Addr×Obj)) from hp) (by simp),e0.hok.kept hk,?_⟩
 ·exact name_of_addr x.apart (Qa9 h1) (Qa9 h2)
 ·have hy:scope.names.lookup y=some .cell∨scope.names.lookup y=some .free:=hy;rcases hy with hy|hy
  ·exact ZhI hy
  ·exact absurd rfl (S.nofree _ (Qa9 hy))
 ·exact Qcx (x.above y c (Qa9 h))
 ·have hi:i<vs.length:=by
   unfold start at h2;by_cases hi:i<vs.length
   ·exact hi
   ·rw[Qav (by simpa using hi)] at h2;rw[QbD] at h2;split at h2<;>cases h2
  have ha:vs[i]?=some v:=by
   unfold start at h2;rw[QaF (by simpa using hi),Qam] at h2
   cases e:vs[i]? with
   |none=>rw[e] at h2;cases h2
   |some a=>rw[e] at h2;cases h2;rfl
  obtain⟨u,hu,rv⟩:=r.get ha
  have hp:ps[i]?=some y:=by
   rw[←S.pre,List.getElem?_take_of_lt (by omega)];exact h1
  have ndP:ps.Nodup:=by rw[←S.pre];exact S.nd.sublist (List.take_sublist _ _)
  refine⟨u,rv,?_⟩;rcases S.par y (Qap hp) with k|k
  ·exact .inl ⟨k,ZfC ndP hp hu k⟩
  ·obtain⟨c,e⟩:=ZhI (n:=s.heap.objs.size+1) k;refine .inr ⟨.inl k,c,e,?_⟩;have q:=x.cell y c e;rw[ZfD ndP hp hu (by show scope.names.lookup y≠_;rw[k];decide)] at q;exact q
 ·exact e0.hok.fresh (Qcx (x.above y c (Qa9 h)))
 ·unfold start;show _=N.length;rw[Qag,Qac,Qax];omega
theorem Zq8 {CX:CXT}{K:PySem.W.Frag}{k:Nat}{f:Addr}{name:Str}{params:Arguments}{dV kV doc pm cdv ct oc:Value}{an od:Option Addr}
  {osl:Array (Option Value)} {N ps:List Str} {sp:Sp} (lk:K.lookup f=some ⟨oc,od,.func (PySem.W.fnOf name qm params body scope dV kV doc pm an cdv ct),osl⟩) (hcd:PySem.W.codeIn K cdv qm=true) (S:Zaw N ps scope)
  (len:∀vs H Q E,sp vs H Q E→vs.length=ps.length)
  (hbody:∀(A:Around) (outer:List Env) (s:Shared) (H:Hp) (vs:List V) (Q:VK) (E:XK),Zdo k (A.deeper (envOfC qm scope s.heap.objs.size f cdv))→sp vs H Q E→
   ∃t,PSs (Zpg CX P w K mg base N qm scope f cdv A outer s H E) body t∧t {nx:=fun _ H'=>Q .non H',rt:=Q } (start N vs) H):
  ZbK P w K mg base CX (k+1) f (PySem.W.fnOf name qm params body scope dV kV doc pm an cdv ct) ps sp:=by
 refine⟨len,fun A outer s H args us vs Q E hr e0 hb r hsp=> ?_⟩;have hl:=len _ _ _ _ hsp;have KX:K.In s.heap:=e0.mod.kin.keeps fun b o e=>(e0.bs b o e).1;have lim:s.heap.NoLimit:=e0.mod.nolimit.keeps fun b o e=>(e0.bs b o e).1
 have qo:∀y∈ps.zip us,scope.names.lookup y.1=some .local∨(scope.names.lookup y.1=some .cell∧((cellsFrom (s.heap.objs.size+1) scope.names []).lookup y.1).isSome=true):=fun⟨n,v⟩ hy=>by
  rcases S.par n (QeZ hy).1 with q|q
  ·exact .inl q
  ·exact .inr ⟨q,QeR _ _ _ (.inl q)⟩
 refine codeAny_call_function hr.depth (KX _ _ lk) rfl S.co S.gen rfl (PySem.W.codeRec_of KX hcd) (hb _ _ _ _ ?_);refine wpAny_newFunctionEnv_cells S.kind qo fun env he s1 x=> ?_;subst he;refine⟨lim.keeps x.toInCall.keep,codeAny_func ?_⟩;obtain⟨t,ht,hq⟩:=hbody A outer s H vs Q E (hr.deeper _) hsp;have I:Inv (Zpg CX P w K mg base N qm scope f cdv A outer s H E) [] (start N vs) H s1:=Zjr S hr.hd e0 hl r x;refine QaZ (ht [] s1 (start N vs) H _ I hq) (fun fl s' hs=> ?_) fun e s' hs=>hs
 have fin:∀{σ':St} {H':Hp} {v:V} {u:Value},Inv (Zpg CX P w K mg base N qm scope f cdv A outer s H E) [] σ' H' s'→ZaY v u→Q v H'→CE outer P w H s Q u s':=
  fun{σ' H' v u} J rv q=>⟨v,H',J.os,J.bare,J.base,J.hok,rv,q⟩
 cases fl with
 |ret u=>
  obtain⟨v,σ',H',J,rv,q⟩:=hs;exact fin J rv q
 |next=>
  obtain⟨σ',H',J,q⟩:=hs;exact fin (v:=V.non) (u:=Value.none) J rfl q
 |brk=>
  obtain⟨_,_,_,q⟩:=hs;exact False.elim q
 |cont=>
  obtain⟨_,_,_,q⟩:=hs;exact False.elim q
section
variable {X:Cx}{pos:PySem.Pos}{t:TA}{id T:String}{r:List V→Hp→VK→Prop}
def tCB (r:List V→Hp→VK→Prop)(t:TA):TE:=fun σ H Q=>t σ H fun vs H1=>r vs H1 Q
theorem Zaz (hc:ZcE X (.builtin id) r)(hg:Gl X x)(hm:X.mg x=none)(hv:bootBuiltins x=some (.builtin id))(ha:PA X (e::es) t)(hn:x≠ "__name__" :=by decide)(hdb:(x==("__debug__" :Str))=false:=by decide)
  (he:starEach (e::es) X.env=(false,eval e X.env)::starEach es X.env:=by rfl) (hpl:(backTo pos (starEach es X.env)).any (·.1)=false:=by rfl):PE X (.Call (.Name x p) (e::es) [] pos) (tCB r t):=by
 intro qc s σ H Q I h;refine Qbu (ZbS I hg hm hv ?_ hn hdb);exact QbU (thn (ha pos qc s σ H _ I h) fun us s1 ⟨vs,H1,I1,r1,q1⟩=>hc qc s1 σ H1 vs us Q I1 r1 q1) he hpl
theorem ZaU (hc:ZcE X (.type T) r)(hg:Gl X x)(hm:X.mg x=none)(hv:bootBuiltins x=some (.type T))(ha:PA X (e::es) t)(hn:x≠ "__name__" :=by decide)(hdb:(x==("__debug__" :Str))=false:=by decide)
  (he:starEach (e::es) X.env=(false,eval e X.env)::starEach es X.env:=by rfl) (hpl:(backTo pos (starEach es X.env)).any (·.1)=false:=by rfl):PE X (.Call (.Name x p) (e::es) [] pos) (tCB r t):=by
 intro qc s σ H Q I h;refine Qbu (ZbS I hg hm hv ?_ hn hdb);exact Qbk (thn (ha pos qc s σ H _ I h) fun us s1 ⟨vs,H1,I1,r1,q1⟩=>hc qc s1 σ H1 vs us Q I1 r1 q1) he hpl
end
end L2
namespace HT
open PySem PyProof.Rows
def lexLt:List Int→List Int→Bool
 | [],[]=>false
 | [],_::_=>true
 |_::_,[]=>false
 |x::xs,y::ys=>if x=y then lexLt xs ys else decide (x<y)
theorem lexLt_cons (x y:Int)(xs ys:List Int):lexLt (x::xs) (y::ys)=if x=y then lexLt xs ys else decide (x<y):=rfl
theorem ZeK:lexLt [] []=false:=rfl
theorem Zed (y:Int)(ys:List Int):lexLt [] (y::ys)=true:=rfl
theorem Zee (x:Int)(xs:List Int):lexLt (x::xs) []=false:=rfl
theorem ZlI (A:Around)(s:Shared)(a:Int)(t:Tok)(c:Int)(u:Tok):∃e,SeqAt.EqAt A s (.int a t) (.int c u) e∧(e=true↔a=c):=
 ⟨(a==c),SeqAt.EqAt.int_int a t c u,by simp⟩
theorem ZlJ (A:Around)(s:Shared)(a:Int)(t:Tok)(c:Int)(u:Tok)(prog:Program)(w:World)(E:Value→Shared→Prop)(Q:Value→Shared→Prop)(h:Q (.bool (decide (a<c))) s):
  wpAny (model prog w) A (richCompare .Lt (.int a t) (.int c u)) Q E s:=
 (PyProof.Rows.lt_int h:wpAny (model prog w) A (compareOp .Lt (.int a t) (.int c u)) Q E s)
section
open PySem.SeqAt
open PySem.AutoSeq1 (wpAny_loadPart')
open PySem.MeetsSeq PySem.MeetsSeq2 PySem.MeetsSeq3
theorem ZeL (l b:Addr)(items items2:Array Value)(n n2:Nat)(dd dd2:Option Addr)(sl sl2:Array (Option Value))(ns ms:List Int)(hi:IntsAre items.toList ns)(hj:IntsAre items2.toList ms):
  Meets (Builtin.«tuple.__lt__» ⟨[.ref l,.ref b],[]⟩)
   (fun _ R s=>s.heap.get? l=some {cls:=.type "tuple",dict:=dd,data:=.seq items n,slots:=sl }∧s.heap.get? b=some {cls:=.type "tuple",dict:=dd2,data:=.seq items2 n2,slots:=sl2 }∧
    R (.ok (.ret (.bool (lexLt ns ms)))) s):=
 .of_wp fun prog w A R s h=>by
  obtain⟨hp,g,d,tk,os⟩:=s;obtain⟨hl,hb,h⟩:=h;have f2:=AutoSeq1.sub_tuple_tuple;have z1:items.size=ns.length:=by rw[←hi.length];simp
  have z2:items2.size=ms.length:=by rw[←hj.length];simp
  wp_walk using Qe0 hl,Qe0 hb,QdK _ (fun rest b s'=>b.1=none∧s'=⟨hp,g,d,tk,os⟩∧∃(vs ws:List Value) (ns' ms':List Int),rest=vs.zip ws∧
   IntsAre vs ns'∧IntsAre ws ms'∧ns'.length+items2.size=ms'.length+items.size∧R (.ok (.ret (.bool (lexLt ns' ms')))) ⟨hp,g,d,tk,os⟩) _
  case turn=>
   rintro⟨y,x⟩ rest b s' ⟨hb',rfl,vs,ws,ns',ms',hz,hvi,hwi,hlen,hR⟩
   cases hvi with
   |nil=>rw[List.zip_nil_left] at hz;cases hz
   |cons a t hvi'=>
    cases hwi with
    |nil=>rw[List.zip_nil_right] at hz;cases hz
    |cons c u hwi'=>
     rw[Qec] at hz;injection hz with hyx hrest
     injection hyx with hy hx
     subst hy hx;rw[lexLt_cons] at hR;simp only[QaM] at hlen;obtain⟨e,he,hiff⟩:=ZlI A.in1 ⟨hp,g,d,tk,os⟩ a t c u;refine Qaa (he prog w _ _ ?_)
     cases e with
     |true=>
      rw[if_pos (hiff.mp rfl)] at hR
      wp_walk
      exact⟨rfl,rfl,_,_,_,_,hrest,hvi',hwi',by omega,hR⟩
     |false=>
      rw[if_neg (fun q=>absurd (hiff.mpr q) QaI)] at hR;have hri:=ZlJ A.in1 ⟨hp,g,d,tk,os⟩ a t c u prog w
      wp_walk using hri
      exact⟨_,rfl,by simpa using hR⟩
  case fin=>
   rintro⟨b1,b2⟩ s' ⟨hb',rfl,vs,ws,ns',ms',hz,hvi,hwi,hlen,hR⟩;simp only at hb';subst hb'
   have hv:lexLt ns' ms'=decide (items.size<items2.size):=by
    cases hvi with
    |nil=>
     cases hwi with
     |nil=>
      simp only[QbM] at hlen;rw[ZeK];exact(QaC (by omega)).symm
     |cons c u hw=>
      simp only[QbM,QaM] at hlen;rw[Zed];exact(QaK (by omega)).symm
    |cons a t hv=>
     cases hwi with
     |nil=>
      simp only[QbM,QaM] at hlen;rw[Zee];exact(QaC (by omega)).symm
     |cons c u hw=>
      rw[Qec] at hz;cases hz
   rw[hv] at hR
   wp_walk
   exact⟨_,rfl,by simpa[Builtin.Tuple.tupleCompareSizes] using hR⟩
  case h=>
   exact⟨rfl,rfl,items.toList,items2.toList,ns,ms,rfl,hi,hj,by omega,h⟩
end
section
variable {prog:Program}{w:World}{A:Around}{E:Value→Shared→Prop}{s:Shared}
theorem lt_tupInts {l b:Addr}{items items2:Array Value}{ns ms:List Int}{Q:Value→Shared→Prop}(hl:IsTup s.heap l items)(hb:IsTup s.heap b items2)(hi:IntsAre items.toList ns)(hj:IntsAre items2.toList ms)
  (hu:A.units<cLine) (h:Q (.bool (lexLt ns ms)) s):wpAny (model prog w) A (compareOp .Lt (.ref l) (.ref b)) Q E s:=by
 obtain⟨⟨cls,dd,data,sl⟩,ho,hc,n,hd⟩:=id hl;obtain⟨⟨cls2,dd2,data2,sl2⟩,ho2,hc2,n2,hd2⟩:=id hb;simp only at hc hd hc2 hd2;subst hc hd hc2 hd2
 exact richCompare_meets_room (op:=.Lt) ⟨_,ho,rfl⟩ ⟨_,ho2,rfl⟩ PySem.F.slot_tuple_lt PySem.F.entry_tuple_lt (PySem.F.args_tuple_lt_2 _ _) (ZeL l b items items2 n n2 dd dd2 sl sl2 ns ms hi hj)
  ⟨ho,ho2,show Value.bool (lexLt ns ms)≠Value.notImplemented∧Q (.bool (lexLt ns ms)) s from⟨(fun x=>nomatch x),h⟩⟩ hu
def sIx (n d:Nat):Option Int→Nat
 |none=>d
 |some v=>if v<0 then(v+(n:Int)).toNat else min v.toNat n
theorem sIx_none (n d:Nat):sIx n d none=d:=rfl
theorem sIx_nat (n d k:Nat):sIx n d (some (k:Int))=min k n:=by
 show(if(k:Int)<0 then((k:Int)+(n:Int)).toNat else min (k:Int).toNat n)=min k n;rw[if_neg (by omega),QbA]
end
end HT
namespace L2
open PySem PySem.Spec PyProof.Rows
variable {X:Cx}{n j t':Nat}{s:Shared}{qc:List (Addr×Obj)}{σ:St}{H:Hp}{its its':List Value}{e:Expr}{i:Int}{u v:Value}{T:String}
abbrev TO:=St→Hp→(Option Int→Hp→Prop)→Prop
def PO (X:Cx)(e:Option Expr)(t:TO):Prop:=
 ∀(qc:List (Addr×Obj)) (s:Shared) (σ:St) (H:Hp) (Q:Option Int→Hp→Prop),Inv X qc σ H s→t σ H Q→
  wpAny (model X.prog X.w) X.A (evalPart e X.env) (fun u s'=>∃o H',Inv X qc σ H' s'∧IsPart u o∧Q o H') X.xe s
def Zc0:TO:=fun _ H Q=>Q none H
def Ziw (t:TE):TO:=fun σ H Q=>t σ H fun x H1=>∃i,x= .int i∧Q (some i) H1
theorem ZbV {ns:List Int}:∀{us:List Value},ZaR (ns.map V.int) us→IntsAre us ns:=by
 induction ns with
 |nil=>intro us r;rw[QfF] at r;cases r;exact .nil
 |cons n ns ih=>
  intro us r;rw[QaV] at r
  cases r with
  |cons r1 r2=>
   obtain⟨t,e⟩:=r1;subst e;exact .cons n t (ih r2)
section
variable {te:TE}{lo hi:Option Expr}{tl th:TO}{pos p2:PySem.Pos}
theorem ZdF:PO X none Zc0:=by
 intro qc s σ H Q I h;rw[evalPart_none];exact Qae ⟨none,H,I,.none,h⟩
theorem ZdG (h:PE X e te):PO X (some e) (Ziw te):=by
 intro qc s σ H Q I hw;rw[evalPart_some];refine thn (h qc s σ H _ I hw) fun u s1 ⟨x,H1,I1,r1,q1⟩=> ?_;obtain⟨i,rfl,q⟩:=q1;obtain⟨t,rfl⟩:=r1;exact⟨some i,H1,I1,.int i t,q⟩
def SlR (X:Cx)(r:V→Option Int→Option Int→Hp→VK→Prop):Prop:=
 ∀(qc:List (Addr×Obj)) (s:Shared) (σ:St) (H:Hp) (x:V) (v vl vu:Value) (lo hi:Option Int) (sl:Addr) (Q:VK),Inv X qc σ H s→ZaY x v→s.heap.IsSliceOf sl vl vu .none→IsPart vl lo→IsPart vu hi→r x lo hi H Q→
  ∃T id,typeLookup (.type T) "__getitem__" =pure (some (.builtin id))∧s.TypeIs v T∧wpAny (model X.prog X.w) X.A (getItem v (.ref sl)) (EP X qc σ Q) X.xe s
def tSl (r:V→Option Int→Option Int→Hp→VK→Prop)(te:TE)(tl th:TO):TE:=fun σ H Q=>te σ H fun x H1=>tl σ H1 fun l H2=>th σ H2 fun u H3=>r x l u H3 Q
theorem ZcO {r:V→Option Int→Option Int→Hp→VK→Prop}(hr:SlR X r)(he:PE X e te)(hl:PO X lo tl)(hu:PO X hi th):PE X (.Subscript e (.Slice lo hi none p2) pos) (tSl r te tl th):=by
 intro qc s σ H Q I h;refine Subscript_ (thn (he qc s σ H _ I h) fun v s1 ⟨x,H1,I1,r1,q1⟩=> ?_);refine wpAny_Slice (thn (hl qc s1 σ H1 _ I1 q1) fun vl s2 ⟨l,H2,I2,pl,q2⟩=>thn (hu qc s2 σ H2 _ I2 q2) fun vu s3 ⟨u,H3,I3,pu,q3⟩=> ?_);rw[evalPart_none];refine Qae ?_;have I4:Inv X qc σ H3 {s3 with heap:=s3.heap.push {cls:=.type "slice",data:=.fields #[vl,vu,.none] } }:=I3.kept (t':=s3.toks) fun b ob q=>Qad _ q;obtain⟨T,id,hT,ht,hg⟩:=hr qc {s3 with heap:=s3.heap.push {cls:=.type "slice",data:=.fields #[vl,vu,.none] } } σ H3 x v vl vu l u s3.heap.objs.size Q I4 r1 (Heap.IsSliceOf.new ..) pl pu q3;show wpAny (model X.prog X.w) X.A (subscriptTail e (.Slice lo hi none p2) v (.ref s3.heap.objs.size)) (EP X qc σ Q) X.xe {s3 with heap:=s3.heap.push {cls:=.type "slice",data:=.fields #[vl,vu,.none] } };exact tail_any (ops:=[.ref s3.heap.objs.size,v]) ht hT hg (by with_unfolding_all rfl)
def ZhJ (xs:List V)(lo hi:Option Int):List V:=(xs.drop (HT.sIx xs.length 0 lo)).take (HT.sIx xs.length xs.length hi-HT.sIx xs.length 0 lo)
theorem Zgv (xs:List V)(lo hi:Option Int):(ZhJ xs lo hi).length≤xs.length:=by
 unfold ZhJ;rw[QaR,Qbp];omega
end
def ixN (n:Nat)(i:Int):Option Nat:=if 0≤i then(if i<n then some i.toNat else none) else if -(n:Int)≤i then some (i+n).toNat else none
def atI {α:Type}(xs:List α)(i:Int):Option α:=(ixN xs.length i).bind fun j=>xs[j]?
theorem Zjs (h:ixN n i=some j):seqIndex? i n=some j∧j<n∧-(n:Int)≤i∧i<n:=by
 unfold ixN at h;by_cases h0:0≤i
 ·rw[if_pos h0] at h;by_cases h1:i<n
  ·rw[if_pos h1] at h;have e:i.toNat=j:=Qby h;exact⟨by rw[seqIndex_of h0 h1,e],by omega,by omega,h1⟩
  ·rw[if_neg h1] at h;cases h
 ·rw[if_neg h0] at h;by_cases h1: -(n:Int)≤i
  ·rw[if_pos h1] at h;have e:(i+n).toNat=j:=Qby h;exact⟨by rw[QfG (by omega) h1,e],by omega,h1,by omega⟩
  ·rw[if_neg h1] at h;cases h
theorem Zjt {α:Type}{xs:List α}{v:α}(h:atI xs i=some v):∃j,seqIndex? i xs.length=some j∧xs[j]?=some v∧j<xs.length∧-(xs.length:Int)≤i∧i<xs.length:=by
 unfold atI at h
 cases e:ixN xs.length i with
 |none=>rw[e] at h;cases h
 |some j=>
  rw[e] at h;obtain⟨h1,h2,h3,h4⟩:=Zjs e;exact⟨j,h1,h,h2,h3,h4⟩
theorem ZaZ {α:Type}{xs:List α}{v:α}(h:xs[j]?=some v):atI xs (j:Int)=some v:=by
 have hj:j<xs.length:=(Qaf.mp h).1
 have e:ixN xs.length (j:Int)=some j:=by
  unfold ixN;rw[if_pos (by omega),if_pos (by omega)];simp
 unfold atI;rw[e];exact h
theorem ZlK {α:Type}(xs:List α)(v:α):atI (xs++ [v]) (-1)=some v:=by
 have hl:(xs++ [v]).length=xs.length+1:=by simp
 have e:ixN (xs++ [v]).length (-1)=some xs.length:=by
  unfold ixN;rw[hl,if_neg (by decide),if_pos (by omega)];congr 1;omega
 unfold atI;rw[e];show(xs++ [v])[xs.length]?=some v;simp
def Zn5 (b:Expr):Prop:=∀o i,subscripted b false o i=operate [o,i] (getItem o i)
def IxR (X:Cx)(r:R2):Prop:=
 ∀(value qx:Expr) (qc:List (Addr×Obj)) (s:Shared) (σ:St) (H:Hp) (x y:V) (v u:Value) (Q:VK),Inv X qc σ H s→ZaY x v→ZaY y u→r x y H Q→
  subscripted qx false v u=operate [v,u] (getItem v u)→wpAny (model X.prog X.w) X.A (subscriptTail value qx v u) (EP X qc σ Q) X.xe s
def MtR (X:Cx)(id:String)(r:V→List V→Hp→VK→Prop):Prop:=
 ∀(qc:List (Addr×Obj)) (s:Shared) (σ:St) (H:Hp) (x:V) (xs:List V) (v:Value) (us:List Value) (Q:VK),Inv X qc σ H s→ZaY x v→ZaR xs us→r x xs H Q→
  wpAny (model X.prog X.w) X.A (call (.builtin id) (v::us)) (EP X qc σ Q) X.xe s
section
variable {a b:Expr}{ta tb:TE}{pos:PySem.Pos}
theorem ZaC {r:R2}(hr:IxR X r)(ha:PE X a ta)(hb:PE X b tb)(hs:Zn5 b):PE X (.Subscript a b pos) (tOp r ta tb):=by
 intro qc s σ H Q I h;exact Subscript_ (Zq5 ha hb I h fun v u s2 x y H2 I2 rx ry q=>hr a b qc s2 σ H2 x y v u Q I2 rx ry q (hs _ _))
def ZfE (K:PySem.W.Frag):R2:=fun x y H Q=>∃p xs i v,x= .ref p∧y= .int i∧SqL K H p xs∧atI xs i=some v∧Q v H
def Zgw (K:PySem.W.Frag):R2:=fun x y H Q=>∃p xs i v,x= .ref p∧y= .int i∧SqT K H p xs∧atI xs i=some v∧Q v H
theorem Zn6:IxR X (ZfE X.K):=by
 intro value qx qc s σ H x y v u Q I rx ry h hs;obtain⟨p,xs,i,z,rfl,rfl,hq,he,q⟩:=h;cases rx;obtain⟨t,rfl⟩:=ry;obtain⟨its,r,pl,hz⟩:=I.list hq;obtain⟨j,h1,h2,h3,h4,h5⟩:=Zjt he;obtain⟨w,ew,rw'⟩:=r.get h2;have hl:=r.length;have hn:=Zfz;have fin:EP X qc σ Q w s:=⟨z,H,I,rw',q⟩;by_cases h0:0≤i
 ·have hj:i.toNat=j:=by
   rw[seqIndex_of h0 h5] at h1;exact Qby h1
  exact item_listR pl.isList h0 (by omega) (by rw[hj];simpa using ew) fin hs
 ·have hj:(i+(its.toArray.size:Int)).toNat=j:=by
   rw[QfG (by omega) h4] at h1;rw[QaD,←hl];exact Qby h1
  exact QeS (x:=w) pl.isList.typeIs slot_list_getitem.lookup
   (wpAny_getItem_list_neg (Q:=fun r s'=>r=w∧EP X qc σ Q r s') pl.isList (by omega) (by rw[QaD]<;>omega) (by omega) (by rw[hj];simpa using ew) ⟨rfl,fin⟩) hs
theorem ZpA:IxR X (Zgw X.K):=by
 intro value qx qc s σ H x y v u Q I rx ry h hs;obtain⟨p,xs,i,z,rfl,rfl,hq,he,q⟩:=h;cases rx;obtain⟨t,rfl⟩:=ry;obtain⟨its,r,pl,hz⟩:=I.tuple hq;obtain⟨j,h1,h2,h3,h4,h5⟩:=Zjt he;obtain⟨w,ew,rw'⟩:=r.get h2;have hl:=r.length;have hn:=Zfz;have fin:EP X qc σ Q w s:=⟨z,H,I,rw',q⟩
 exact QeS (x:=w) pl.typeIs slot_tuple_getitem.lookup
  (getItem_tuple (j:=j) (Q:=fun r s'=>r=w∧EP X qc σ Q r s') pl (by omega) (by omega) (by rw[QaD,←hl];exact h1) (by simpa using ew) ⟨rfl,fin⟩) hs
theorem Zix (its:List Value)(n j:Nat)(u:Value):Obj.mapSeq (·.setIfInBounds j u) {cls:=.type "list",data:=.seq its.toArray n }={cls:=.type "list",data:=.seq (its.set j u).toArray n }:=by
 simp[Obj.mapSeq]
theorem Inv.lst {qc:List (Addr×Obj)}{σ:St}{H:Hp}{s:Shared}{p:Addr}{xs:List V}(I:Inv X qc σ H s)(h:H p=some (.lst xs)):
  ∃(its:List Value) (n:Nat),ZaR xs its∧s.heap.get? p=some {cls:=.type "list",data:=.seq its.toArray n }∧xs.length≤sizeLine:=by
 obtain⟨z,its,n,r,e⟩:=I.hok p _ h;exact⟨its,n,r,e,z⟩
theorem Inv.lstUpd {p:Addr}{xs ys:List V}{n':Nat}{f:Obj→Obj}(I:Inv X qc σ H s)(h:H p=some (.lst xs))
  (ho:s.heap.get? p=some {cls:=.type "list",data:=.seq its.toArray n }) (hf:f {cls:=.type "list",data:=.seq its.toArray n }={cls:=.type "list",data:=.seq its'.toArray n' }) (r:ZaR ys its') (hz:ys.length≤sizeLine) (t:Nat):
  Inv X qc σ (upd H p (.lst ys)) {s with heap:=s.heap.update p f,toks:=t }:=by
 have e:(s.heap.update p f).get? p=some {cls:=.type "list",data:=.seq its'.toArray n' }:=by
  rw[QbN f ho (by rw[hf]<;>rfl),hf]
 refine I.write (x:=p) (e:=p) (by rw[h];trivial) (.inl rfl) (fun b u hb q=>(QbW _ _ (Ne.symm hb)).trans q) ⟨_,e⟩ ?_;exact⟨hz,its',n',r,e⟩
def Zn7:V→V→V→Hp→(Hp→Prop)→Prop:=fun o i v H Q=>∃p xs k j,o= .ref p∧i= .int k∧H p=some (.lst xs)∧ixN xs.length k=some j∧Q (upd H p (.lst (xs.set j v)))
theorem Zdp:ZrE X Zn7:=by
 intro qc s σ H o i v ov iv u Q I ro ri rv h;obtain⟨p,xs,k,j,rfl,rfl,hp,hj,q⟩:=h;cases ro;obtain⟨t,rfl⟩:=ri;obtain⟨its,n,r,ho,hz⟩:=I.lst hp;obtain⟨h1,h2,h3,h4⟩:=Zjs hj;have hl:=r.length;have hn:=Zfz
 have I':Inv X qc σ (upd H p (.lst (xs.set j v))) {s with heap:=s.heap.update p (Obj.mapSeq (·.setIfInBounds j u)) }:=
  I.lstUpd hp ho (Zix its n j u) (r.set rv j) (by rw[QcU];exact hz) s.toks
 by_cases h0:0≤k
 ·have hk:k.toNat=j:=by
   rw[seqIndex_of h0 h4] at h1;exact Qby h1
  exact PySem.W.ki_setAt ho h0 (by omega) (by rw[QaD,←hl];exact h4) (by rw[hk];exact⟨_,I',q⟩)
 ·have hk:(k+(its.toArray.size:Int)).toNat=j:=by
   rw[QfG (by omega) h3] at h1;rw[QaD,←hl];exact Qby h1
  exact PySem.W.ki_setBack ho (by omega) (by rw[QaD,←hl];exact h3) (by omega) (by rw[hk];exact⟨_,I',q⟩)
theorem ZfF (lo hi:Option Int)(n:Nat):(sliceBounds lo hi none n).1=((HT.sIx n 0 lo:Nat):Int)∧(sliceBounds lo hi none n).2.1=((HT.sIx n n hi:Nat):Int)∧(sliceBounds lo hi none n).2.2=1:=by
 refine⟨?_,?_,rfl⟩
 ·cases lo with
  |none=>simp[sliceBounds,HT.sIx]
  |some i=>
   simp only[sliceBounds,HT.sIx,Option.getD_none,show(1:Int)>0 by decide,Qcv];by_cases h:i<0
   ·simp only[h,Qcv]<;>omega
   ·simp only[h,Qcj]<;>omega
 ·cases hi with
  |none=>simp[sliceBounds,HT.sIx]
  |some i=>
   simp only[sliceBounds,HT.sIx,Option.getD_none,show(1:Int)>0 by decide,Qcv];by_cases h:i<0
   ·simp only[h,Qcv]<;>omega
   ·simp only[h,Qcj]<;>omega
theorem ZeM (its:List Value)(lo hi:Option Int):slicePick its.toArray lo hi none=((its.drop (HT.sIx its.length 0 lo)).take (HT.sIx its.length its.length hi-HT.sIx its.length 0 lo)).toArray:=by
 obtain⟨h1,h2,h3⟩:=ZfF lo hi its.toArray.size;unfold slicePick;rw[h1,h2,h3];simp only[sliceRange_one,pick_run,QaD]<;>rfl
def Zph (K:PySem.W.Frag):V→Option Int→Option Int→Hp→VK→Prop:=fun x lo hi H Q=>∃a xs,x= .ref a∧SqL K H a xs∧∀p,H p=none→Q (.ref p) (upd H p (.lst (ZhJ xs lo hi)))
theorem ZdH:SlR X (Zph X.K):=by
 intro qc s σ H x v vl vu lo hi sl Q I rx hs pl pu h;obtain⟨a,xs,rfl,hx,q⟩:=h;cases rx;obtain⟨its,r,ht,hz⟩:=I.list hx;have hlen:=r.length;refine⟨"list",_,slot_list_getitem.lookup,ht.isList.typeIs,?_⟩;refine wpAny_getItem_list_slice ht.isList hs pl pu .none (by simp) ?_ (by rw[QaD]<;>omega);rw[ZeM,←hlen];refine⟨.ref s.heap.objs.size,_,I.laid (t':=s.toks) (o:=.lst (ZhJ xs lo hi)) (fun b ob q=>Qad _ q) (Qak _) ?_,rfl,q _ (I.hok.fresh (Qak _))⟩;exact⟨QaE (Zgv xs lo hi) hz,_,0,(r.drop (HT.sIx xs.length 0 lo)).take (HT.sIx xs.length xs.length hi-HT.sIx xs.length 0 lo),Qaw _ rfl⟩
def ZeN:V→Bool
 | .non=>true
 | .bl _=>true
 | .int _=>true
 | .str _=>true
 |_=>false
def eqV:V→V→Bool
 | .non,.non=>true
 | .bl a,.bl b=>a==b
 | .bl a,.int b=>(if a then 1 else 0)==b
 | .int a,.bl b=>a==(if b then 1 else 0)
 | .int a,.int b=>a==b
 | .str a,.str b=>a==b
 |_,_=>false
theorem ZpB {A:Around}{y x:V}(ry:ZaY y u)(rx:ZaY x v)(fy:ZeN y=true)(fx:ZeN x=true):SeqAt.EqAt A s u v (eqV y x):=by
 cases y with
 |non=>
  cases ry
  cases x with
  |non=>cases rx;exact SeqAt.EqAt.same _
  |bl b=>cases rx;exact SeqAt.EqAt.none_bool b
  |int b=>obtain⟨t,rfl⟩:=rx;exact SeqAt.EqAt.none_int b t
  |str b=>obtain⟨t,rfl⟩:=rx;exact SeqAt.EqAt.none_str b t
  |_=>exact absurd (show false=true from fx) QaI
 |bl a=>
  cases ry
  cases x with
  |non=>cases rx;exact SeqAt.EqAt.bool_none a
  |bl b=>cases rx;exact SeqAt.EqAt.bool_bool a b
  |int b=>obtain⟨t,rfl⟩:=rx;exact SeqAt.EqAt.bool_int a b t
  |str b=>obtain⟨t,rfl⟩:=rx;exact SeqAt.EqAt.bool_str a b t
  |_=>exact absurd (show false=true from fx) QaI
 |int a=>
  obtain⟨t',rfl⟩:=ry
  cases x with
  |non=>cases rx;exact SeqAt.EqAt.int_none a t'
  |bl b=>cases rx;exact SeqAt.EqAt.int_bool a t' b
  |int b=>obtain⟨t,rfl⟩:=rx;exact SeqAt.EqAt.int_int a t' b t
  |str b=>obtain⟨t,rfl⟩:=rx;exact SeqAt.EqAt.int_str a t' b t
  |_=>exact absurd (show false=true from fx) QaI
 |str a=>
  obtain⟨t',rfl⟩:=ry
  cases x with
  |non=>cases rx;exact SeqAt.EqAt.str_none a t'
  |bl b=>cases rx;exact SeqAt.EqAt.str_bool a t' b
  |int b=>obtain⟨t,rfl⟩:=rx;exact SeqAt.EqAt.str_int a t' b t
  |str b=>obtain⟨t,rfl⟩:=rx;exact SeqAt.EqAt.str_str a t' b t
  |_=>exact absurd (show false=true from fx) QaI
 |_=>exact absurd (show false=true from fy) QaI
def eqU (x:V)(u:Value):Bool:=match u with
 | .none=>eqV .non x
 | .bool b=>eqV (.bl b) x
 | .int i _=>eqV (.int i) x
 | .str z _=>eqV (.str z) x
 |_=>false
theorem Zm8 {x y:V}(r:ZaY y u)(f:ZeN y=true):eqU x u=eqV y x:=by
 cases y with
 |non=>cases r;rfl
 |bl b=>cases r;rfl
 |int i=>obtain⟨t,rfl⟩:=r;rfl
 |str z=>obtain⟨t,rfl⟩:=r;rfl
 |_=>exact absurd (show false=true from f) QaI
theorem Zgx {x:V}:∀{xs:List V} {us:List Value},ZaR xs us→xs.all ZeN=true→us.any (eqU x)=xs.any fun y=>eqV y x
 |_,_,.nil,_=>rfl
 |y::xs,u::us,.cons r t,f=>by
  rw[QeB,QeP] at f;rw[Qcy,Qcy,Zm8 r f.1,Zgx t f.2]
theorem ZeO {A:Around}{s:Shared}{x:V}{v:Value}(rx:ZaY x v)(fx:ZeN x=true):∀{xs:List V} {us:List Value},ZaR xs us→xs.all ZeN=true→∀u∈us,SeqAt.EqAt A s u v (eqU x u)
 |_,_,.nil,_=>fun u hu=>by cases hu
 |y::xs,u::us,.cons r t,f=>fun u' hu=>by
  rw[QeB,QeP] at f;rcases Qaz.mp hu with rfl|hu
  ·rw[Zm8 r f.1];exact ZpB r rx f.1 fx
  ·exact ZeO rx fx t f.2 u' hu
def inV (x:V)(xs:List V):Bool:=xs.any fun y=>eqV y x
def rIn (K:PySem.W.Frag)(neg:Bool):R2:=fun x y H Q=>∃p xs,y= .ref p∧(SqL K H p xs∨SqT K H p xs)∧ZeN x=true∧xs.all ZeN=true∧Q (.bl (if neg then !inV x xs else inV x xs)) H
theorem Zju:OpR X (compareOp .In) (rIn X.K false):=by
 intro qc s σ H x y v u Q I rx ry h;obtain⟨p,xs,rfl,hq,fx,fs,q⟩:=h;cases ry;rcases hq with hq|hq
 ·obtain⟨its,r,pl,hz⟩:=I.list hq;refine SeqAt.in_listAt (eqU x) pl.isList (fun w hw=>ZeO rx fx r fs w (by simpa using hw)) ⟨.bl _,H,I,rfl,?_⟩;rw[show its.toArray.any (eqU x)=its.any (eqU x) by simp,Zgx r fs];exact q
 ·obtain⟨its,r,pl,hz⟩:=I.tuple hq;refine SeqAt.in_tupleAt (eqU x) pl (fun w hw=>ZeO rx fx r fs w (by simpa using hw)) ⟨.bl _,H,I,rfl,?_⟩;rw[show its.toArray.any (eqU x)=its.any (eqU x) by simp,Zgx r fs];exact q
theorem ZfG:ZcE X (.builtin "len") (fun xs H Q=>∃p ys,xs=[.ref p]∧(SqL X.K H p ys∨SqT X.K H p ys)∧Q (.int ys.length) H):=by
 intro qc s σ H xs us Q I r h;obtain⟨p,ys,rfl,hq,q⟩:=h;obtain⟨u,rfl,rx⟩:=ZcZ r;cases rx;have hn:=Zfz;rcases hq with hq|hq
 ·obtain⟨its,r',pl,hz⟩:=I.list hq;have hlen:=r'.length;exact Calls.call_len_list pl.isList (by simp only[QaD]<;>omega) ⟨.int ys.length,H,I.tok _,⟨s.toks+1,by rw[QaD,hlen]⟩,q⟩
 ·obtain⟨its,r',pl,hz⟩:=I.tuple hq;have hlen:=r'.length;exact len_tuple pl (by simp only[QaD]<;>omega) ⟨.int ys.length,H,I.tok _,⟨s.toks+1,by rw[QaD,hlen]⟩,q⟩
theorem ZfH:ZcE X (.type "list") (fun xs H Q=>∃p ys,xs=[.ref p]∧(SqL X.K H p ys∨SqT X.K H p ys)∧∀l,H l=none→Q (.ref l) (upd H l (.lst ys))):=by
 intro qc s σ H xs us Q I r h;obtain⟨p,ys,rfl,hq,q⟩:=h;obtain⟨u,rfl,rx⟩:=ZcZ r;cases rx
 have fin:∀(its:List Value),ZaR ys its→ys.length≤sizeLine→∀(h':Heap) (c':Nat),(∀b o',s.heap.get? b=some o'→h'.get? b=some o')→
   h'.get? s.heap.objs.size=some {cls:=.type "list",dict:=none,data:=.seq its.toArray c',slots:=#[] }→EP X qc σ Q (.ref s.heap.objs.size) {s with heap:=h' }:=fun its r' hz h' c' kp e=>
  ⟨.ref s.heap.objs.size,_,I.laid (t':=s.toks) kp (Qak _) (show Zbm X.prog X.w _ h' _ (.lst ys) from⟨hz,its,c',r',e⟩),rfl,q _ (I.hok.fresh (Qak _))⟩
 rcases hq with hq|hq
 ·obtain⟨its,r',pl,hz⟩:=I.list hq;have hlen:=r'.length;obtain⟨o,ho,hc,n,hd⟩:=pl.isList;exact call_list_seq p (.inl rfl) ho hc hd (fun h' c' kp e=>fin its r' hz h' c' kp e) (by simp only[QaD]<;>omega)
 ·obtain⟨its,r',pl,hz⟩:=I.tuple hq;have hlen:=r'.length;obtain⟨o,ho,hc,n,hd⟩:=pl;exact call_list_seq p (.inr rfl) ho hc hd (fun h' c' kp e=>fin its r' hz h' c' kp e) (by simp only[QaD]<;>omega)
theorem ZbC:ZcE X (.type "tuple") (fun xs H Q=>∃p ys,xs=[.ref p]∧((SqL X.K H p ys∧∀l,H l=none→Q (.ref l) (upd H l (.tup ys)))∨(SqT X.K H p ys∧Q (.ref p) H))):=by
 intro qc s σ H xs us Q I r h;obtain⟨p,ys,rfl,h⟩:=h;obtain⟨u,rfl,rx⟩:=ZcZ r;cases rx;rcases h with⟨hq,q⟩|⟨hq,q⟩
 ·obtain⟨its,r',pl,hz⟩:=I.list hq;have hlen:=r'.length;refine call_tuple_list pl.isList (fun h' kp=> ?_) (by simp only[QaD]<;>omega);have I1:Inv X qc σ H {s with heap:=h' }:=I.kept (t':=s.toks) kp
  have I2:Inv X qc σ (upd H h'.objs.size (.tup ys)) {s with heap:=h'.push {cls:=.type "tuple",data:=.seq its.toArray } }:=
   I1.laid (t':=s.toks) (fun b o e=>Qad _ e) (Qak _) (show Zbm X.prog X.w _ _ _ (.tup ys) from⟨hz,its,r',IsTup.new _ _⟩)
  exact⟨.ref h'.objs.size,_,I2,rfl,q _ (I1.hok.fresh (Qak _))⟩
 ·obtain⟨its,r',pl,hz⟩:=I.tuple hq;exact call_tuple_same pl ⟨.ref p,H,I,rfl,q⟩
def tyV (K:PySem.W.Frag)(T:String)(x:V)(H:Hp):Prop:=match x with
 | .str _=>T= "str"
 | .int _=>T= "int"
 | .ref p=>(T= "list" ∧∃xs,SqL K H p xs)∨(T= "tuple" ∧∃o,K.lookup p=some o∧o.cls= .type "tuple" ∧o.dict=none)∨
   (T= "dict" ∧((∃kvs,H p=some (.dK kvs))∨∃kvs,H p=some (.dT kvs)))∨(T= "set" ∧∃S n,H p=some (.set S n))
 |_=>False
theorem Zm9 {x:V}(I:Inv X qc σ H s)(r:ZaY x v)(ty:tyV X.K T x H):
  s.TypeIs v T∧∀a,v= .ref a→∃ob,s.heap.get? a=some ob∧ob.dict=none:=by
 cases x with
 |str z=>
  obtain⟨t,rfl⟩:=r;cases(show T= "str" from ty);exact⟨typeIs_str s z t,fun _ e=>nomatch e⟩
 |int i=>
  obtain⟨t,rfl⟩:=r;cases(show T= "int" from ty);exact⟨Qdw s i t,fun _ e=>nomatch e⟩
 |ref p=>
  cases r;rcases ty with⟨rfl,xs,hq⟩|⟨rfl,o,hk,hc,hd⟩|⟨rfl,hk⟩|⟨rfl,S,n,hk⟩
  ·obtain⟨its,_,pl,_⟩:=I.list hq;refine⟨pl.isList.typeIs,fun a e=> ?_⟩;cases e;obtain⟨o,n,e,c,hd,_⟩:=pl;exact⟨o,e,hd⟩
  ·refine⟨⟨o,I.kIn p o hk,hc⟩,fun a e=> ?_⟩;cases e;exact⟨o,I.kIn _ o hk,hd⟩
  ·have z:∃o,s.heap.get? p=some o∧o.ExactDict:=by
    rcases hk with⟨kvs,hk⟩|⟨kvs,hk⟩
    ·obtain⟨_,_,_,_,o,_,_,e,ex,_⟩:=I.hok p _ hk;exact⟨o,e,ex⟩
    ·obtain⟨_,_,_,_,o,_,_,e,ex,_⟩:=I.hok p _ hk;exact⟨o,e,ex⟩
   obtain⟨o,e,ex⟩:=z;refine⟨⟨o,e,ex.1⟩,fun a e2=> ?_⟩;cases e2;exact⟨o,e,ex.2.1⟩
  ·obtain⟨o,_,_,_,e,ex,_⟩:=I.hok p _ hk;refine⟨⟨o,e,ex.1⟩,fun a e2=> ?_⟩;cases e2;exact⟨o,e,ex.2.1⟩
 |_=>exact False.elim ty
def ZrI (K:PySem.W.Frag)(T:String)(r:V→List V→Hp→VK→Prop)(to:TE):TE:=fun σ H Q=>to σ H fun x H1=>tyV K T x H1∧r x [] H1 Q
def tBM (K:PySem.W.Frag)(T:String)(r:V→List V→Hp→VK→Prop)(to:TE)(t:TA):TE:=fun σ H Q=>to σ H fun x H1=>tyV K T x H1∧t σ H1 fun xs H2=>r x xs H2 Q
variable {o:Expr}{es:List Expr}{to:TE}{t:TA}{name:Str}{qz qu:PySem.Pos}{id:String}{r:V→List V→Hp→VK→Prop}
theorem Zjv (pa:PlainAttrs T)(slot:Slot T name id)(hty:typeOf (.builtin id)=pure (.type "method_descriptor"))(hm:MtR X id r)(ho:PE X o to)
  (hbase:attributeBase o name X.env (eval o X.env)=eval o X.env:=by rfl) (qC:(qz.endLine==qu.line)=true:=by rfl):PE X (.Call (.Attribute o name qz) [] [] qu) (ZrI X.K T r to):=by
 intro qc s σ H Q I h;refine QeC hbase qC (thn (ho qc s σ H _ I h) fun v s1 ⟨x,H1,I1,r1,ty,q1⟩=> ?_);obtain⟨h1,h2⟩:=Zm9 I1 r1 ty;exact⟨T,id,pa,slot,hty,h1,h2,QcP rfl (PySem.evalArgs_none (hm qc s1 σ H1 x [] v [] Q I1 r1 .nil q1))⟩
theorem ZdI (pa:PlainAttrs T)(slot:Slot T name id)(hty:typeOf (.builtin id)=pure (.type "method_descriptor"))(hm:MtR X id r)(ho:PE X o to)(ha:PA X (e::es) t)
  (hbase:attributeBase o name X.env (eval o X.env)=eval o X.env:=by rfl)
  (hfew:((backTo qu (starEach (e::es) X.env)).all (fun x=> !x.1) && (backToKw qu (keywordEach [] X.env)).all (fun x=>x.1.isSome)
   && decide ((e::es).length+([]:List Keyword).length+(if([]:List Keyword).isEmpty then 0 else 1)<30))=true:=by rfl)
  (qC:(qz.endLine==qu.line)=true:=by rfl) (hs:starEach (e::es) X.env=(false,eval e X.env)::starEach es X.env:=by rfl) (hplain:(backTo qu (starEach es X.env)).any (·.1)=false:=by rfl):
  PE X (.Call (.Attribute o name qz) (e::es) [] qu) (tBM X.K T r to t):=by
 intro qc s σ H Q I h;refine wpAny_Call_method_late hbase hfew qC rfl (thn (ho qc s σ H _ I h) fun v s1 ⟨x,H1,I1,r1,ty,q1⟩=> ?_);obtain⟨h1,h2⟩:=Zm9 I1 r1 ty;refine⟨T,id,pa,slot,hty,h1,h2,?_⟩;have hA:=ha qu qc s1 σ H1 _ I1 q1;rw[hs] at hA⊢;refine QcP (by show(false ||(backTo qu (starEach es X.env)).any (·.1))=false;rw[hplain]<;>rfl) (Calls.evalArgs_plain ?_);exact thn hA fun us s2 ⟨vs,H2,I2,r2,q2⟩=>hm qc s2 σ H2 x vs v us Q I2 r1 r2 q2
end
def MtM (X:Cx)(id:String)(r:V→List V→Hp→VK→Prop):Prop:=
 ∀(qc:List (Addr×Obj)) (s:Shared) (σ:St) (H:Hp) (x:V) (xs:List V) (v:Value) (us:List Value) (Q:VK),Inv X qc σ H s→ZaY x v→ZaR xs us→r x xs H Q→
  wpAny (model X.prog X.w) X.A (call (.builtin id) (v::us)) (EP X qc σ Q) X.xe s
theorem ZaR.one:∀{x:V} {us:List Value},ZaR [x] us→∃u,us=[u]∧ZaY x u
 |_,_,.cons r .nil=>⟨_,rfl,r⟩
theorem ZaR.zero:∀{us:List Value},ZaR [] us→us=[]
 |_,.nil=>rfl
theorem ZaR.dropLast {xs:List V}{us:List Value}(h:ZaR xs us):ZaR xs.dropLast us.dropLast:=by
 induction h with
 |nil=>exact .nil
 |cons r t ih=>
  cases t with
  |nil=>exact .nil
  |cons q t'=>exact .cons r ih
theorem ZaR.rep {xs:List V}{us:List Value}(h:ZaR xs us):∀k:Nat,ZaR (List.replicate k xs).flatten (List.replicate k us).flatten
 |0=> .nil
 |k+1=>by
  rw[Qbm,Qbm,Qbq,Qbq];exact ZaR.append h (ZaR.rep h k)
theorem Ziy {α:Type}(l:List α):l.eraseIdx (l.length-1)=l.dropLast:=by
 induction l with
 |nil=>rfl
 |cons a r ih=>
  cases r with
  |nil=>rfl
  |cons b r=>
   have e:(a::b::r).length-1=((b::r).length-1)+1:=by
    have h1:(a::b::r).length=r.length+2:=rfl;have h2:(b::r).length=r.length+1:=rfl;omega
   rw[e,List.eraseIdx_cons_succ,ih]
   all_goals rfl
theorem ZfI (its:List Value):∀(k:Nat) (acc:List Value),
  List.foldl (fun x1 x2=>x1++x2) acc.toArray (List.replicate k its.toArray)=(acc++(List.replicate k its).flatten).toArray
 |0,acc=>by simp
 |k+1,acc=>by
  have e:acc.toArray++its.toArray=(acc++its).toArray:=by simp
  have e2:(acc++its)++(List.replicate k its).flatten=acc++(List.replicate (k+1) its).flatten:=by
   rw[Qbm,Qbq,QaP]
  rw[←e2,←ZfI its k (acc++its),←e,Qbm,QbX]
section
variable {l b:Addr}{xs ys zs:List V}
theorem Inv.lset {f:Array Value→Array Value}(I:Inv X qc σ H s)(hH:H l=some (.lst xs))
  (e:s.heap.get? l=some {cls:=.type "list",data:=.seq its.toArray n }) (hf:f its.toArray=its'.toArray) (hv:ZaR ys its') (hz:ys.length≤sizeLine):
  Inv X qc σ (upd H l (.lst ys)) {s with heap:=s.heap.update l (Obj.mapSeq f),toks:=t' }:=by
 have q:=PySem.IsL.update e f;rw[hf] at q;refine I.write (x:=l) (e:=l) (by rw[hH];exact trivial) (.inl rfl) (fun b' u hb hu=>(QbW s.heap (Obj.mapSeq f) (Ne.symm hb)).trans hu) ⟨_,q⟩ ?_;exact⟨hz,its',_,hv,q⟩
theorem Inv.lnew (I:Inv X qc σ H s)(hv:ZaR ys its)(hz:ys.length≤sizeLine):
  Inv X qc σ (upd H s.heap.objs.size (.lst ys)) {s with heap:=s.heap.push {cls:=.type "list",data:=.seq its.toArray },toks:=t' }:=
 I.laid (fun _ _ q=>Qad _ q) (Qak _) ⟨hz,its,0,hv,Qaw _ rfl⟩
theorem Inv.fresh (I:Inv X qc σ H s):H s.heap.objs.size=none:=I.hok.fresh (Qak _)
theorem Inv.lstM (I:Inv X qc σ H s)(hH:H l=some (.lst xs)):xs.length≤sizeLine∧∃(its:List Value) (n:Nat),ZaR xs its∧xs.length=its.length∧s.heap.get? l=some {cls:=.type "list",data:=.seq its.toArray n }:=by
 obtain⟨z,its,n,r,e⟩:=I.hok l _ hH;exact⟨z,its,n,r,r.length,e⟩
theorem ZhK (h:n≤sizeLine):Builtin.List.listTooLong n=false:=by
 unfold Builtin.List.listTooLong;exact QaC (by omega)
end
def Zb0:V→List V→Hp→VK→Prop:=fun x vs H Q=>∃l xs y,x= .ref l∧vs=[y]∧H l=some (.lst xs)∧xs.length<sizeLine∧Q .non (upd H l (.lst (xs++ [y])))
theorem Za6:MtM X "list.append" Zb0:=by
 intro qc s σ H x vs v us Q I rx rv h;obtain⟨l,xs,y,rfl,rfl,hH,hz,q⟩:=h;cases rx;obtain⟨u,rfl,ru⟩:=rv.one;obtain⟨z,its,n,r,hl,e⟩:=I.lstM hH;refine Qdg F.slot_list_append ⟨_,e,rfl⟩ F.entry_list_append (F.args_list_append_2 _ _) (PySem.list_append l its.toArray n u (by rw[QaD];omega)) ⟨e,?_⟩;refine⟨.non,_,I.lset (its':=its++ [u]) hH e (by simp) (r.append (.cons ru .nil)) ?_,rfl,q⟩;rw[Qag,Qb4];omega
def Zjw:V→List V→Hp→VK→Prop:=fun x vs H Q=>∃l b xs zs,x= .ref l∧vs=[.ref b]∧H l=some (.lst xs)∧H b=some (.lst zs)∧xs.length+zs.length≤sizeLine∧Q .non (upd H l (.lst (xs++zs)))
theorem Zjx:MtM X "list.extend" Zjw:=by
 intro qc s σ H x vs v us Q I rx rv h;obtain⟨l,b,xs,zs,rfl,rfl,hH,hB,hz,q⟩:=h;cases rx;obtain⟨u,rfl,ru⟩:=rv.one;cases ru;obtain⟨z,its,n,r,hl,e⟩:=I.lstM hH;obtain⟨z2,its2,n2,r2,hl2,e2⟩:=I.lstM hB;have hsz:its.toArray.size+its2.toArray.size≤sizeLine:=by rw[QaD,QaD];omega
 have hlong:¬(!its.toArray.isEmpty && Builtin.List.listTooLong (its.toArray.size+its2.toArray.size))=true:=by
  rw[ZhK hsz,Bool.and_false];exact QaI
 refine Qdg F.slot_list_extend ⟨_,e,rfl⟩ F.entry_list_extend (F.args_list_extend_2 _ _)
  (AutoSeq1.list_extend_list_list_0 l its.toArray n b its2.toArray n2 hlong (by rw[QaD];omega) (by omega)) ⟨e,e2,?_⟩
 refine⟨.non,_,I.lset (its':=its++its2) hH e (by simp) (r.append r2) ?_,rfl,q⟩;rw[Qag];omega
def ZrJ:V→List V→Hp→VK→Prop:=fun x vs H Q=>∃l xs y,x= .ref l∧vs=[]∧H l=some (.lst xs)∧xs[xs.length-1]?=some y∧Q y (upd H l (.lst xs.dropLast))
theorem Zna:MtM X "list.pop" ZrJ:=by
 intro qc s σ H x vs v us Q I rx rv h;obtain⟨l,xs,y,rfl,rfl,hH,hy,q⟩:=h;cases rx;have hus:=rv.zero;subst hus;obtain⟨z,its,n,r,hl,e⟩:=I.lstM hH;obtain⟨u,hu,ru⟩:=r.get hy
 have hy':its.toArray[its.toArray.size-1]?=some u:=by
  show its.toArray[its.length-1]?=some u;rw[←Qan,←hl];exact hu
 refine Qdg F.slot_list_pop ⟨_,e,rfl⟩ F.entry_list_pop (F.args_list_pop_1 _) (MeetsSeq.list_pop_last l its.toArray n u hy' (by rw[QaD];omega)) ⟨e,?_⟩;refine⟨y,_,I.lset (its':=its.dropLast) hH e ?_ r.dropLast ?_,ru,q⟩
 ·show its.toArray.eraseIdxIfInBounds (its.toArray.size-1)=its.dropLast.toArray;rw[QaD,List.eraseIdxIfInBounds_toArray,Ziy]
 ·rw[QcD];omega
def Znb:R2:=fun x y H Q=>∃l b xs zs,x= .ref l∧y= .ref b∧H l=some (.lst xs)∧H b=some (.lst zs)∧xs.length+zs.length≤sizeLine∧∀p,H p=none→Q (.ref p) (upd H p (.lst (xs++zs)))
theorem ZfJ:OpR X (binaryOp .Add) Znb:=by
 intro qc s σ H x y v u Q I rx ry h;obtain⟨l,b,xs,zs,rfl,rfl,hH,hB,hz,q⟩:=h;cases rx;cases ry;obtain⟨z,its,n,r,hl,e⟩:=I.lstM hH;obtain⟨z2,its2,n2,r2,hl2,e2⟩:=I.lstM hB;refine PySem.P.add_list e e2 ?_ (by rw[QaD,QaD];omega);have ea:its.toArray++its2.toArray=(its++its2).toArray:=by simp
 rw[ea];exact⟨.ref _,_,I.lnew (t':=s.toks) (r.append r2) (by rw[Qag];omega),rfl,q _ I.fresh⟩
def Zq9:R2:=fun x y H Q=>∃l k xs,x= .ref l∧y= .int k∧H l=some (.lst xs)∧-(2^63)≤k∧k<2^63∧xs.length*k.toNat≤sizeLine∧
 ∀p,H p=none→Q (.ref p) (upd H p (.lst (List.replicate k.toNat xs).flatten))
theorem Zn8 {α:Type}(xs:List α)(k:Nat):(List.replicate k xs).flatten.length=k*xs.length:=by
 induction k with
 |zero=>simp
 |succ k ih=>rw[Qbm,Qbq,Qag,ih,Nat.succ_mul,Nat.add_comm]
theorem Znc:OpR X (binaryOp .Mult) Zq9:=by
 intro qc s σ H x y v u Q I rx ry h;obtain⟨l,k,xs,rfl,rfl,hH,h1,h2,hz,q⟩:=h;cases rx;obtain⟨t,rfl⟩:=ry;obtain⟨z,its,n,r,hl,e⟩:=I.lstM hH;have hlen:its.toArray.size*k.toNat≤sizeLine:=by rw[QaD,←hl];exact hz
 have hcap:¬its.toArray.size*k.toNat>(2^63-1)/8:=by
  have:(sizeLine:Nat)≤(2^63-1)/8:=by decide
  omega
 have hfit:¬(!Builtin.List.listFitsIndex k)=true:=by
  rw[fitsIndex_both h1 h2];exact QaI
 have hlong:¬Builtin.List.listTooLong (its.toArray.size*k.toNat)=true:=by
  rw[ZhK hlen];exact QaI
 have hnew:List.foldl (fun x1 x2=>x1++x2) #[] (List.replicate (if its.toArray.isEmpty=true then 0 else k.toNat) its.toArray)=(List.replicate k.toNat its).flatten.toArray:=by
  have f0:∀m:Nat,List.foldl (fun x1 x2=>x1++x2) #[] (List.replicate m its.toArray)=(List.replicate m its).flatten.toArray:=fun m=>by
   have:=ZfI its m [];rw[Qdl] at this;exact this
  rw[f0]
  cases its with
  |nil=>simp
  |cons a r'=>rw[if_neg (by simp)]
 refine Qc7 (T:= "list") (U:= "int") (by decide) ⟨_,e,rfl⟩ (fun s'=>Qdw s' k t) noFill_list_mul F.fills_int_mul F.slot_int_rmul repeat_list F.slot_int_index.lookup
  (Qdg F.slot_int_rmul (Qdw s k t) F.entry_int_rmul (F.args_int_rmul_2 _ _) (int___rmul___int_list k t l its.toArray n)
   ⟨e,rfl,⟨_,e,rfl⟩,Qdg F.slot_list_mul ⟨_,e,rfl⟩ F.entry_list_mul (F.args_list_mul_2 _ _) (AutoListH.list___mul___list_int_3 l its.toArray n k t hfit hcap hlong) ⟨e,?_⟩⟩)
 rw[hnew];exact⟨.ref _,_,I.lnew (t':=s.toks) (r.rep k.toNat) (by rw[Zn8,Nat.mul_comm];exact hz),rfl,q _ I.fresh⟩
end L2
namespace Att
open PySem PySem.W PySem.Calls PyProof.Rows
variable {P:Params}{h:Heap}{l:OpenLaw}{n:Nat}
theorem ZdJ :∀(ns:List Int) (vs:List Value),WellAll P h vs (ns.map WData.int)→IntsAre vs ns:=by
 intro ns
 induction ns with
 |nil=>
  intro vs w;rw[QfF] at w;cases w;exact .nil
 |cons n ns ih=>
  intro vs w;rw[QaV] at w
  cases w with
  |cons a b=>
   cases a;exact .cons _ _ (ih _ b)
theorem Zjy (hn:l.most=some n){args:List WData}{vals:List Value}
  (qh:l.row.toRowW.claim.pre args=true) (hwl:WellAll P h vals args):
  ∃a vs ns,vals=[Value.ref a]∧args=[WData.list (ns.map WData.int)]∧h.get? a=some {cls:=.type "list",data:=.seq vs.toArray }∧IntsAre vs ns∧ns.length≤n:=by
 have hsh:WShape.hasAll [] args [.list .int]=true:=(pre_splitW qh).1;have hc:l.pre.holds [] {args:=args }=true:=(pre_splitW qh).2;obtain⟨d,r,rfl,h1,h2⟩:=hasAllW_cons hsh;obtain rfl:=hasAllW_nil h2;obtain⟨xs,rfl,h3⟩:=hasW_list h1;obtain⟨ns,rfl⟩:=items_int h3
 have hlen:ns.length≤n:=by
  unfold OpenLaw.pre at hc
  have h4:(WTm.not (.lt (.lit (.int (n:Int))) (.len (.arg 0)))).holds [] {args:=[.list (ns.map .int)] }=true:=by
   have h4:=(holds_andW hc).1;rw[hn] at h4;exact h4
  have h5:=condW_of h4 (w_not (w_lt w_lit (w_len_list (w_arg rfl))));rw[Qac] at h5;refine QdL fun q=> ?_;have q':(n:Int)<((ns.length:Nat):Int):=by omega
  first
   | (rw[QaK q'] at h5;exact absurd h5 (by decide))
   | (simp at h5;omega)
 cases hwl with
 |cons w1 w2=>
  cases w2
  cases w1 with
  |list ho hall=>exact⟨_,_,ns,rfl,rfl,ho,ZdJ ns _ hall,hlen⟩
theorem Zjz (l:OpenLaw)(args:List WData):l.row.toRowW.claim.post args (.bool true) args=true:=
 postW_of (r:=l.row.toRowW) (X:=(true==true))
  (show WShape.has [] (.bool true) .bool=true by first|rfl|decide|simp[WShape.has,WShape.arms,WShape.armsAll])
  (show(WTm.eq .res (.lit (.bool true))).value [] {args:=args,res:=some (.bool true),after:=args }=some (.bool (true==true)) from w_eq_bool (w_res rfl) w_lit) rfl
theorem attach_call {q:Program}{qE:List Str}{XP:(Str→Option Value)→Heap→Prop}{YP:World→Heap→Prop}{d:DefRec}
  (hn:l.most=some n) (hdf:d.params.defaults=[])
  (call:∀(w:World) (s₀ s₁:Shared) (mg mb:Str→Option Value) (fa:Addr) (o:Obj) (pm cd doc:Value) (a:Addr) (vs:List Value) (ns:List Int),
   Ground q qE [] XP w s₀ mg mb s₁.heap→YP w s₁.heap→
   s₁.heap.get? fa=some o→o.data= .func (docDef d.name d.params d.body d.scope pm cd doc)→s₁.heap.CodeRec cd d.name→mg d.name=some (.ref fa)→
   s₁.heap.get? a=some {cls:=.type "list",data:=.seq vs.toArray }→IntsAre vs ns→ns.length≤n→s₁.gens= #[]→
   codeAny (model l.prog w) callerA (.call (.ref fa) ⟨[.ref a],[]⟩) (fun r s'=>r= .ok (.ret (.bool true))∧OldK s₁.heap s'.heap∧s'.os=s₁.os∧AllBare s'.gens) s₁):
  WalkO q qE XP YP l.row.toRowW d [] (fun f vs=>PySem.call f vs):=by
 intro w s₀ s₁ mg mb G Y fa o pm cd doc dV kV ho hd hcd hD hmg hg args vals as qh hlay hrd hwl hlo;obtain rfl:dV= .none:=Dflts.none hD hdf;obtain rfl:kV= .none:=Dflts.noKw hD;obtain⟨a,vs,ns,rfl,rfl,hobj,hints,hlen⟩:=Zjy hn qh hwl;refine enter_call (QcT (call w s₀ s₁ mg mb fa o pm cd doc a vs ns G Y ho (fd_plain hd) hcd hmg hobj hints hlen hg) fun r s' hq=> ?_);obtain⟨rfl,h2,h3,h4⟩:=hq;exact⟨.inl ⟨.bool true,.bool true,[],rfl,fun _=>rfl,.bool true,Zjz l _,fun _=>⟨Qcs,fun _ hm=>(nomatch hm)⟩⟩,h2,h3,h4⟩
end Att
namespace L2
open PySem PySem.Spec PyProof.Rows
variable {X:Cx}{H H' H1 H2:Hp}{w:World}{a f l S I T:Addr}{s:Shared}{x qm:Str}{A:Around}{prog P:Program}{te t1 t2 t3:TE}{p qv:PySem.Pos}{n i ep t' j slot:Nat}{scope:Scope}{g:TG}{tt:TT}{ns:List Int}{elt tg qe b e1 e3:Expr}{ifs es:List Expr}{L:List (Int×List Int)}{E Q EE:Value→Shared→Prop}{env:Env}{σ:St}{e:Int×List Int}{xs Nb ps:List Str}{wi:TI}{led:Bool}{o:Obj}{fd:FuncData}{B:Prop}{qc:List (Addr×Obj)}{R:Result→Shared→Prop}{h' h:Heap}{mg:Str→Option Value}{sp:Sp}{names:List (Str×NameKind)}{acc:Value}{ch:List Addr}{tk:Tok}
theorem Zch:∀{vs:List Value} {ns:List Int},IntsAre vs ns→ZaR (ns.map V.int) vs
 |_,_,.nil=> .nil
 |_,_,.cons n t h=> .cons ⟨t,rfl⟩ (Zch h)
def Zra (H:Hp):Prop:=∀b,H b=none∨∃o xs,H b=some (.frz o (.lst xs))
theorem ZlL {K:PySem.W.Frag}{mb:Str→Option Value}{CX:CXT}{k:Nat}{fa:Addr}{s₁:Shared}{vs:List Value}
  (KX:K.In s₁.heap) (hns:s₁.heap.Ns mainGlobals mg) (hb:s₁.heap.Ns builtinsNs mb) (hbb:∀x:Str,x≠ "__name__" →mb x=bootBuiltins x) (hlim:s₁.heap.NoLimit) (hg:s₁.gens= #[])
  (ha:s₁.heap.get? a=some {cls:=.type "list",data:=.seq vs.toArray }) (hi:IntsAre vs ns) (hl:ns.length≤sizeLine) (hr:Zdo k callerA)
  (F:∀base:Heap,K.In base→base.Ns mainGlobals mg→ZbK P w K mg base CX k fa fd [x] sp) (hbind:∀(s:Shared) (u:Value),BindsTo s fd ⟨[u],[]⟩ [(x,u)])
  (hsp:∀H:Hp,Zra H→SqL K H a (ns.map V.int)→sp [.ref a] H (fun v _=>v= .bl true) fun _ _ _=>False)
  (hCX:∀H e s',CX [] H s₁ (fun _ _ _=>False) e s'→False):
  codeAny (model P w) callerA (.call (.ref fa) ⟨[.ref a],[]⟩) (fun r s'=>r= .ok (.ret (.bool true))∧OldK s₁.heap s'.heap∧s'.os=s₁.os∧AllBare s'.gens) s₁:=by
 have rv:=Zch hi;have lenV:=hi.length
 have core:∀H:Hp,Zra H→SqL K H a (ns.map V.int)→HOk P w H s₁.heap→(∀b,H b≠none→b=a)→(H a≠none→K.lookup a=none)→
   codeAny (model P w) callerA (.call (.ref fa) ⟨[.ref a],[]⟩) (fun r s'=>r= .ok (.ret (.bool true))∧OldK s₁.heap s'.heap∧s'.os=s₁.os∧AllBare s'.gens) s₁:=by
  intro H hO hS hok hA hK;have base_of:∀{b:Addr} {o:Obj},s₁.heap.get? b=some o→H b=none→(ZlD s₁.heap H).get? b=some o:=fun e n=>ZlE e n
  have noA:∀{b:Addr} {o:Obj} {es:Array DictEntry} {ep:Nat},s₁.heap.get? b=some o→o.data= .dict es ep→H b=none:=fun{b o es ep} e d=>by
   cases q:H b with
   |none=>rfl
   |some u=>
    have e':b=a:=hA b (by rw[q];simp);subst e';rw[ha] at e;cases e;have d':Data.seq vs.toArray _=Data.dict es ep:=d;cases d'
  have nsK:∀{b:Addr} {m:Str→Option Value},s₁.heap.Ns b m→(ZlD s₁.heap H).Ns b m:=fun{b m} ⟨o,es,ep,e,d,r⟩=>⟨o,es,ep,base_of e (noA e d),d,r⟩
  have hKb:K.In (ZlD s₁.heap H):=fun b o e=>base_of (KX b o e) (by
   cases q:H b with
   |none=>rfl
   |some u=>
    have e':b=a:=hA b (by rw[q];simp)
    subst e'
    rw[hK (by rw[q];simp)] at e;cases e)
  have hM:Mod K mg (ZlD s₁.heap H):=⟨hKb,nsK hns,⟨mb,nsK hb,hbb⟩,let⟨mc,h1,h2⟩:=hlim;⟨mc,nsK h1,h2⟩⟩;have e0:ZqQ P w K mg (ZlD s₁.heap H) callerA [] s₁ H:=⟨rfl,hM,fun b o e=>ZnY e,Nat.le_of_eq (Zjf _ _),trivial,fun b hb=>absurd (show b∈([]:List Addr) from hb) (by simp),hok,.of_eq hg⟩;refine QcT ((F _ hKb (nsK hns)).run callerA [] s₁ H ⟨[.ref a],[]⟩ [.ref a] [.ref a] _ _ hr e0 (hbind s₁ (.ref a)) (.cons rfl .nil) (hsp H hO hS)) fun r s' h=> ?_
  cases r with
  |error e=>exact(hCX H e s' h).elim
  |ok fl=>
   cases fl with
   |next=>exact False.elim h
   |brk=>exact False.elim h
   |cont=>exact False.elim h
   |ret u=>
    obtain⟨v,H',os,bare,un,hok',r',q⟩:=h;have q':v= .bl true:=q;subst q';obtain rfl:u=Value.bool true:=r';refine⟨rfl,OldK.of_keep fun b o e=> ?_,os,bare⟩
    cases q:H b with
    |none=>exact un.keep b o e q (by intro z;exact absurd (show b∈([]:List Addr) from z) (by simp)) (by simp)
    |some u=>
     rcases hO b with z|⟨ob,xs,z⟩
     ·rw[q] at z;cases z
     ·have z2:=un.frzs b ob _ z;obtain⟨e1,_⟩:=hok b _ z;obtain⟨e2,_⟩:=hok' b _ z2;rw[e] at e1;cases e1;exact e2
 cases hk:K.lookup a with
 |some o=>
  have e:=KX a o hk;rw[ha] at e;cases e;refine core (fun _=>none) (fun _=> .inl rfl) (.inr ⟨_,vs.toArray,_,hk,rfl,rfl,rfl,by rw[QaD,lenV];exact hl,by simpa using rv⟩) (fun b u z=>by have z':(none:Option HO)=some u:=z;cases z') (fun b z=>absurd rfl z) fun z=>absurd rfl z
 |none=>
  refine core (fun b=>if b=a then some (.frz {cls:=.type "list",data:=.seq vs.toArray } (.lst (ns.map V.int))) else none) (fun b=> ?_) (.inl (.inr ⟨{cls:=.type "list",data:=.seq vs.toArray },if_pos rfl⟩)) (fun b u z=> ?_) (fun b z=> ?_) fun _=>hk
  ·by_cases hb:b=a
   ·exact .inr ⟨_,_,if_pos hb⟩
   ·exact .inl (if_neg hb)
  ·by_cases hb:b=a
   ·have z':=(if_pos hb).symm.trans z;cases z';subst hb;exact⟨ha,by rw[Qac];exact hl,vs,_,rv,ha⟩
   ·have z':=(if_neg hb).symm.trans z;cases z'
  ·by_cases hb:b=a
   ·exact hb
   ·exact absurd (if_neg hb) z
theorem walk_of {l:PySem.W.OpenLaw}{k:Nat}{q:Program}{qE:List Str}{XP:(Str→Option Value)→Heap→Prop}{YP:World→Heap→Prop}{d:DefRec}{K:Params→PySem.W.Frag}{CX:World→CXT}{sp:World→Sp}
  (hn:l.most=some n) (hn2:n≤sizeLine) (hdf:d.params.defaults=[]) (hr:Zdo k callerA)
  (hY:∀(w:World) (h:Heap),YP w h→(K w.params).In h)
  (F:∀(w:World) (mg:Str→Option Value) (fa:Addr) (h:Heap),(K w.params).In h→h.Ns mainGlobals mg→mg d.name=some (.ref fa)→
   ∃fd:FuncData,(∀(s:Shared) (u:Value),BindsTo s fd ⟨[u],[]⟩ [(x,u)])∧
    ∀base:Heap,(K w.params).In base→base.Ns mainGlobals mg→ZbK l.prog w (K w.params) mg base (CX w) k fa fd [x] (sp w))
  (hsp:∀(w:World) (H:Hp) (a:Addr) (ns:List Int),ns.length≤n→Zra H→SqL (K w.params) H a (ns.map V.int)→sp w [.ref a] H (fun v _=>v= .bl true) fun _ _ _=>False)
  (hCX:∀(w:World) (H:Hp) (s:Shared) (e:Value) (s':Shared),CX w [] H s (fun _ _ _=>False) e s'→False):
  PySem.W.WalkO q qE XP YP l.row.toRowW d [] (fun f vs=>PySem.call f vs):=by
 refine Att.attach_call hn hdf fun w s₀ s₁ mg mb fa o pm cd doc a vs ns G Y ho hd hcd hmg hobj hints hlen hg=> ?_;have KX:=hY w _ Y;obtain⟨fd,hb,hF⟩:=F w mg fa _ KX G.T.g hmg;exact ZlL KX G.T.g G.T.b G.T.builtins G.T.nolimit hg hobj hints (QaE hlen hn2) hr hF hb (fun H hO hS=>hsp w H a ns hlen hO hS) fun H e s'=>hCX w H s₁ e s'
def ZcF (s:Stmt):Arguments:=match s with
 | .FunctionDef _ a _ _ _ _ _ _ _ _=>a
 |_=>{posonlyargs:=[],args:=[],vararg:=none,kwonlyargs:=[],kw_defaults:=[],kwarg:=none,defaults:=[] }
def Zci (s:Stmt):List Stmt:=match s with
 | .FunctionDef _ _ b _ _ _ _ _ _ _=>b
 |_=>[]
def Zaj (s:Stmt):Scope:=match s with
 | .FunctionDef _ _ _ _ _ _ sc _ _ _=>sc
 |_=>{kind:=.function,names:=[],isGenerator:=false,isCoroutine:=false }
abbrev CX0:CXT:=fun _ _ _ _ _ _=>False
abbrev E0:XK:=fun _ _ _=>False
theorem Zrb :Zjq CX0 X E0:=fun _ _ _ _ _ _ _ h=>h.elim
structure Fun (K:PySem.W.Frag)(x qm:Str)(st:Stmt)(f:Addr)(fd:FuncData):Prop where
 ex:∃(oc:Value) (od:Option Addr) (kV doc pm:Value) (an:Option Addr) (cdv ct:Value) (osl:Array (Option Value)),
  fd=PySem.W.fnOf x qm (ZcF st) (Zci st) (Zaj st) .none kV doc pm an cdv ct∧K.lookup f=some ⟨oc,od,.func fd,osl⟩∧PySem.W.codeIn K cdv qm=true
 kp:PySem.W.keepIn K (.ref f)=true
section
variable {K:PySem.W.Frag}{base:Heap}
theorem Fun.ok {st:Stmt}{N:List Str}{k:Nat}(F:Fun K x qm st f fd)(S:Zaw N ps (Zaj st))(len:∀vs H Q E,sp vs H Q E→vs.length=ps.length)
  (hbody:∀(cdv:Value) (A:Around) (outer:List Env) (s:Shared) (H:Hp) (vs:List V) (Q:VK) (E:XK),Zdo k (A.deeper (envOfC qm (Zaj st) s.heap.objs.size f cdv))→sp vs H Q E→
   ∃t,PSs (Zpg CX0 P w K mg base N qm (Zaj st) f cdv A outer s H E).nox (Zci st) t∧t {nx:=fun _ H'=>Q .non H',rt:=Q } (start N vs) H):ZbK P w K mg base CX0 (k+1) f fd ps sp:=by
 obtain⟨oc,od,kV,doc,pm,an,cdv,ct,osl,rfl,lk,hcd⟩:=F.ex;refine Zq8 lk hcd S len fun A outer s H vs Q E hr hsp=> ?_;obtain⟨t,h,q⟩:=hbody cdv A outer s H vs Q E hr hsp;exact⟨t,h.nox,q⟩
theorem Fun.binds {st:Stmt}(F:Fun K x qm st f fd)
  (h:∀(kV doc pm:Value) (an:Option Addr) (cdv ct:Value) (us:List Value),us.length=ps.length→bindArgs (PySem.W.fnOf x qm (ZcF st) (Zci st) (Zaj st) .none kV doc pm an cdv ct) ⟨us,[]⟩=pure (ps.zip us)):Ziv K fd ps []:=by
 obtain⟨oc,od,kV,doc,pm,an,cdv,ct,osl,rfl,lk,hcd⟩:=F.ex;exact .all (h kV doc pm an cdv ct)
theorem ZjA {st:Stmt}{oc:Value}{od an:Option Addr}{osl:Array (Option Value)}{kV doc pm cdv ct:Value}(l:K.lookup f=some ⟨oc,od,.func (PySem.W.fnOf x qm (ZcF st) (Zci st) (Zaj st) .none kV doc pm an cdv ct),osl⟩)
  (c:PySem.W.codeIn K cdv qm=true) (k:PySem.W.keepIn K (.ref f)=true):Fun K x qm st f (PySem.W.fnOf x qm (ZcF st) (Zci st) (Zaj st) .none kV doc pm an cdv ct):=⟨⟨oc,od,kV,doc,pm,an,cdv,ct,osl,rfl,l,c⟩,k⟩
end
theorem ZlM {k:Nat}(hr:Zdo k A):A.units+1<cLine:=QaN (Nat.add_le_add_left (by decide:1≤64) _) hr.units
theorem ZbJ (h:n≤1000):n<sizeLine:=QaN h (by decide)
theorem pv (i:Nat){pos:PySem.Pos}(hN:X.N[i]?=some x:=by rfl)(hv:Vis X.env.scope x:=by first|exact Or.inl rfl|exact Or.inr (Or.inl rfl)|exact Or.inr (Or.inr rfl))(hd:(x==("__debug__" :Str))=false:=by decide)
  (hcd:(x==("__classdict__" :Str))=false:=by decide):PE X (.Name x pos) (Zan i):=Zpo hN hv hd hcd
theorem Zgm {A:Prop}(h:B):if false=true then A else B:=by
 rw[if_neg QaI];exact h
theorem Zi8 {A:Prop}(h:A):if true=true then A else B:=by
 rw[if_pos rfl];exact h
theorem Zfv {c A:Prop} [Decidable c](h1:c→A)(h2:¬c→B):if c then A else B:=by
 by_cases h:c
 ·rw[if_pos h];exact h1 h
 ·rw[if_neg h];exact h2 h
def Zam (H H':Hp):Prop:=∀b o,H b=some o→H' b=some o
theorem Zam.refl (H:Hp):Zam H H:=fun _ _ h=>h
theorem Zam.trans (a:Zam H H1)(b:Zam H1 H2):Zam H H2:=fun c o h=>b c o (a c o h)
theorem Zam.free (e:Zam H H')(h:H' l=Option.none):H l=Option.none:=by
 cases q:H l with
 |none=>rfl
 |some o=>
  rw[e l o q] at h;cases h
theorem Zam.seq {K:PySem.W.Frag}{xs:List V}(e:Zam H H')(h:SqL K H a xs):SqL K H' a xs:=by
 rcases h with(h|⟨o,h⟩)|h
 ·exact .inl (.inl (e _ _ h))
 ·exact .inl (.inr ⟨o,e _ _ h⟩)
 ·exact .inr h
def ZpC (i j:Int):Prop:=0<j∧j.natAbs.log2<9000
theorem Zdq:OpR X (binaryOp .FloorDiv) (rI ZpC fun i j=> .int (i/j)):=opI fun i j _ _ _ _ _ hc q=>by
 have h1:(0:Int)<j:=hc.1;exact floordiv_int (by omega) (by rw[Int.fdiv_eq_ediv_of_nonneg i (by omega)];exact q) (.inl (PyProof.noPylong_of_log2 hc.2))
theorem Zn9:MtR X "int.bit_length" (fun x vs H Q=>∃i,x= .int i∧vs=[]∧Q (.int (Builtin.Int.intBits i:Nat)) H):=by
 intro qc s σ H x xs v us Q I r rv h;obtain⟨i,rfl,rfl,q⟩:=h;obtain⟨t,rfl⟩:=r;cases rv.zero;exact call_gives F.slot_int_bit_length (Qdw _ _ _) F.entry_int_bit_length (F.args_int_bit_length_1 _) (AutoIntG2.int_bit_length_int_0 _ _) (show EP X qc σ Q _ _ from⟨.int _,H,I.tok _,⟨_,rfl⟩,q⟩)
theorem Zgy (env:Env):∀(names:List (Str×NameKind)) (acc:List (Str×Addr)),(∀y∈names,y.2= .free→∃c,env.cells.lookup y.1=some c)→(∀y c,acc.lookup y=some c→env.cells.lookup y=some c)→
  ∃cl,(forIn names acc fun(x:Str×NameKind) (r:List (Str×Addr))=>if(x.2==NameKind.free)=true then(do let c←cellOf env x.1;pure (ForInStep.yield ((x.1,c)::r))) else pure (ForInStep.yield r):Sem _)=pure cl∧
   (∀y c,cl.lookup y=some c→env.cells.lookup y=some c)∧(∀y,(y,NameKind.free)∈names→(cl.lookup y).isSome=true)∧(∀y,(acc.lookup y).isSome=true→(cl.lookup y).isSome=true)
 | [],acc,_,h=>⟨acc,by simp,h,fun y z=>absurd z (by simp),fun _ z=>z⟩
 | (n,k)::r,acc,hf,h=>by
  by_cases hk:k= .free
  ·subst hk;obtain⟨c,hc⟩:=hf (n,.free) Qai rfl
   obtain⟨cl,e,h1,h2,h3⟩:=Zgy env r ((n,c)::acc) (fun y hy=>hf y (Qao _ hy)) (fun y d hd=>by
    rw[QbF] at hd
    cases z:y==n with
    |true=>
     rw[z] at hd
     have:y=n:=by simpa using z
     subst this
     cases hd
     exact hc
    |false=>rw[z] at hd;exact h y d hd)
   have hin:∀y,(((n,c)::acc).lookup y).isSome=true∨True:=fun _=> .inr trivial;refine⟨cl,?_,h1,fun y hy=> ?_,fun y hy=>h3 y ?_⟩
   ·rw[Qdm];have e0:cellOf env n=pure c:=by unfold cellOf;rw[hc]
    simp only[beq_self_eq_true,Qcv,e0,pure_bind];exact e
   ·rcases Qaz.mp hy with z|z
    ·cases z;exact h3 _ (by rw[QbF];simp)
    ·exact h2 y z
   ·rw[QbF]
    cases y==n with
    |true=>rfl
    |false=>exact hy
  ·obtain⟨cl,e,h1,h2,h3⟩:=Zgy env r acc (fun y hy=>hf y (Qao _ hy)) h;refine⟨cl,?_,h1,fun y hy=> ?_,h3⟩
   ·rw[Qdm];have hb:(k==NameKind.free)=false:=by simpa using hk
    simp only[hb,Qa3,Qcj,pure_bind];exact e
   ·rcases Qaz.mp hy with z|z
    ·cases z;exact absurd rfl hk
    ·exact h2 y z
theorem Zgz (hf:∀y∈scope.names,y.2= .free→∃c,env.cells.lookup y.1=some c):∃cl,closureFor scope env=pure cl∧(∀y c,cl.lookup y=some c→env.cells.lookup y=some c)∧(∀y,(y,NameKind.free)∈scope.names→(cl.lookup y).isSome=true):=by
 obtain⟨cl,e,h1,h2,_⟩:=Zgy env scope.names [] hf (fun y c h=>by cases h);refine⟨cl,?_,h1,h2⟩;unfold closureFor;simp only[bind_pure];exact e
def Zc1:TT:=fun _ H Q=>Q true H
def PIf (X:Cx)(ifs:List Expr)(t:TT):Prop:=
 ∀(qc:List (Addr×Obj)) (s:Shared) (σ:St) (H:Hp) (Q:Bool→Hp→Prop),Inv X qc σ H s→t σ H Q→
  wpAny (model X.prog X.w) X.A (forIn ifs true fun c r=>if r=true then do let ok←isTrue c X.env (eval c X.env);pure (ForInStep.yield ok) else pure (ForInStep.yield r)) (TP X qc σ Q) X.xe s
theorem Za3:PIf X [] Zc1:=fun qc s σ H Q I h=>wpAny_tests_nil ⟨H,I,h⟩
theorem Zoa {c:Expr}{t:TT}(hc:PT X c t):PIf X [c] t:=fun qc s σ H Q I h=>wpAny_tests_one (hc qc s σ H Q I h)
theorem ZaQ {k:NameKind}(hc:∀y∈names,y.2≠ .cell)(h:(names.map fun(n,k)=>if(k==NameKind.free && env.scope.kind== .function && env.kindOf n==some .cell) then(n,NameKind.cell) else(n,k)).lookup x=some k):
  (k= .cell∨k= .free)→names.lookup x=some .free∧(k= .cell→env.kindOf x=some .cell):=by
 induction names with
 |nil=>cases h
 |cons p r ih=>
  obtain⟨n,k0⟩:=p;intro hk;have h:List.lookup x ((if(k0==NameKind.free && env.scope.kind== .function && env.kindOf n==some .cell)=true then(n,NameKind.cell) else(n,k0))::_)=some k:=h;by_cases c:(k0==NameKind.free && env.scope.kind== .function && env.kindOf n==some .cell)=true
  ·rw[if_pos c] at h;rw[QbF] at h⊢
   cases z:x==n with
   |true=>
    have e:x=n:=by simpa using z
    subst e;simp only[QeP,beq_iff_eq] at c;exact⟨by rw[c.1.1],fun _=>c.2⟩
   |false=>rw[z] at h;exact ih (fun y hy=>hc y (Qao _ hy)) h hk
  ·rw[if_neg c] at h;rw[QbF] at h⊢
   cases z:x==n with
   |true=>
    rw[z] at h;have e:k0=k:=Qby h;subst e;rcases hk with rfl|rfl
    ·exact absurd rfl (hc (n,.cell) Qai)
    ·exact⟨rfl,fun z=>by cases z⟩
   |false=>rw[z] at h;exact ih (fun y hy=>hc y (Qao _ hy)) h hk
theorem Zb1 (h:(names.map fun(n,k)=>if(k==NameKind.free && env.scope.kind== .function && env.kindOf n==some .cell) then(n,NameKind.cell) else(n,k)).lookup x=some .local):
  names.lookup x=some .local:=by
 induction names with
 |nil=>cases h
 |cons p r ih=>
  obtain⟨n,k0⟩:=p;have h:List.lookup x ((if(k0==NameKind.free && env.scope.kind== .function && env.kindOf n==some .cell)=true then(n,NameKind.cell) else(n,k0))::_)=some .local:=h;by_cases c:(k0==NameKind.free && env.scope.kind== .function && env.kindOf n==some .cell)=true
  ·rw[if_pos c] at h;rw[QbF] at h⊢
   cases z:x==n with
   |true=>rw[z] at h;cases h
   |false=>rw[z] at h;exact ih h
  ·rw[if_neg c] at h;rw[QbF] at h⊢
   cases z:x==n with
   |true=>rw[z] at h;exact h
   |false=>rw[z] at h;exact ih h
inductive DI (K:PySem.W.Frag) (H:Hp):V→PyData→Prop where
 |non:DI K H .non .none
 |bl (b:Bool):DI K H (.bl b) (.bool b)
 |int (i:Int):DI K H (.int i) (.int i)
 |str (x:Str):DI K H (.str x) (.str x)
 |tup {a:Addr} {xs:List V} {ds:List PyData}:SqT K H a xs→xs.length=ds.length→(∀(i:Nat) (x:V) (d:PyData),xs[i]?=some x→ds[i]?=some d→DI K H x d)→DI K H (.ref a) (.tuple ds)
 |lst {a:Addr} {xs:List V} {ds:List PyData}:SqL K H a xs→xs.length=ds.length→(∀(i:Nat) (x:V) (d:PyData),xs[i]?=some x→ds[i]?=some d→DI K H x d)→DI K H (.ref a) (.list ds)
theorem ZcG:∀{us:List Value} {ds:List PyData} {xs:List V},ZaR xs us→xs.length=ds.length→(∀(i:Nat) (x:V) (d:PyData) (u:Value),xs[i]?=some x→ds[i]?=some d→ZaY x u→∃as,Reads s.heap u d as)→∃as,ReadsAll s.heap us ds as
 |_,ds,_,.nil,hl,_=>by
  cases ds with
  |nil=>exact⟨_,.nil⟩
  |cons d r=>cases hl
 |_,ds,_,.cons (a:=x) r t,hl,h=>by
  cases ds with
  |nil=>cases hl
  |cons d rest=>
   obtain⟨as,ra⟩:=h 0 x d _ rfl rfl r;obtain⟨bs,rb⟩:=ZcG t (by simpa using hl) (fun i y e u h1 h2 h3=>h (i+1) y e u (by simpa using h1) (by simpa using h2) h3);exact⟨_,.cons ra rb⟩
theorem DI.reads (I:Inv X qc σ H s){x:V}{d:PyData}(h:DI X.K H x d):∀{u:Value},ZaY x u→∃as,Reads s.heap u d as:=by
 induction h with
 |non=>intro u r;cases r;exact⟨_,.none⟩
 |bl b=>intro u r;cases r;exact⟨_,.bool b⟩
 |int i=>intro u r;obtain⟨t,rfl⟩:=r;exact⟨_,.int i t⟩
 |str x=>intro u r;obtain⟨t,rfl⟩:=r;exact⟨_,.str x t⟩
 |tup hq hl _ ih=>
  intro u r;cases r;obtain⟨its,rv,⟨o,e,c,n,hd⟩,_⟩:=I.tuple hq;obtain⟨as,ra⟩:=ZcG (s:=s) rv hl (fun i y d u h1 h2 h3=>ih i y d h1 h2 h3);exact⟨_,.tuple e c hd (by simpa using ra)⟩
 |lst hq hl _ ih=>
  intro u r;cases r;obtain⟨its,rv,pl,_⟩:=I.list hq;obtain⟨o,e,c,n,hd⟩:=pl.isList;obtain⟨as,ra⟩:=ZcG (s:=s) rv hl (fun i y d u h1 h2 h3=>ih i y d h1 h2 h3);exact⟨_,.list e c hd (by simpa using ra)⟩
def ZlN (K:PySem.W.Frag)(g:Bool→Bool):R2:=fun x y H Q=>∃dx dy,DI K H x dx∧DI K H y dy∧dx.canLay0=true∧dy.canLay0=true∧dx.depth≤60∧Q (.bl (g (PyData.eqv dx dy))) H
theorem Znd {k:Nat}(hr:Zdo k X.A):OpR X (compareOp .Eq) (ZlN X.K fun b=>b):=by
 intro qc s σ H x y v u Q I rx ry h;obtain⟨dx,dy,hx,hy,cx,cy,hd,q⟩:=h;obtain⟨as,ra⟩:=hx.reads I rx;obtain⟨bs,rb⟩:=hy.reads I ry;have hu:=hr.units;exact SeqAt.compareEq_reads ra rb cx cy (by omega) ⟨.bl _,H,I,rfl,q⟩
theorem ZdK {k:Nat}(hr:Zdo k X.A):OpR X (compareOp .NotEq) (ZlN X.K fun b=> !b):=by
 intro qc s σ H x y v u Q I rx ry h;obtain⟨dx,dy,hx,hy,cx,cy,hd,q⟩:=h;obtain⟨as,ra⟩:=hx.reads I rx;obtain⟨bs,rb⟩:=hy.reads I ry;have hu:=hr.units;exact SeqAt.compareNe_reads ra rb cx cy (by omega) ⟨.bl _,H,I,rfl,q⟩
theorem ZeP (bs:List Bool):(List.range bs.length).all (fun i=>bs.getD i true)=bs.all id:=by
 induction bs with
 |nil=>rfl
 |cons b r ih=>
  rw[QaM,List.range_succ_eq_map,QeB,QfH,QeB]
  have:(List.range r.length).all ((fun i=>(b::r).getD i true) ∘ Nat.succ)=(List.range r.length).all (fun i=>r.getD i true):=by
   congr 1
  rw[this,ih];rfl
theorem ZhL (hc:X.calm=true):ZcE X (.builtin "all") (fun xs H Q=>∃(p:Addr) (bs:List Bool),xs=[.ref p]∧SqL X.K H p (bs.map V.bl)∧Q (.bl (bs.all id)) H):=by
 intro qc s σ H xs us Q I r h;obtain⟨p,bs,rfl,hq,q⟩:=h;obtain⟨u,rfl,rx⟩:=ZcZ r;cases rx;obtain⟨its,rv,pl,hz⟩:=I.list hq
 have hlt:p<s.heap.objs.size:=by
  obtain⟨o,e,_⟩:=pl.isList;exact Qar e
 have hlen:its.length=bs.length:=by have:=rv.length;rw[Qac] at this;exact this.symm
 refine call_all_walk (Qc0 pl.isList ?_);refine⟨_,_,_,_,_,_,fun i=>bs.getD i true,rfl,QfC (A:=X.A.in1) (I.ok.hd hc) s.heap.objs.size p (QaJ hlt) its.toArray,?_,?_,fun h' tk hk=> ?_⟩
 ·exact⟨⟨_,Qaw _ rfl,rfl,rfl⟩,(let⟨o,e,c⟩:=pl.isList;⟨o,Qad _ e,c⟩)⟩
 ·intro i v s' Q' E' hP hQ;have hv:its[i]?=some v:=by simpa using hP
  have hil:i<bs.length:=by rw[←hlen];exact(Qaf.mp hv).1
  obtain⟨u,e,ru⟩:=rv.get (x:=V.bl (bs.getD i true)) (i:=i) (by rw[Qam,Qab hil,QaA,Qab hil];rfl);rw[hv] at e;cases e;cases ru;exact Qca hQ
 ·have e:(List.range its.toArray.size).all (fun i=>bs.getD i true)=bs.all id:=by
   rw[QaD,hlen];exact ZeP bs
  rw[e];refine⟨.bl _,H,?_,rfl,q⟩;exact I.kept fun b o eb=>hk b o (by simp;exact QaJ (Qar eb)) (Qad _ eb)
theorem Zat {K:PySem.W.Frag}(hK:X.K=K:=by rfl):IxR X (ZfE K):=by subst hK;exact Zn6
theorem ZaJ {K:PySem.W.Frag}(hK:X.K=K:=by rfl):IxR X (Zgw K):=by subst hK;exact ZpA
theorem Za7 {K:PySem.W.Frag}(hK:X.K=K:=by rfl):ZcE X (.builtin "len") (fun xs H Q=>∃p ys,xs=[.ref p]∧(SqL K H p ys∨SqT K H p ys)∧Q (.int ys.length) H):=by subst hK;exact ZfG
theorem ZaR.of_get:∀{xs:List V} {us:List Value},xs.length=us.length→(∀(i:Nat) (x:V) (u:Value),xs[i]?=some x→us[i]?=some u→ZaY x u)→ZaR xs us
 | [],[],_,_=> .nil
 | [],_::_,h,_=>by cases h
 |_::_,[],h,_=>by cases h
 |x::xs,u::us,h,k=> .cons (k 0 x u rfl rfl) (ZaR.of_get (by simpa using h) fun i y v h1 h2=>k (i+1) y v (by simpa using h1) (by simpa using h2))
theorem ZgA:ZcE X (.type "range") (fun xs H Q=>∃j:Int,xs=[.int j]∧-(2^62)≤j∧j<2^62∧∀p,H p=none→Q (.ref p) (upd H p (.rng 0 j))):=by
 intro qc s σ H xs us Q I r h;obtain⟨j,rfl,h1,h2,q⟩:=h;obtain⟨u,rfl,t,rfl⟩:=ZcZ r;refine call_range_1 ?_;exact⟨.ref _,upd H s.heap.objs.size (.rng 0 j),I.laid (fun b u e=>Qad _ e) (Qak _) ⟨_,_,_,Qaw _ rfl⟩,rfl,q _ (I.hok.fresh (Qak _))⟩
theorem Ziz {pos:PySem.Pos}{it:Value}(hE:EE=notedBy (model prog w) A env fun e s'=>R (.error e) s')(I:Nat→Shared→Prop)
  (turn:∀n s,I n s→wpAny (model prog w) A (pyNext it) (fun r z1=>match r with
   |none=>R (.ok .next) z1
   |some v=>wpAny (model prog w) A (letOwnedTupleGo tg it v) (fun _ y1=>wpAny (model prog w) A (assign tg env v) (fun _ z2=>
     wpAny (model prog w) A (forIn ifs true fun c r=>if r=true then do let ok←isTrue c env (eval c env);pure (ForInStep.yield ok) else pure (ForInStep.yield r)) (fun ok z3=>
      if ok=true then wpAny (model prog w) A (eval elt env) (fun x z4=>wpAny (model prog w) A (call (.builtin "list.append") [acc,x]) (fun _ z5=>∃m,m<n∧I m z5) EE z4) EE z3 else∃m,m<n∧I m z3) EE z2) EE y1) EE z1) EE s)
  (n:Nat) (h:I n s):codeAny (model prog w) A (.compLoop (.ListComp elt [⟨tg,qe,ifs,0⟩] scope pos) 0 it acc env) R s:=by
 subst hE;refine Qe1 rfl I (fun n s hI=> ?_) n h;show wpAny _ A ((compTurn (.ListComp elt [⟨tg,qe,ifs,0⟩] scope pos) 0 it acc env).onRaise (fun x=>do noteFrame x env;theTreesLotGoes x)) _ _ s;refine Qft ?_;rw[compTurn_list];refine Qaa (Qb7 (Qaa (QaZ (turn n s hI) (fun r z1 q1=> ?_) fun _ _ z=>z)))
 cases r with
 |none=>exact Qae q1
 |some v=>
  refine Qaa (QaZ q1 (fun _ y1 q1=> ?_) fun _ _ z=>z);refine Qaa (QaZ q1 (fun _ z2 q2=>Qaa (QaZ q2 (fun ok z3 q3=> ?_) fun _ _ z=>z)) fun _ _ z=>z)
  cases ok with
  |false=>exact Qae ⟨rfl,q3⟩
  |true=>exact Qaa (Qaa (QaZ q3 (fun x z4 q4=>Qaa (QaZ q4 (fun _ z5 q5=>Qae (Qae ⟨rfl,q5⟩)) fun _ _ z=>z)) fun _ _ z=>z))
def cxC (X:Cx)(xs Nb:List Str)(scope:Scope)(cl:List (Str×Addr))(C:Addr)(s₂:Shared)(H₂:Hp)(fp:List Addr):Cx:=
 {X with N:=xs++Nb,s₀:=s₂,H₀:=H₂,env:=compEnvC scope cl C X.env,outer:=X.stack,stack:=X.stack,ex:=fp,fn:=fun _=>false,pn:=[],xe:=fun _ _=>False }
def InB (X:Cx)(xs Nb:List Str)(scope:Scope)(φ:Cx→Prop):Prop:=∀(cl:List (Str×Addr)) (C:Addr) (s₂:Shared) (H₂:Hp) (fp:List Addr),φ (cxC X xs Nb scope cl C s₂ H₂ fp)
def CGo (k:Nat)(J:It)(g:TG)(tt:TT)(te:TE)(Q:VK)(σ:St)(H1:Hp):Prop:=∃W:Nat→Nat→List V→Hp→Prop,(∃m,W 0 m [] H1)∧∀i m ys H,W i m ys H→
 (J.stop i H∧∀D,H D=none→Q (.ref D) (upd H D (.lst ys)))∨(J.go i H∧ys.length<sizeLine∧∃N:List V→Hp→Prop,(∀zs H',N zs H'→∃m',m'<m∧W (i+1) m' zs H')∧∀v H' (pre:St),pre.length=k→J.yld i H v H'→g v (pre++σ) H' fun σ' H2=>(∃pre':St,σ'=pre'++σ∧pre'.length=k)∧tt σ' H2 fun ok H3=>if ok=true then te σ' H3 fun y H4=>N (ys++ [y]) H4 else N ys H3)
def ZbL (k:Nat)(wi:TI)(g:TG)(tt:TT)(te:TE):TE:=fun σ H Q=>wi σ H fun J H1=>CGo k J g tt te Q σ H1
theorem ZfK {pos:PySem.Pos}
  (hc:X.calm=true) (hi:PI X tg qe wi) (hlen:Nb.length=X.N.length) (hNb:∀p∈Nb.zip X.N,p.1=p.2∨scope.names.lookup p.1=none) (hxN:∀y∈Nb,scope.names.lookup y≠some .local)
  (hg:InB X xs Nb scope fun Y=>PG Y tg g) (ht:InB X xs Nb scope fun Y=>PIf Y ifs tt) (he:InB X xs Nb scope fun Y=>PE Y elt te)
  (qj:∀y∈scope.names,y.2≠ .cell) (qo:scope.kind= .function) (qt:∀y∈scope.names,y.2= .local→scope.names.lookup y.1=some .local)
  (qr:∀y∈scope.names,y.2= .free→X.env.kindOf y.1=some .cell)
  (hs:∀x,foldedSetIterable qe X.env x=pure x) {qv:PySem.Pos} {use:Option (Value→Sem Unit)} {QQ:Value→Shared→Prop} {qc:List (Addr×Obj)} {s:Shared} {σ:St} {H:Hp} {Q:VK} (I:Inv X qc σ H s) (h:ZbL xs.length wi g tt te σ H Q)
  (post:∀(s2 s4:Shared) (H2 H4:Hp) (C D:Addr) (m4:Str→Option Value),Inv X qc σ H2 s2→s2.heap.objs.size≤C→s4.heap.Ns C m4→H4 C=none→(∀h',Heap.SameBut C s4.heap h'→Inv X qc σ H4 {s4 with heap:=h' })→Q (.ref D) H4→compPost (model X.prog X.w) X.A X.xe use QQ (.ref D) C (.ok .next) s4):
  wpAny (model X.prog X.w) X.A (comprehension (.ListComp elt [⟨tg,qe,ifs,0⟩] scope pos) scope X.env qv (newList []) false (eval qe X.env) use) QQ X.xe s:=by
 obtain⟨cl,hcl,cl1,cl2⟩:=Zgz (scope:=scope) (env:=X.env) (fun y hy hf=>I.ok.has y.1 (.inl (qr y hy hf)));refine Qdh rfl hs hcl qo qt (thn (hi qc s σ H _ I h) fun v s1 h1=>thn h1 fun itv s2 h2=> ?_);obtain⟨it,fp,tn,J,H2,e,I2,T,st2,f2,W,⟨m0,w0⟩,turn⟩:=h2;subst e;refine Qbr (QdP qj (by intro y hy;simp at hy) (fun h₁ hns₁ hsb₁=> ?_) qo);dsimp only at hns₁ hsb₁⊢;generalize hHp:s2.heap.push {cls:=.type "list",dict:=none,data:=.seq ([]:List Value).toArray }=Hp2 at hns₁ hsb₁⊢;have hC:Hp2.objs.size=s2.heap.objs.size+1:=by rw[←hHp,QaY]
 have hDC:s2.heap.objs.size≠Hp2.objs.size:=by rw[hC];exact QaJ (QcN _)
 have below:∀b,b<s2.heap.objs.size→b≠Hp2.objs.size∧b≠s2.heap.objs.size:=fun b hb=>⟨by rw[hC];exact QaJ (Qbs hb),QaJ hb⟩;have old:∀b o,s2.heap.get? b=some o→h₁.get? b=some o:=fun b o e=>hsb₁.extBut b o (below b (Qar e)).1 (Qad _ (hHp ▸ Qad _ e));have hacc:h₁.PlainList s2.heap.objs.size #[]:=⟨_,hsb₁.extBut _ _ hDC (Qad _ (hHp ▸ Qaw _ rfl))⟩;generalize hY:cxC X xs Nb scope cl Hp2.objs.size s2 H2 fp=Y;have Yprog:Y.prog=X.prog:=by rw[←hY];rfl
 have fpLt:∀b∈fp,b<s2.heap.objs.size:=fun b hb=>by
  obtain⟨o,e,_⟩:=T.obj _ _ st2 b hb;exact Qar e
 have cellLt:∀y c,cl.lookup y=some c→c<s2.heap.objs.size:=fun y c hc=>by
  obtain⟨v,q⟩:=I2.cell y c (cl1 y c hc);exact q.lt
 have frSub:∀b∈frs X.stack,b<s2.heap.objs.size:=fun b hb=>by
  rcases Qaz.mp (I2.stkSub b hb) with z|z
  ·rw[z];exact I2.lt
  ·by_cases hlt:b<s2.heap.objs.size
   ·exact hlt
   ·exact absurd z (I2.nofs (QdL hlt))
 have ok:(cxC X xs Nb scope cl Hp2.objs.size s2 H2 fp).Ok:=by
  refine⟨I2.ok.mod,qo,I2.ok.glob,I2.ok.blt,(by show s2.heap.objs.size≤Hp2.objs.size;omega),fun y z c h1 h2=>I2.ok.inj y z c (cl1 y c h1) (cl1 z c h2),fun y hy=> ?_,fun y c hf _=>absurd hf (by intro z;cases z),I2.ok.hd,I2.ok.frames,.inl rfl,fun b hb=>⟨?_,fun y c h1 h2=> ?_⟩,I2.bs,QaE I2.ok.bsz I2.sz,fun b o e hb=> ?_,fun b hb hm=> ?_,I2.stack,I2.stkFree⟩
  ·have hy:(scope.names.map fun(n,k)=>if(k==NameKind.free && X.env.scope.kind== .function && X.env.kindOf n==some .cell) then(n,NameKind.cell) else(n,k)).lookup y=some .cell∨(scope.names.map fun(n,k)=>if(k==NameKind.free && X.env.scope.kind== .function && X.env.kindOf n==some .cell) then(n,NameKind.cell) else(n,k)).lookup y=some .free:=hy
   have q:scope.names.lookup y=some .free:=by
    rcases hy with z|z
    ·exact(ZaQ qj z (.inl rfl)).1
    ·exact(ZaQ qj z (.inr rfl)).1
   exact Qbz.mp (cl2 y (Qa9 q))
  ·exact(below b (fpLt b hb)).1
  ·exact(f2 b hb).2.2.2.2.1 y c (cl1 y c h1) h2
  ·rcases(f2 b hb).2.2.2.1 with z|z
   ·exact I2.ok.noex b o e z
   ·exact absurd (QaT (Qar e) (QaE I2.ok.bsz z)) (Qba _)
  ·rcases Qaz.mp (I2.stkSub b hm) with z|z
   ·exact(f2 b hb).2.1 z
   ·exact(f2 b hb).2.2.1 z
 have fpY:∀{H':Hp} {pl:List (Addr×Obj)},(∀b∈fp,H' b=none)→(∀p∈pl,p.1=s2.heap.objs.size)→∀b∈fp,Zi7 Y pl H' b:=fun{H' pl} hn hp b hb=>by
  rw[←hY];refine⟨hn b hb,(below b (fpLt b hb)).1,fun hm=> ?_,.inl hb,fun y c h1 h2=>(f2 b hb).2.2.2.2.1 y c (cl1 y c h1) h2,fun p hm z=> ?_⟩
  ·rcases Qaz.mp (I2.stkSub b hm) with z|z
   ·exact(f2 b hb).2.1 z
   ·exact(f2 b hb).2.2.1 z
  ·have hm:p∈pl:=hm;rw[hp p hm] at z;exact(below b (fpLt b hb)).2 z.symm
 have HD:H2 s2.heap.objs.size=none:=I2.hok.fresh (Qak _);have HC:H2 Hp2.objs.size=none:=I2.hok.fresh (by omega);obtain⟨m2,hns2,hloc2⟩:=I2.loc
 have IY:∀tk,Inv (cxC X xs Nb scope cl Hp2.objs.size s2 H2 fp) [] (List.replicate xs.length none++σ) H2 {s2 with heap:=h₁,toks:=tk }:=fun tk=>by
  refine⟨ok,rfl,I2.bare,Un.kept old,⟨_,hns₁,fun i y v h1 h2 h3=> ?_⟩,fun y c h1=> ?_,HC,fun y c h1=>I2.freeC y c (cl1 y c h1),fun p hp=>absurd (show p∈([]:List (Addr×Obj)) from hp) (by simp),I2.hok.kept old,(by show(List.replicate xs.length (none:Option V)++σ).length=(xs++Nb).length;rw[Qag,Qag,Qax,hlen,I2.len])⟩
  ·have h1:(xs++Nb)[i]?=some y:=h1;by_cases hik:i<xs.length
   ·rw[QaF (by rw[Qax];exact hik),QbD,if_pos hik] at h2;cases h2
   ·rw[Qav (by omega)] at h1;rw[Qav (by rw[Qax];omega),Qax] at h2;generalize i-xs.length=i at h1 h2;have h3:Vis (relabel scope X.env) y:=h3
    have key:∀k,(k=NameKind.cell∨k=NameKind.free)→(relabel scope X.env).names.lookup y=some k→∃u,ZaY v u∧ZqM (compEnvC scope cl Hp2.objs.size X.env) h₁ (fun x=>([]:List (Str×Value)).reverse.lookup x) y u:=fun k hk hl=>by
     obtain⟨q1,_⟩:=ZaQ qj hl hk;have q2:=qr (y,.free) (Qa9 q1) rfl
     have h1':X.N[i]?=some y:=by
      have hi':i<X.N.length:=by rw[←hlen];exact(Qaf.mp h1).1
      have hz:(Nb.zip X.N)[i]?=some (y,X.N[i]):=by rw[Qc8];exact⟨h1,Qab hi'⟩
      rcases hNb _ (Qap hz) with z|z
      ·have z:y=X.N[i]:=z;rw[z];exact Qab hi'
      ·have z:scope.names.lookup y=none:=z;rw[q1] at z;cases z
     obtain⟨u,r,l⟩:=hloc2 i y v h1' h2 (.inr (.inl q2));refine⟨u,r,.inr ⟨?_,?_⟩⟩
     ·rcases hk with rfl|rfl
      ·exact .inl hl
      ·exact .inr hl
     ·rcases l with⟨k1,_⟩|⟨_,c,e1,z⟩
      ·rw[q2] at k1;cases k1
      ·obtain⟨c',e2⟩:=Qbz.mp (cl2 y (Qa9 q1));have e3:=cl1 y c' e2;rw[e1] at e3;cases e3;obtain⟨o,ho,hd⟩:=z;exact⟨c,e2,o,old c o ho,hd⟩
    rcases h3 with h3|h3|h3
    ·
     exfalso;exact hxN y (Qap h1) (Zb1 h3)
    ·exact key _ (.inl rfl) h3
    ·exact key _ (.inr rfl) h3
  ·obtain⟨v,o,ho,hd⟩:=I2.cell y c (cl1 y c h1);exact⟨v,o,old c o ho,hd⟩
 have noErr:∀{α:Type} {m:Sem α} {G:α→Shared→Prop} {E':Value→Shared→Prop} {s':Shared},wpAny (model X.prog X.w) X.A m G (fun _ _=>False) s'→wpAny (model X.prog X.w) X.A m G E' s':=fun h=>QaZ h (fun _ _ q=>q) fun _ _ q=>q.elim
 have loop:∀(tk:Nat) (R:Result→Shared→Prop),R=compPost (model X.prog X.w) X.A X.xe use QQ (.ref s2.heap.objs.size) Hp2.objs.size→
   codeAny (model X.prog X.w) X.A (.compLoop (.ListComp elt [⟨tg,qe,ifs,0⟩] scope pos) 0 (.ref it) (.ref s2.heap.objs.size) (compEnvC scope cl Hp2.objs.size X.env)) R {s2 with heap:=h₁,toks:=tk }:=by
  rintro tk R rfl
  refine Ziz rfl (fun n s'=>∃i σv H' ys its,σv.length=xs.length∧Inv Y [] (σv++σ) H' s'∧tn i s'.heap∧(∀b∈fp,H' b=none)∧ZaR ys its∧ys.length≤sizeLine∧s'.heap.PlainList s2.heap.objs.size its.toArray∧H' s2.heap.objs.size=none∧W i n ys H') ?_ m0
   ⟨0,List.replicate xs.length none,H2,[],[],Qax,hY ▸ IY tk,T.keep _ _ _ st2 fun b _ o e=>old b o e,fun b hb=>(f2 b hb).1,.nil,QaU _,hacc,HD,w0⟩
  rintro n s3 ⟨i,σv,H3,ys,its,lv,I3,st3,fr3,rv,hz,⟨nn,pl3⟩,HD3,w3⟩
  have I3p:Inv Y [(s2.heap.objs.size,{cls:=.type "list",data:=.seq its.toArray nn })] (σv++σ) H3 s3:=I3.pins_of fun p hp=>by
   rw[Qaj] at hp;subst hp;refine⟨pl3,HD3,?_,fun hm=> ?_,fun v z=>by cases z⟩
   ·rw[←hY];exact hDC
   ·rw[←hY] at hm;exact absurd (frSub _ hm) (Qba _)
  have pinD:∀p∈[((s2.heap.objs.size:Addr),({cls:=.type "list",data:=.seq its.toArray nn }:Obj))],p.1=s2.heap.objs.size:=fun p hp=>by
   rw[Qaj] at hp;rw[hp]
  subst hY;rcases turn i n ys H3 w3 with⟨stop,qn⟩|⟨go,hlt,NN,hNN,step⟩
  ·refine noErr (thn (T.done (cxC X xs Nb scope cl Hp2.objs.size s2 H2 fp) rfl rfl rfl hc i _ s3 _ H3 (fun _ _=>False) I3p (fpY fr3 pinD) st3 stop) fun r s4 ⟨hr,I4⟩=> ?_);subst hr;obtain⟨m4,hns4,_⟩:=I4.loc;refine post s2 s4 H2 (upd H3 s2.heap.objs.size (.lst ys)) Hp2.objs.size s2.heap.objs.size m4 I2 (by omega) hns4 (by rw[Zak (Ne.symm hDC)];exact I4.free) (fun h' sb=> ?_) (qn _ HD3);have pl4:=(I4.pin _ (Qah _ Qai)).1;have up:∀b o,b≠Hp2.objs.size→s4.heap.get? b=some o→h'.get? b=some o:=fun b o hb e=>sb.extBut b o hb e;have base:=I4.base;have HC4:H3 Hp2.objs.size=none:=I4.free;have neC:∀b o,s2.heap.get? b=some o→b≠Hp2.objs.size:=fun b o e=>(below b (Qar e)).1;have neD:∀b o,s2.heap.get? b=some o→b≠s2.heap.objs.size:=fun b o e=>(below b (Qar e)).2
   have hokN:HOk X.prog X.w (upd H3 s2.heap.objs.size (.lst ys)) h':=fun b u e=>by
    by_cases hb:b=s2.heap.objs.size
    ·subst hb;rw[Zab] at e;cases e;exact⟨hz,its,nn,rv,up _ _ hDC pl4⟩
    ·rw[Zak hb] at e;refine(I4.hok b u e).stay (fun c v hc q=>up c v ?_ q) (fun c q=>by rw[Zak (Zah q HD3)];exact q) fun c xs q=>by rw[Zak (Zah q HD3)];exact q
     rcases hc with z|z
     ·rw[z];exact Zah e HC4
     ·exact Zah z HC4
   refine I2.call' (s':={s4 with heap:=h' }) (ch:=fp) I4.os ⟨fun b o e n hb hx'=>up b o (neC b o e) (base.keep b o e n hb hx'),fun b o e n hb hx'=> ?_,fun b o e n hx'=> ?_,fun b o e hx'=> ?_,fun b xs e=> ?_,fun b o u e=> ?_,fun b ps e=> ?_⟩ hokN I4.bare (fun b hb=> ?_)
   ·obtain⟨sl,q⟩:=base.slot b o e n hb hx';exact⟨sl,up b _ (neC b o e) q⟩
   ·rw[Zak (neD b o e)];exact base.free b o e n hx'
   ·obtain⟨o',q⟩:=base.there b o e hx';exact⟨o',up b o' (neC b o e) q⟩
   ·have q:=base.tups b xs e;rw[Zak (Zah q HD3)];exact q
   ·have q:=base.frzs b o u e;rw[Zak (Zah q HD3)];exact q
   ·obtain⟨more,q⟩:=base.tbls b ps e;exact⟨more,by rw[Zak (Zah q HD3)];exact q⟩
   ·obtain⟨_,g1,_,g3,g4,g5⟩:=f2 b hb;exact⟨g3,g1,g4,g5⟩
  ·refine noErr (thn (T.item (cxC X xs Nb scope cl Hp2.objs.size s2 H2 fp) rfl rfl rfl hc i _ s3 _ H3 (fun _ _=>False) I3p (fpY fr3 pinD) st3 go) fun r s4 ⟨u,hr,h4⟩=> ?_);subst hr;refine noErr (thn h4 fun _ s5 ⟨v,H5,I5,r5,y5,st5,fr5⟩=> ?_);have I5':=I5.pinned (fpY fr5 pinD) (T.obj _ _ st5);have stp:=step v H5 σv lv y5;refine noErr (thn (hg cl Hp2.objs.size s2 H2 fp _ s5 _ H5 v u _ I5' r5 stp) fun _ s6 ⟨σ6,H6,I6,⟨pre',e6,l6⟩,stp⟩=> ?_);subst e6
   have again:∀{s7 s8:Shared} {H7:Hp} {zs:List V} {ws:List Value} {m':Nat},Inv (cxC X xs Nb scope cl Hp2.objs.size s2 H2 fp) ([((s2.heap.objs.size:Addr),({cls:=.type "list",data:=.seq its.toArray nn }:Obj))]++Zdf fp s5.heap) (pre'++σ) H7 s7→
     (∃h',s8={s7 with heap:=h' }∧(∀b o,b≠s2.heap.objs.size→s7.heap.get? b=some o→h'.get? b=some o)∧h'.PlainList s2.heap.objs.size ws.toArray)→ZaR zs ws→zs.length≤sizeLine→m'<n→W (i+1) m' zs H7→
     ∃m,m<n∧∃i σv H' ys its,σv.length=xs.length∧Inv (cxC X xs Nb scope cl Hp2.objs.size s2 H2 fp) [] (σv++σ) H' s8∧tn i s8.heap∧(∀b∈fp,H' b=none)∧ZaR ys its∧ys.length≤sizeLine∧s8.heap.PlainList s2.heap.objs.size its.toArray∧H' s2.heap.objs.size=none∧W i m ys H':=by
    rintro s7 s8 H7 zs ws m' I7 ⟨h',rfl,up,plw⟩ rz hzz hm w7;have HD7:H7 s2.heap.objs.size=none:=(I7.pin _ (Qah _ (Qat _ Qai))).2.1
    have fr7:∀b∈fp,H7 b=none:=fun b hb=>by
     obtain⟨o,e,d⟩:=T.obj _ _ st5 b hb;exact(I7.pin (b,o) (Qah _ (Qah _ (Za0 hb e)))).2.1
    have I7':Inv (cxC X xs Nb scope cl Hp2.objs.size s2 H2 fp) [] (pre'++σ) H7 s7:=I7.pins_of fun p hp=>absurd hp (by simp);refine⟨m',hm,i+1,pre',H7,zs,ws,l6,?_,?_,fr7,rz,hzz,plw,HD7,w7⟩
    ·have:=I7'.turned (it:=s2.heap.objs.size) (h':=h') (t':=s7.toks) up HD7 hDC (.inr (Qak _)) (fun y c h1 h2=>absurd (cellLt y c h1) (by rw[h2];exact Qba _)) (fun p hp=>absurd (show p∈([]:List (Addr×Obj)) from hp) (by simp));exact this
    ·refine T.keep _ _ _ st5 fun b hb o e=>up b o (below b (fpLt b hb)).2 ?_;exact(I7.pin (b,o) (Qah _ (Qah _ (Za0 hb e)))).1
   refine noErr (thn (ht cl Hp2.objs.size s2 H2 fp _ s6 _ H6 _ I6 stp) fun okb s7 ⟨H7,I7,q7⟩=> ?_);have pl7:=(I7.pin _ (Qah _ (Qat _ Qai))).1
   cases okb with
   |false=>
    rw[if_neg QaI] at q7⊢;obtain⟨m',hm,w7⟩:=hNN _ _ q7;exact again I7 ⟨s7.heap,rfl,fun _ _ _ e=>e,nn,pl7⟩ rv hz hm w7
   |true=>
    rw[if_pos rfl] at q7⊢;refine noErr (thn (he cl Hp2.objs.size s2 H2 fp _ s7 _ H7 _ I7 q7) fun w' s8 ⟨y,H8,I8,r8,q8⟩=> ?_);obtain⟨m',hm,w8⟩:=hNN _ _ q8;have pl8:=(I8.pin _ (Qah _ (Qat _ Qai))).1;refine QeD (hsz:=by have:=rv.length;simp only[QaD];omega) ⟨nn,pl8⟩ fun h9 pl9 sb9=> ?_;refine again I8 ⟨h9,rfl,fun b o hb e=>sb9.extBut b o hb e,?_⟩ (rv.append (.cons r8 .nil)) (by rw[Qag,Qb4];omega) hm w8;have e9:its.toArray.push w'=(its++ [w']).toArray:=by simp
    rw[←e9];exact pl9
 refine QeT (loop _ _ rfl) (noErr (T.self _ 0 _ _ _ (T.keep _ _ _ st2 fun b _ o e=>old b o e) (loop _ _ rfl)))
theorem Zbj {pos:PySem.Pos}
  (hc:X.calm=true) (hi:PI X tg qe wi) (hlen:Nb.length=X.N.length) (hNb:∀p∈Nb.zip X.N,p.1=p.2∨scope.names.lookup p.1=none) (hxN:∀y∈Nb,scope.names.lookup y≠some .local)
  (hg:InB X xs Nb scope fun Y=>PG Y tg g) (ht:InB X xs Nb scope fun Y=>PIf Y ifs tt) (he:InB X xs Nb scope fun Y=>PE Y elt te)
  (qj:∀y∈scope.names,y.2≠ .cell) (qo:scope.kind= .function) (qt:∀y∈scope.names,y.2= .local→scope.names.lookup y.1=some .local)
  (qr:∀y∈scope.names,y.2= .free→X.env.kindOf y.1=some .cell)
  (hs:∀x,foldedSetIterable qe X.env x=pure x:=by intro _;rfl):
  PE X (.ListComp elt [⟨tg,qe,ifs,0⟩] scope pos) (ZbL xs.length wi g tt te):=by
 intro qc s σ H Q I h;rw[eval_ListComp];exact ZfK (use:=none) (QQ:=EP X qc σ Q) hc hi hlen hNb hxN hg ht he qj qo qt qr hs I h fun s2 s4 H2 H4 C D m4 _ _ hn _ IX q=>⟨m4,hn,fun h' sb=>⟨.ref D,H4,IX h' sb,rfl,q⟩⟩
theorem ZeQ {pos spos py:PySem.Pos}{g2:TG}{y:Str}
  (hg2:PG X (.Name y py) g2) (hsw:swapsWith (.ListComp elt [⟨tg,qe,ifs,0⟩] scope pos) (some (.Name y py)) spos.line X.env=pure true)
  (hc:X.calm=true) (hi:PI X tg qe wi) (hlen:Nb.length=X.N.length) (hNb:∀p∈Nb.zip X.N,p.1=p.2∨scope.names.lookup p.1=none) (hxN:∀y∈Nb,scope.names.lookup y≠some .local)
  (hg:InB X xs Nb scope fun Y=>PG Y tg g) (ht:InB X xs Nb scope fun Y=>PIf Y ifs tt) (he:InB X xs Nb scope fun Y=>PE Y elt te)
  (qj:∀y∈scope.names,y.2≠ .cell) (qo:scope.kind= .function) (qt:∀y∈scope.names,y.2= .local→scope.names.lookup y.1=some .local)
  (qr:∀y∈scope.names,y.2= .free→X.env.kindOf y.1=some .cell)
  (hs:∀x,foldedSetIterable qe X.env x=pure x:=by intro _;rfl):
  PS X (.Assign [.Name y py] (.ListComp elt [⟨tg,qe,ifs,0⟩] scope pos) spos) (Zbk (ZbL xs.length wi g tt te) g2):=by
 intro qc s σ H D I h;rw[exec_Assign_Name_used _ _ _ _ hsw];refine Qaa (Qb7 (Qaa ?_));show wpAny (model X.prog X.w) X.A (comprehension (.ListComp elt [⟨tg,qe,ifs,0⟩] scope pos) scope X.env _ (newList []) false (eval qe X.env) (some (assign (.Name y py) X.env))>>=fun _=>pure ()) _ _ s;refine Qaa (QaZ (ZfK (use:=some (assign (.Name y py) X.env)) (QQ:=fun _ s'=>SP X qc D .next s') hc hi hlen hNb hxN hg ht he qj qo qt qr hs I h ?_) (fun _ s' hq=>Qae (Qae hq)) fun _ _ e=>e);intro s2 s4 H2 H4 C R m4 I2 hC hn HC IX q;have I4:Inv X qc σ H4 s4:=IX s4.heap (Qet _ _);obtain⟨o,es,ep,ho,hd,hn'⟩:=id hn;have hLC:C≠X.env.locals:=fun z=>absurd (QaT I2.lt hC) (by rw[z];exact Qba _);have hfsC:C∉X.fs:=I2.nofs hC
 have I4p:Inv X ((C,o)::qc) σ H4 s4:=I4.pins_of fun p hp=>by
  rcases Qaz.mp hp with rfl|z
  ·exact⟨ho,HC,hLC,hfsC,fun v z=>by rw[hd] at z;cases z⟩
  ·exact I4.pin p (Qah _ z)
 show wpAny _ X.A (assign (.Name y py) X.env (.ref R)) _ _ s4;refine thn (hg2 _ s4 σ H4 (.ref R) (.ref R) _ I4p rfl q) fun _ s5 ⟨σ5,H5,I5,q5⟩=> ?_;have pC:=I5.pin (C,o) (Qah _ Qai);refine⟨m4,⟨o,es,ep,pC.1,hd,hn'⟩,fun h' sb=>⟨σ5,H5,?_,q5⟩⟩;have I6:Inv X qc σ5 H5 s5:=I5.pins_of fun p hp=>I5.pin p (Qah _ (Qao _ hp))
 exact I6.turned (it:=C) (h':=h') (t':=s5.toks) (fun b o hb e=>sb.extBut b o hb e) pC.2.1 hLC (.inr (QaE I2.sz hC)) (fun y c e z=>by
   obtain⟨v,qq⟩:=I2.cell y c e
   exact absurd (QaT qq.lt hC) (by rw[z];exact Qba _)) (fun p hp z=>by
   exact absurd (QaT (Qar (I2.pin p hp).1) hC) (by rw[z];exact Qba _))
theorem Zrc {K:PySem.W.Frag}{k:Nat}{xs:List V}{Q:VK}(Pv:Nat→List V→Hp→Prop)(h0:Pv 0 [] H)(hb:xs.length≤1000)(hz:∀i ys H,Pv i ys H→ys.length≤i)(hl:∀i ys H,i≤xs.length→Pv i ys H→SqT K H a xs)
  (hs:∀i x ys H (pre:St),pre.length=k→xs[i]?=some x→Pv i ys H→g x (pre++σ) H fun σ' H2=>(∃pre':St,σ'=pre'++σ∧pre'.length=k)∧tt σ' H2 fun ok H3=>if ok=true then te σ' H3 fun y H4=>Pv (i+1) (ys++ [y]) H4 else Pv (i+1) ys H3) (hd:∀ys H,Pv xs.length ys H→∀D,H D=none→Q (.ref D) (upd H D (.lst ys))):CGo k (Itt K a) g tt te Q σ H:=by
 refine⟨fun i m ys H=>m=xs.length-i∧i≤xs.length∧Pv i ys H,⟨xs.length,by simp,QaU _,h0⟩,?_⟩;rintro i m ys H ⟨rfl,hi,p⟩;have q:=hl i ys H hi p;by_cases hlt:i<xs.length
 ·refine .inr ⟨⟨xs,xs[i],q,by simp[hlt]⟩,QaN (hz i ys H p) (ZbJ (by omega)),Pv (i+1),fun zs H' p'=>⟨xs.length-(i+1),by omega,rfl,hlt,p'⟩,fun x H' pre hp y=> ?_⟩;obtain⟨e,y⟩:=y;subst e;exact hs i x ys _ pre hp (y xs q) p
 ·have e:i=xs.length:=by omega
  subst e;exact .inl ⟨⟨xs,q,Qak _⟩,hd ys H p⟩
theorem ZpD {k:Nat}{lo:Int}{Q:VK}(Pv:Nat→List V→Hp→Prop)(h0:Pv 0 [] H)(hb:n≤1000)(hz:∀i ys H,Pv i ys H→ys.length≤i)
  (hs:∀(i:Nat) ys H (pre:St),pre.length=k→i<n→Pv i ys H→g (.int (lo+i)) (pre++σ) H fun σ' H2=>(∃pre':St,σ'=pre'++σ∧pre'.length=k)∧tt σ' H2 fun ok H3=>if ok=true then te σ' H3 fun y H4=>Pv (i+1) (ys++ [y]) H4 else Pv (i+1) ys H3) (hd:∀ys H,Pv n ys H→∀D,H D=none→Q (.ref D) (upd H D (.lst ys))):CGo k (Itr lo n) g tt te Q σ H:=by
 refine⟨fun i m ys H=>m=n-i∧i≤n∧Pv i ys H,⟨n,by simp,QaU _,h0⟩,?_⟩;rintro i m ys H ⟨rfl,hi,p⟩;by_cases hlt:i<n
 ·refine .inr ⟨hlt,QaN (hz i ys H p) (ZbJ (by omega)),Pv (i+1),fun zs H' p'=>⟨n-(i+1),by omega,rfl,hlt,p'⟩,fun x H' pre hp y=> ?_⟩;obtain⟨e,y⟩:=y;subst e y;exact hs i ys _ pre hp hlt p
 ·have e:i=n:=by omega
  subst e;exact .inl ⟨Qak _,hd ys H p⟩
theorem ZgB {K:PySem.W.Frag}{k:Nat}{t:TGs}{pos:PySem.Pos}(hc:X.calm=true)(h:PGs X es t)(hK:X.K=K:=by rfl)
  (hn:(assignEach es X.env).length=n:=by rfl) (hst:(assignEach es X.env).findIdx? (·.1)=none:=by rfl):PG X (.Tuple es k pos) (Zjk K n t):=by
 subst hK;exact Zce hc h hn hst
def dT (ns:List Int):PyData:=.tuple (ns.map .int)
def dE (e:Int×List Int):PyData:=.tuple [.int e.1,dT e.2]
def dL (L:List (Int×List Int)):PyData:=.list (L.map dE)
theorem ZdL:∀ns ms:List Int,PyData.eqvAll (ns.map .int) (ms.map .int)=decide (ns=ms)
 | [],[]=>rfl
 | [],_::_=>rfl
 |_::_,[]=>rfl
 |n::ns,m::ms=>by
  show(PyData.eqv (.int n) (.int m) && PyData.eqvAll (ns.map .int) (ms.map .int))=_;rw[ZdL ns ms];show((n==m) && _)=_;by_cases h:n=m
  ·subst h;by_cases h2:ns=ms<;>simp[h2]
  ·simp[h]
theorem ZjB (ns ms:List Int):PyData.eqv (dT ns) (dT ms)=decide (ns=ms):=ZdL ns ms
theorem ZpE (a b:Int×List Int):PyData.eqv (dE a) (dE b)=decide (a=b):=by
 show((a.1==b.1) && (PyData.eqv (dT a.2) (dT b.2) && true))=_;rw[ZjB];obtain⟨a1,a2⟩:=a;obtain⟨b1,b2⟩:=b;by_cases h:a1=b1
 ·subst h;by_cases h2:a2=b2<;>simp[h2]
 ·simp[h]
theorem ZfL:∀L M:List (Int×List Int),PyData.eqvAll (L.map dE) (M.map dE)=decide (L=M)
 | [],[]=>rfl
 | [],_::_=>rfl
 |_::_,[]=>rfl
 |a::L,b::M=>by
  show(PyData.eqv (dE a) (dE b) && PyData.eqvAll (L.map dE) (M.map dE))=_;rw[ZfL L M,ZpE];by_cases h:a=b
  ·subst h;by_cases h2:L=M<;>simp[h2]
  ·simp[h]
theorem ZpF (L M:List (Int×List Int)):PyData.eqv (dL L) (dL M)=decide (L=M):=ZfL L M
theorem ZcP:∀ns:List Int,PyData.canLayAll0 (ns.map .int)=true
 | []=>rfl
 |_::ns=>by show(true && _)=true;rw[ZcP ns];rfl
theorem Zdg (ns:List Int):(dT ns).canLay0=true:=ZcP ns
theorem ZpG (e:Int×List Int):(dE e).canLay0=true:=by show(true && ((dT e.2).canLay0 && true))=true;rw[Zdg];rfl
theorem ZjC:∀L:List (Int×List Int),PyData.canLayAll0 (L.map dE)=true
 | []=>rfl
 |e::L=>by show((dE e).canLay0 && _)=true;rw[ZpG,ZjC L];rfl
theorem ZjD (L:List (Int×List Int)):(dL L).canLay0=true:=ZjC L
theorem ZeR:∀ns:List Int,PyData.depthAll (ns.map .int)=0
 | []=>rfl
 |_::ns=>by show max 0 _=0;rw[ZeR ns];rfl
theorem Zeq (ns:List Int):(dT ns).depth=1:=by show PyData.depthAll _+1=1;rw[ZeR]
theorem ZpH (e:Int×List Int):(dE e).depth=2:=by show max 0 (max (dT e.2).depth 0)+1=2;rw[Zeq];rfl
theorem ZjE:∀L:List (Int×List Int),PyData.depthAll (L.map dE)≤2
 | []=>QaU _
 |e::L=>by show max (dE e).depth _≤2;rw[ZpH];have:=ZjE L;omega
theorem Zne (L:List (Int×List Int)):(dL L).depth≤60:=by show PyData.depthAll _+1≤60;have:=ZjE L;omega
def Za8 (H H':Hp):Prop:=∀b ys,H b=some (.tup ys)→H' b=some (.tup ys)
theorem Za8.refl (H:Hp):Za8 H H:=fun _ _ h=>h
theorem Za8.trans (a:Za8 H H1)(b:Za8 H1 H2):Za8 H H2:=fun c y h=>b c y (a c y h)
theorem Za8.new {p:Addr}{o:HO}(a:Za8 H H1)(h:H1 p=none):Za8 H (upd H1 p o):=fun c y e=>by
 have:=a c y e;rw[Zak (Zah this h)];exact this
theorem Za8.lst {H H1:Hp}{p:Addr}{xs ys:List V}(a:Za8 H H1)(h:H1 p=some (.lst xs)):Za8 H (upd H1 p (.lst ys)):=fun c y e=>by
 have:=a c y e;have hn:c≠p:=fun z=>by rw[z,h] at this;cases this
 rw[Zak hn];exact this
theorem Zam.tups (s:Zam H H'):Za8 H H':=fun b ys e=>s b _ e
def Sh (H:Hp)(x:V)(e:Int×List Int):Prop:=∃p w,x= .ref p∧H p=some (.tup [.int e.1,.ref w])∧H w=some (.tup (e.2.map V.int))
def Wg (H:Hp)(xs:List V)(L:List (Int×List Int)):Prop:=xs.length=L.length∧∀(i:Nat) (x:V) (e:Int×List Int),xs[i]?=some x→L[i]?=some e→Sh H x e
theorem Sh.up {x:V}(h:Sh H x e)(t:Za8 H H'):Sh H' x e:=by
 obtain⟨p,w,rfl,h1,h2⟩:=h;exact⟨p,w,rfl,t _ _ h1,t _ _ h2⟩
theorem Wg.up {H H':Hp}{xs:List V}{L:List (Int×List Int)}(h:Wg H xs L)(t:Za8 H H'):Wg H' xs L:=⟨h.1,fun i x e h1 h2=>(h.2 i x e h1 h2).up t⟩
theorem Wg.nil (H:Hp):Wg H [] []:=⟨rfl,fun i x e h _=>by cases h⟩
theorem Wg.snoc {xs:List V}{x:V}(h:Wg H xs L)(s:Sh H x e):Wg H (xs++ [x]) (L++ [e]):=by
 refine⟨by simp[h.1],fun i y d h1 h2=> ?_⟩;by_cases hi:i<xs.length
 ·rw[QaF hi] at h1;rw[QaF (by rw[←h.1];exact hi)] at h2;exact h.2 i y d h1 h2
 ·have hl:i<(xs++ [x]).length:=(Qaf.mp h1).1;rw[Qag,Qb4] at hl;have e0:i=xs.length:=by omega
  subst e0;rw[Qav (Qak _),QcV] at h1;rw[Qav (by rw[h.1];exact Qak _),h.1,QcV] at h2;cases h1;cases h2;exact s
theorem Wg.get {xs:List V}(h:Wg H xs L)(he:L[i]?=some e):∃x,xs[i]?=some x∧Sh H x e:=by
 have hi:i<xs.length:=by rw[h.1];exact(Qaf.mp he).1
 exact⟨xs[i],Qab hi,h.2 i _ e (Qab hi) he⟩
theorem Wg.at' {xs:List V}{x:V}(h:Wg H xs L)(he:xs[i]?=some x):∃e,L[i]?=some e∧Sh H x e:=by
 have hi:i<L.length:=by rw[←h.1];exact(Qaf.mp he).1
 exact⟨L[i],Qab hi,h.2 i _ _ he (Qab hi)⟩
theorem Wg.pop {xs:List V}(h:Wg H xs L):Wg H xs.dropLast L.dropLast:=by
 refine⟨by rw[QcD,QcD,h.1],fun i x e h1 h2=> ?_⟩;rw[List.getElem?_dropLast] at h1 h2;split at h1
 ·split at h2
  ·exact h.2 i x e h1 h2
  ·cases h2
 ·cases h1
theorem Zc2 {K:PySem.W.Frag}{w:Addr}(h:H w=some (.tup (ns.map V.int))):DI K H (.ref w) (dT ns):=by
 refine .tup (SqT.of h) (by simp) fun i x d h1 h2=> ?_;rw[Qam] at h1 h2
 cases z:ns[i]? with
 |none=>rw[z] at h1;cases h1
 |some n=>
  rw[z] at h1 h2;cases h1;cases h2;exact .int _
theorem Sh.di {K:PySem.W.Frag}{x:V}(h:Sh H x e):DI K H x (dE e):=by
 obtain⟨p,w,rfl,h1,h2⟩:=h;refine .tup (SqT.of h1) rfl fun i y d a b=> ?_;rcases i with _|_|i
 ·cases a;cases b;exact .int _
 ·cases a;cases b;exact Zc2 h2
 ·cases a
theorem Wg.di {K:PySem.W.Frag}{H:Hp}{a:Addr}{xs:List V}{L:List (Int×List Int)}(h:Wg H xs L)(ha:SqL K H a xs):DI K H (.ref a) (dL L):=by
 refine .lst ha (by rw[Qac];exact h.1) fun i x d h1 h2=> ?_;rw[Qam] at h2
 cases z:L[i]? with
 |none=>rw[z] at h2;cases h2
 |some e=>
  rw[z] at h2;cases h2;exact(h.2 i x e h1 z).di
theorem ZpI {K:PySem.W.Frag}(ha:SqL K H a []):DI K H (.ref a) (dL []):=.lst ha rfl fun i x d h1 _=>by cases h1
def Zbl (acc:List (Int×List Int))(e:Int×List Int):List (Int×List Int):=
 if 0<e.1 then match acc.getLast? with
  |some l=>if l.2=e.2 then acc.dropLast++ [(e.1+l.1,e.2)] else acc++ [e]
  |none=>acc++ [e]
 else acc
def Zb2 (L:List (Int×List Int)):List (Int×List Int):=L.foldl Zbl []
def tot (L:List (Int×List Int)):Int:=(L.map (·.1)).sum
theorem Zb3:tot []=0:=rfl
theorem ZaW (e:Int×List Int)(L:List (Int×List Int)):tot (e::L)=e.1+tot L:=by unfold tot;simp
theorem Zbo (L M:List (Int×List Int)):tot (L++M)=tot L+tot M:=by unfold tot;simp
theorem Zaq {α:Type}{L:List α}{e:α}(h:L[i]?=some e):L.take (i+1)=L.take i++ [e]:=by
 rw[Qdx,h];rfl
theorem ZeS (h:L[i]?=some e):tot (L.take (i+1))=tot (L.take i)+e.1:=by
 rw[Zaq h,Zbo,ZaW,Zb3];omega
theorem Zcr (h:L[i]?=some e):Zb2 (L.take (i+1))=Zbl (Zb2 (L.take i)) e:=by
 unfold Zb2;rw[Zaq h,Qc1];rfl
theorem ZeT {α:Type}{L:List α}{l:α}(h:L.getLast?=some l):L=L.dropLast++ [l]:=by
 have hne:L≠ []:=by intro z;rw[z] at h;cases h
 rw[List.getLast?_eq_some_getLast hne] at h;cases h;exact(List.dropLast_concat_getLast hne).symm
theorem ZlO (h:∀e∈L,0<e.1):∀{i j:Nat},i≤j→tot (L.take i)≤tot (L.take j):=by
 intro i j hij
 induction hij with
 |refl=>exact Qb8 _
 |step _ ih=>
  rename_i m _
  cases z:L[m]? with
  |none=>
   rw[QaL (QaE (Qbh.mp z) (Qdy m))];rw[QaL (Qbh.mp z)] at ih;exact ih
  |some e=>
   rw[ZeS z]
   have:=h e (Qap z);omega
theorem ZdM (ns:List Int):∀n,preSum (fun i=>ns.getD i 0) n=(ns.take n).sum
 |0=>rfl
 |n+1=>by
  show preSum _ n+ns.getD n 0=_;rw[ZdM ns n,Qdx,QaA]
  cases ns[n]? with
  |none=>simp
  |some z=>simp
theorem ZlP (hc:X.calm=true):ZcE X (.builtin "sum") (fun xs H Q=>∃(p:Addr) (ns:List Int),xs=[.ref p]∧SqL X.K H p (ns.map V.int)∧Q (.int ns.sum) H):=by
 intro qc s σ H xs us Q I r h;obtain⟨p,ns,rfl,hq,q⟩:=h;obtain⟨u,rfl,rx⟩:=ZcZ r;cases rx;obtain⟨its,rv,pl,hz⟩:=I.list hq
 have hlt:p<s.heap.objs.size:=by
  obtain⟨o,e,_⟩:=pl.isList;exact Qar e
 have hlen:its.length=ns.length:=by have:=rv.length;rw[Qac] at this;exact this.symm
 refine call_sum_walkAnyS (Qc0 pl.isList ?_);refine⟨_,_,_,_,_,_,_,fun i=>ns.getD i 0,rfl,(QfC (A:=X.A.in1) (I.ok.hd hc) s.heap.objs.size p (QaJ hlt) its.toArray).toS,?_,?_,?_,fun s' t' hm=> ?_⟩
 ·exact⟨⟨_,Qaw _ rfl,rfl,rfl⟩,(let⟨o,e,c⟩:=pl.isList;⟨o,Qad _ e,c⟩)⟩
 ·intro b hb;simp at hb;rcases hb with rfl|rfl
  ·simp[QaY]
  ·rw[QaY];exact Qbs hlt
 ·intro i v hP;have hv:its[i]?=some v:=by simpa using hP
  have hil:i<ns.length:=by rw[←hlen];exact(Qaf.mp hv).1
  obtain⟨u,e,ru⟩:=rv.get (x:=V.int (ns.getD i 0)) (i:=i) (by rw[Qam,Qab hil,QaA,Qab hil];rfl);rw[hv] at e;cases e;exact ru
 ·have e:preSum (fun i=>ns.getD i 0) its.toArray.size=ns.sum:=by
   rw[QaD,hlen,ZdM,Qa6]
  rw[e];obtain⟨hk,hg,hd,ho,ht⟩:=hm;refine⟨.int _,H,?_,⟨t',rfl⟩,q⟩
  have es:s'={s with heap:=s'.heap,toks:=s'.toks }:=by
   cases s';simp_all
  rw[es];exact I.kept fun b o eb=>hk b o (by simp;exact QaJ (Qar eb)) (Qad _ eb)
abbrev WL:=List (Int×List Int)
def mn (i j:Int):Int:=if j<i then j else i
def mx (i j:Int):Int:=if j>i then j else i
def Pos (L:WL):Prop:=∀e∈L,0<e.1
def isInt:PyData→Bool
 | .int _| .bool _=>true
 |_=>false
section
variable {t:TA}
theorem Zao {c:Const}(ha:PE X (.Constant c j p) te)(hr:PA X es t):PA X (.Constant c j p::es) (Zaf te t):=ZaA ha hr rfl
theorem Zaa (ha:PE X (.Name x p) te)(hr:PA X es t):PA X (.Name x p::es) (Zaf te t):=ZaA ha hr rfl
theorem Zdr {l:List Expr}{k:Nat}(ha:PE X (.Tuple l k p) te)(hr:PA X es t):PA X (.Tuple l k p::es) (Zaf te t):=ZaA ha hr rfl
theorem ZaM {a:Expr}{o:Operator}(ha:PE X (.BinOp a o b p) te)(hr:PA X es t):PA X (.BinOp a o b p::es) (Zaf te t):=ZaA ha hr rfl
theorem ZaD {a:Expr}(ha:PE X (.Subscript a b p) te)(hr:PA X es t):PA X (.Subscript a b p::es) (Zaf te t):=ZaA ha hr rfl
theorem ZaS {f:Expr}{l:List Expr}{kw:List Keyword}(ha:PE X (.Call f l kw p) te)(hr:PA X es t):PA X (.Call f l kw p::es) (Zaf te t):=ZaA ha hr rfl
end
theorem ZcQ {e2:Expr}{t:TA}(h1:PE X e1 t1)(h2:PE X e2 t2)(hr:PA X es t)(s1:∀l,starEach (e1::l) X.env=(false,eval e1 X.env)::starEach l X.env:=by intro _;rfl)(s2:∀l,starEach (e2::l) X.env=(false,eval e2 X.env)::starEach l X.env:=by intro _;rfl):PA X (e1::e2::es) (Zaf t1 (Zaf t2 t)):=(ZaA h1 (ZaA h2 hr (s2 _)) (s1 _))
theorem ZlQ {e2:Expr}{t:TA}(h1:PE X e1 t1)(h2:PE X e2 t2)(h3:PE X e3 t3)(hr:PA X es t)(s1:∀l,starEach (e1::l) X.env=(false,eval e1 X.env)::starEach l X.env:=by intro _;rfl)(s2:∀l,starEach (e2::l) X.env=(false,eval e2 X.env)::starEach l X.env:=by intro _;rfl)(s3:∀l,starEach (e3::l) X.env=(false,eval e3 X.env)::starEach l X.env:=by intro _;rfl):PA X (e1::e2::e3::es) (Zaf t1 (Zaf t2 (Zaf t3 t))):=(ZaA h1 (ZaA h2 (ZaA h3 hr (s3 _)) (s2 _)) (s1 _))
theorem Zob {e2 e4:Expr}{t4:TE}{t:TA}(h1:PE X e1 t1)(h2:PE X e2 t2)(h3:PE X e3 t3)(h4:PE X e4 t4)(hr:PA X es t)(s1:∀l,starEach (e1::l) X.env=(false,eval e1 X.env)::starEach l X.env:=by intro _;rfl)(s2:∀l,starEach (e2::l) X.env=(false,eval e2 X.env)::starEach l X.env:=by intro _;rfl)(s3:∀l,starEach (e3::l) X.env=(false,eval e3 X.env)::starEach l X.env:=by intro _;rfl)(s4:∀l,starEach (e4::l) X.env=(false,eval e4 X.env)::starEach l X.env:=by intro _;rfl):PA X (e1::e2::e3::e4::es) (Zaf t1 (Zaf t2 (Zaf t3 (Zaf t4 t)))):=(ZaA h1 (ZaA h2 (ZaA h3 (ZaA h4 hr (s4 _)) (s3 _)) (s2 _)) (s1 _))
theorem Zer {a:Expr}{t:Option Expr}{l:Nat}:swapsWith (.Subscript a b p) t l env=pure false:=rfl
theorem Inv.turnedNew {p:Addr}{xs:List V}(I:Inv X qc σ H s)(k:∀b o,b∉ch→s.heap.get? b=some o→h'.get? b=some o)(hf:∀b∈ch,Zi7 X qc H b)(hp:s.heap.objs.size≤p)
  (new:Zbm X.prog X.w (upd H p (.tup xs)) h' p (.tup xs)):Inv X qc σ (upd H p (.tup xs)) {s with heap:=h',toks:=t' }:=by
 have hn:H p=none:=I.hok.fresh hp;have nit:∀b u,H b=some u→b∉ch:=fun b u e z=>by rw[(hf b z).1] at e;cases e
 have nL:X.env.locals∉ch:=fun z=>(hf _ z).2.1 rfl
 refine I.step (g':=s.gens) (d':=s.drawn) (ch:=ch) (fun b hb=> ?_) (fun b o _ _ hc e _=>k b o hc e) (fun b o _ _ hc e _=>⟨o.slots,k b o hc e⟩) (fun b o _ e n=> ?_)
  (fun b o hc e=>⟨o,k b o hc e⟩) (fun b xs e=> ?_) (fun b o u e=> ?_) (fun b ps e=>⟨#[],?_⟩) (fun m hm=> ?_) (fun b u e=> ?_) I.bare
 ·obtain⟨f0,f1,f2,f3,f4,f5⟩:=hf b hb;exact⟨f3,f1,f4,f5⟩
 ·rw[Zak (fun z=>by rw[z] at e;exact absurd (QaT (Qar e) hp) (Qba _))];exact n
 ·rw[Zak (Zah e hn)];exact e
 ·rw[Zak (Zah e hn)];exact e
 ·rw[Zak (Zah e hn),e];simp
 ·obtain⟨o,es,ep,ho,r⟩:=hm;exact⟨o,es,ep,k _ o nL ho,r⟩
 ·by_cases hb:b=p
  ·subst hb;rw[Zab] at e;cases e;exact new
  ·rw[Zak hb] at e;refine(I.hok b u e).stay (fun c v hc q=>k c v ?_ q) (fun c q=>by rw[Zak (Zah q hn)];exact q) fun c xs q=>by rw[Zak (Zah q hn)];exact q
   rcases hc with z|z
   ·rw[z];exact nit b u e
   ·exact nit c _ z
theorem Inv.turnedL (I:Inv X qc σ H s)(k:∀b o,b∉ch→s.heap.get? b=some o→h'.get? b=some o)(hf:∀b∈ch,Zi7 X qc H b):Inv X qc σ H {s with heap:=h',toks:=t' }:=by
 have nit:∀b u,H b=some u→b∉ch:=fun b u e z=>by rw[(hf b z).1] at e;cases e
 have nL:X.env.locals∉ch:=fun z=>(hf _ z).2.1 rfl
 refine I.step (g':=s.gens) (d':=s.drawn) (ch:=ch) (fun b hb=> ?_) (fun b o _ _ hc e _=>k b o hc e) (fun b o _ _ hc e _=>⟨o.slots,k b o hc e⟩) (fun b o _ e n=>n)
  (fun b o hc e=>⟨o,k b o hc e⟩) (fun b xs e=>e) (fun b o u e=>e) (fun b ps e=>⟨#[],by rw[e];simp⟩) (fun m hm=> ?_) (fun b u e=> ?_) I.bare
 ·obtain⟨f0,f1,f2,f3,f4,f5⟩:=hf b hb;exact⟨f3,f1,f4,f5⟩
 ·obtain⟨o,es,ep,ho,r⟩:=hm;exact⟨o,es,ep,k _ o nL ho,r⟩
 ·refine(I.hok b u e).stay (fun c v hc q=>k c v ?_ q) (fun _ q=>q) fun _ _ q=>q;rcases hc with z|z
  ·rw[z];exact nit b u e
  ·exact nit c _ z
theorem sIx_nat {n m d:Nat}(h:m≤n):HT.sIx n d (some (m:Int))=m:=by
 rw[HT.sIx_nat];exact Qdn h
theorem ZjF {xs:List V}(h:n≤xs.length):ZhJ xs none (some (n:Int))=xs.take n:=by
 unfold ZhJ;rw[sIx_nat h];show(xs.drop 0).take (n-0)=_;simp
theorem ZjG {xs:List V}(h:n≤xs.length):ZhJ xs (some (n:Int)) none=xs.drop n:=by
 unfold ZhJ;rw[sIx_nat h];show(xs.drop n).take (xs.length-n)=_;rw[QaL (by simp)]
structure TB (t:SetTable)(led:Bool):Prop where
 led:t.led=led
 dum:t.dummies= #[]
 up:t.place.toList.Pairwise (· < ·)
theorem ZlR {xs:Array Nat}(h:xs.toList.Pairwise (· < ·))(j:Nat):∀(qk lo hi:Nat),hi≤xs.size→lo≤hi→hi-lo≤qk→(∀i,i<lo→xs.getD i 0<j)→(∀i,hi≤i→i<xs.size→j≤xs.getD i 0)→
  SetTable.below.go xs j qk lo hi≤xs.size∧(∀i,i<SetTable.below.go xs j qk lo hi→xs.getD i 0<j)∧(∀i,SetTable.below.go xs j qk lo hi≤i→i<xs.size→j≤xs.getD i 0):=by
 have inc:∀a b,a≤b→b<xs.size→xs.getD a 0≤xs.getD b 0:=fun a b hab hb=>by
  rcases Qcz hab with z|z
  ·have:=Qbb.mp h a b (by simpa using QcW z hb) (by simpa using hb) z;simp only[QcE] at this;rw[QaB,QaB,Qas (QcW z hb),Qas hb];exact Qcx this
  ·rw[z];exact Qak _
 intro qk
 induction qk with
 |zero=>
  intro lo hi h1 h2 h3 h4 h5;have e:lo=hi:=by omega
  subst e;exact⟨h1,h4,h5⟩
 |succ qk ih=>
  intro lo hi h1 h2 h3 h4 h5;unfold SetTable.below.go;by_cases hlt:lo<hi
  ·rw[if_pos hlt];have hm:(lo+hi)/2<hi:=by omega
   have hm0:lo≤(lo+hi)/2:=by omega
   have hms:(lo+hi)/2<xs.size:=by omega
   have eg:xs.getD ((lo+hi)/2) j=xs.getD ((lo+hi)/2) 0:=by
    rw[QaB,QaB,Qas hms];rfl
   dsimp only;rw[eg];by_cases hc:xs.getD ((lo+hi)/2) 0<j
   ·rw[if_pos hc];refine ih _ _ h1 (by omega) (by omega) (fun i hi'=> ?_) h5;exact QaN (inc i _ (by omega) hms) hc
   ·rw[if_neg hc];refine ih _ _ (by omega) (by omega) (by omega) h4 (fun i hi' hs=> ?_);exact QaE (Nat.not_lt.mp hc) (inc _ i hi' hs)
  ·rw[if_neg hlt];have e:lo=hi:=by omega
   subst e;exact⟨h1,h4,h5⟩
theorem Zds {xs:Array Nat}(h:xs.toList.Pairwise (· < ·))(j:Nat):SetTable.below xs j≤xs.size∧(∀i,i<SetTable.below xs j→xs.getD i 0<j)∧(∀i,SetTable.below xs j≤i→i<xs.size→j≤xs.getD i 0):=
 ZlR h j xs.size 0 xs.size (Qak _) (QaU _) (Qak _) (fun i hi=>by omega) (fun i h1 h2=>by omega)
theorem ZiA {xs:Array Nat}(h:xs.toList.Pairwise (· < ·))(hi:i≤xs.size){s:Nat}(hs:s=if i=0 then 0 else xs.getD (i-1) 0+1):SetTable.below xs s=i:=by
 obtain⟨b1,b2,b3⟩:=Zds h s
 have lt:∀a b,a<b→b<xs.size→xs.getD a 0<xs.getD b 0:=fun a b hab hb=>by
  have:=Qbb.mp h a b (by simpa using QcW hab hb) (by simpa using hb) hab;simp only[QcE] at this;rw[QaB,QaB,Qas (QcW hab hb),Qas hb];exact this
 rcases Qeu (SetTable.below xs s) i with z|z|z
 ·exfalso;have i0:i≠0:=by omega
  rw[if_neg i0] at hs;have h1:=b3 (i-1) (by omega) (by omega);omega
 ·exact z
 ·exfalso;have h1:=b2 i z;by_cases i0:i=0
  ·rw[if_pos i0] at hs;omega
  ·rw[if_neg i0] at hs;have h2:=lt (i-1) i (by omega) (by omega);omega
theorem Znf {t:SetTable}(h:TB t led)(he:t.slot j= .empty):TB (t.put j).1 led:=by
 have hd:SetTable.has t.dummies j=false:=by rw[h.dum];rfl
 refine⟨h.led,?_,?_⟩
 ·show(if SetTable.has t.dummies j=true then _ else t.dummies)= #[];rw[hd];exact h.dum
 ·show(SetTable.insertAt t.place (SetTable.below t.place j) j).toList.Pairwise (· < ·);rw[Qdi];obtain⟨b1,b2,b3⟩:=Zds h.up j
  have hne:t.place[SetTable.below t.place j]?≠some j:=fun z=>by
   unfold SetTable.slot at he;dsimp only at he;rw[z] at he;simp at he
  rw[Qcn];refine⟨h.up.sublist (List.take_sublist _ _),?_,?_⟩
  ·rw[QbL];refine⟨fun b hb=> ?_,h.up.sublist (List.drop_sublist _ _)⟩;obtain⟨i,hi⟩:=Qay.mp hb;rw[Qbv,Qan] at hi;obtain⟨hlt,hg⟩:=Qa7.mp hi;have h1:=b3 _ (Qck _ i) hlt;rw[QaB,hi] at h1;rcases Qcz h1 with z|z
   ·exact z
   ·exfalso;have z:j=b:=z
    cases i with
    |zero=>exact hne (by rw[←z] at hi;simpa using hi)
    |succ i=>
     have hlt0:SetTable.below t.place j<t.place.size:=by omega
     have h2:=b3 _ (Qak _) hlt0;have h3:=Qbb.mp h.up (SetTable.below t.place j) (SetTable.below t.place j+(i+1)) (by simpa using hlt0) (by simpa using hlt) (by omega);simp only[QcE] at h3;rw[QaB,Qas hlt0] at h2;have h2:j≤t.place[SetTable.below t.place j]:=h2;omega
  ·intro a ha b hb
   have haj:a<j:=by
    obtain⟨i,hi⟩:=Qay.mp ha;rw[QbC] at hi;split at hi
    ·rename_i hir;rw[Qan] at hi
     have:=b2 i hir;rw[QaB,hi] at this;exact this
    ·cases hi
   rcases Qaz.mp hb with rfl|hb
   ·exact haj
   ·obtain⟨i,hi⟩:=Qay.mp hb;rw[Qbv,Qan] at hi;obtain⟨hlt,hg⟩:=Qa7.mp hi;have h1:=b3 _ (Qck _ i) hlt;rw[QaB,hi] at h1;exact QaT haj h1
theorem ZlS {t:SetTable}(hd:t.dummies= #[]){f:Nat→Int}{h:Int}:∀(qk:Nat) (p:SetTable.Probe),p.dummy=none→∀{j:Nat} {d:Option Nat},SetTable.probe.go t f h qk p=some (.empty j d)→t.slot j= .empty∧d=none:=by
 have nd:∀j,t.slot j≠ .dummy:=fun j z=>by
  unfold SetTable.slot at z;dsimp only at z;rw[hd] at z;split at z
  ·cases z
  ·have e:SetTable.has #[] j=false:=rfl;rw[e] at z;cases z
 intro qk
 induction qk with
 |zero=>intro p _ j d e;unfold SetTable.probe.go at e;cases e
 |succ qk ih=>
  intro p hp j d e;unfold SetTable.probe.go at e
  cases hs:t.slot p.j with
  |empty=>rw[hs] at e;cases e;exact⟨hs,hp⟩
  |dummy=>exact absurd hs (nd _)
  |live i=>
   rw[hs] at e;dsimp only at e;split at e
   ·cases e
   ·refine ih _ ?_ e;unfold SetTable.advance;split<;>exact hp
theorem ZiB {t:SetTable}(hd:t.dummies= #[]){h:Int}{wd:Bool}(e:t.freeSlot h=some (slot,wd)):t.slot slot= .empty:=by
 unfold SetTable.freeSlot at e
 cases hp:t.probe (fun _=>h+1) h (t.probeStart h) with
 |none=>rw[hp] at e;cases e
 |some m=>
  cases m with
  |empty j d=>
   rw[hp] at e;obtain⟨h1,h2⟩:=ZlS hd _ _ rfl hp;subst h2;cases e;exact h1
  |candidate a b c=>rw[hp] at e;cases e
theorem Zcs {t:SetTable}(h:t.led=led)(n:Nat):TB (t.standIn n) led:=by
 refine⟨h,rfl,?_⟩;show(Array.range n).toList.Pairwise (· < ·);rw[Array.toList_range];exact List.pairwise_lt_range
theorem ZjH {t:SetTable}(h:TB t led)(es:Array (Int×Value))(hh:Int)(x:Value):TB (layNew t es hh x).2.1 led:=by
 unfold layNew;split
 ·rename_i slot wd e;have p:=Znf h (ZiB h.dum e);dsimp only;unfold SetTable.orStandIn;split
  ·exact p
  ·exact Zcs p.led _
 ·exact Zcs h.led _
theorem Zct {α β:Type}(f:α→Option β):∀l:List α,((l.filterMap fun j=>(f j).map (j,·)).map (·.1))=l.filter fun j=>(f j).isSome
 | []=>rfl
 |a::l=>by
  cases h:f a with
  |none=>simp[h,Zct f l]
  |some b=>simp[h,Zct f l]
theorem ZgC {t:SetTable}(h:TB t led)(es:Array (Int×Value))(wanted:Nat):TB (relayAll t es wanted).2.1 led:=by
 unfold relayAll;split
 ·rename_i t' order e;dsimp only;split
  ·unfold SetTable.relaid SetTable.laid at e;simp only[Option.bind_eq_bind,Option.bind_eq_some_iff,Option.pure_def,Option.some.injEq,Prod.mk.injEq] at e;obtain⟨owner,_,e1,_⟩:=e;subst e1;refine⟨h.led,rfl,?_⟩;show((((List.range _).filterMap fun j=>(owner.getD j none).map (j,·)).map (·.1)).toArray).toList.Pairwise (· < ·);rw[Zct (fun j=>owner.getD j none)];exact List.pairwise_lt_range.sublist List.filter_sublist
  ·exact Zcs h.led _
 ·exact Zcs h.led _
def Zc3 (prog:Program)(w:World)(h:Heap)(a:Addr)(ns:List Int):Prop:=
 ∃o es ep t,h.get? a=some o∧o.ExactSet∧o.data= .set es ep t∧ElemsOf (intKind prog w) es.toList∧(∃ms,IntsAre (es.toList.map (·.2)) ms∧ms.Perm ns)∧es.size<scanBound∧t.fits es.size=true∧TB t (!w.params.followText "set-order")
theorem Zc3.size {prog:Program}{w:World}{o:Obj}{es:Array (Int×Value)}{ns:List Int}(h:∃ms,IntsAre (es.toList.map (·.2)) ms∧ms.Perm ns):es.size=ns.length:=by
 obtain⟨ms,h1,h2⟩:=h
 have:=h1.length;rw[Qac,Qal] at this;rw[this,h2.length_eq]
theorem ZdN:∀{us:List Value} {ms:List Int},IntsAre us ms→∀k:Int,k∈ms↔∃u∈us,u.isInt k=true
 |_,_,.nil,k=>by simp
 |_,_,.cons n t h,k=>by
  have ih:=ZdN h k;constructor
  ·intro hk;rcases Qaz.mp hk with rfl|hk
   ·exact⟨_,Qai,by simp[Value.isInt]⟩
   ·obtain⟨u,hu,e⟩:=ih.mp hk;exact⟨u,Qao _ hu,e⟩
  ·rintro⟨u,hu,e⟩;rcases Qaz.mp hu with rfl|hu
   ·simp[Value.isInt] at e;rw[e];exact Qai
   ·exact Qao _ (ih.mpr ⟨u,hu,e⟩)
theorem Zcj:∀{us vs:List Value},us.Perm vs→∀{ms:List Int},IntsAre vs ms→∃ms',IntsAre us ms'∧ms'.Perm ms:=by
 intro us vs p
 induction p with
 |nil=>intro ms h;exact⟨ms,h,.refl _⟩
 |cons x _ ih=>
  intro ms h
  cases h with
  |cons n t h=>obtain⟨m,h1,h2⟩:=ih h;exact⟨_,.cons n t h1,h2.cons n⟩
 |swap x y l=>
  intro ms h
  cases h with
  |cons n t h=>cases h with|cons n' t' h=>exact⟨_,.cons n' t' (.cons n t h),.swap ..⟩
 |trans _ _ ih1 ih2=>
  intro ms h;obtain⟨m2,h3,h4⟩:=ih2 h;obtain⟨m1,h1,h2⟩:=ih1 h3;exact⟨m1,h1,h2.trans h4⟩
theorem ZcB:∀{us vs:List Value} {ms ns:List Int},IntsAre us ms→IntsAre vs ns→IntsAre (us++vs) (ms++ns)
 |_,_,_,_,.nil,h=>h
 |_,_,_,_,.cons n t h,k=> .cons n t (ZcB h k)
theorem ZcR {es:Array (Int×Value)}{t:SetTable}(ho:h.get? a=some o)(hd:o.data= .set es ep t)(es':Array (Int×Value))(t':SetTable):
  (h.update a (Obj.putSet es' t')).get? a=some {o with data:=.set es' (ep+1) t' }:=by
 have z:=QbN (Obj.putSet es' t') ho (by rw[putSet_of es' t' hd];rfl);rw[putSet_of es' t' hd] at z;exact z
theorem ZjI {g:Bool→Sem Unit}(hg:∀(b:Bool) (s1:Shared) (R:Unit→Shared→Prop),R () s1→wpAny (model prog w) A (g b) R E s1){es:Array (Int×Value)}{t:SetTable}
  (ho:s.heap.get? a=some o) (hx:o.ExactSet) (hd:o.data= .set es ep t) {es1:Array (Int×Value)} {t2:SetTable} {ns:List Int} (he:ElemsOf (intKind prog w) es1.toList) (hi:∃ms,IntsAre (es1.toList.map (·.2)) ms∧ms.Perm ns)
  (hb:es1.size<scanBound) (hf:t2.fits es1.size=true) (tb:TB t2 (!w.params.followText "set-order")) {wd:Bool} {R:Option Bool→Shared→Prop} (h:∀h',Heap.SameBut a s.heap h'→Zc3 prog w h' a ns→R (some true) {s with heap:=h' }):
  wpAny (model prog w) A (do
    storeSet a es1 t2
    if(!wd && t2.tooFull)=true then do
      g (relayAll t2 es1 (SetTable.grown es1.size)).2.2
      storeSet a (relayAll t2 es1 (SetTable.grown es1.size)).1 (relayAll t2 es1 (SetTable.grown es1.size)).2.1
      pure (some true)
     else pure (some true)) R E s:=by
 refine Qaa (Qdz ho hd ?_ (QdA hb));have o1:=ZcR ho hd es1 t2;have b1:=Qb0 s.heap a (Obj.putSet es1 t2);split
 ·have q1:=relayAll_perm t2 es1 (SetTable.grown es1.size);have q2:=relayAll_fits t2 es1 (SetTable.grown es1.size);have q3:=ZgC tb es1 (SetTable.grown es1.size);generalize relayAll t2 es1 (SetTable.grown es1.size)=Z at q1 q2 q3⊢;obtain⟨es2,t3,gv⟩:=Z;dsimp only at q1 q2 q3⊢;have sz:es2.size=es1.size:=by rw[←Qal,q1.length_eq,Qal]
  refine Qaa (hg _ _ _ (Qaa (Qdz o1 rfl (Qae (h _ (b1.trans (Qb0 _ a _)) ?_)) (QdA (by rw[sz];exact hb)))));obtain⟨ms,i1,i2⟩:=hi;obtain⟨ms',i3,i4⟩:=Zcj (q1.map (·.2)) i1;exact⟨_,es2,_,t3,ZcR o1 rfl es2 t3,hx,rfl,he.perm q1,⟨ms',i3,i4.trans i2⟩,by rw[sz];exact hb,q2,q3⟩
 ·exact Qae (h _ b1 ⟨_,es1,_,t2,o1,hx,rfl,he,hi,hb,hf,tb⟩)
theorem ZlT {t:SetTable}(h:TB t led):TB {t with plain:=false } led:=⟨h.led,h.dum,h.up⟩
theorem ZhM {k:Int}{Q:Bool→Shared→Prop}(hS:Zc3 prog w s.heap a ns)(hroom:ns.length+1<scanBound)
  (h:∀h',Heap.SameBut a s.heap h'→Zc3 prog w h' a (if k∈ns then ns else ns++ [k])→Q (!decide (k∈ns)) {s with heap:=h' }):wpAny (model prog w) A (setAddHashed a (.int k tk) ((intKind prog w).hash k)) Q E s:=by
 have hkey:=Qdj prog w k tk;have hsc:(Value.int k tk).scannable=true:=rfl;obtain⟨o,es,ep,t,ho,hx,hd,he,hi,hb,hf,tb⟩:=id hS;have hn:=Zc3.size (prog:=prog) (w:=w) (o:=o) hi
 have hmem:k∈ns↔∃e∈es.toList,(intKind prog w).is k e.2=true:=by
  obtain⟨ms,i1,i2⟩:=hi;rw[←i2.mem_iff,ZdN i1 k];constructor
  ·rintro⟨u,hu,e⟩;obtain⟨z,hz,rfl⟩:=QaS.mp hu;exact⟨z,hz,e⟩
  ·rintro⟨z,hz,e⟩;exact⟨z.2,QaS.mpr ⟨z,hz,rfl⟩,e⟩
 unfold setAddHashed setAddHashedIn;refine Qbd (Qaa (QbI ho hd hf ?_));dsimp only;rw[byScan_of hsc hb he];simp only[↓reduceIte];unfold setAddByScan;refine Qaa (Qaa (QbQ (Qaa (wpAny_setScan_of hkey ho hd hf he ?_))))
 cases hr:List.findIdx? (fun e=>(intKind prog w).is k e.2) es.toList with
 |some j=>
  dsimp only;obtain⟨hj,hpj,_⟩:=List.findIdx?_eq_some_iff_getElem.mp hr;have hk:k∈ns:=hmem.mpr ⟨es.toList[j],QbG hj,hpj⟩;refine Qae (Qae ?_);have z:=h s.heap (Qet a s.heap) (by rw[if_pos hk];exact hS);rw[QaK hk] at z;exact z
 |none=>
  dsimp only
  have hk:¬k∈ns:=fun hk=>by
   obtain⟨e,hee,hp⟩:=hmem.mp hk;have z:=List.findIdx?_eq_none_iff.mp hr e hee;rw[hp] at z;exact Bool.noConfusion z
  have hgw:∀(b:Bool) {s1:Shared} {R:Unit→Shared→Prop},R () s1→wpAny (model prog w) A (match b with|true=>rule "set.scan.the-table-gave-way" |false=>pure ()) R E s1:=
   fun b s1 R hq=>by cases b<;>first|exact Qae hq|exact QbQ hq
  have q1:=layNew_perm t es ((intKind prog w).hash k) (.int k tk);have q2:=layNew_fits t es ((intKind prog w).hash k) (.int k tk);have q3:=ZjH tb es ((intKind prog w).hash k) (.int k tk);generalize layNew t es ((intKind prog w).hash k) (.int k tk)=Z at q1 q2 q3⊢;obtain⟨es1,t1,wd,gv⟩:=Z;dsimp only at q1 q2 q3⊢;rw[Qcb] at q1;have he1:ElemsOf (intKind prog w) es1.toList:=(he.push hkey hsc).perm q1;have sz:es1.size=es.size+1:=by rw[←Qal,q1.length_eq,Qag,Qal];rfl
  have hb1:es1.size<scanBound:=by rw[sz,hn];exact hroom
  have hi1:∃ms,IntsAre (es1.toList.map (·.2)) ms∧ms.Perm (ns++ [k]):=by
   obtain⟨ms,i1,i2⟩:=hi
   have i5:IntsAre ((es.toList++ [((intKind prog w).hash k,Value.int k tk)]).map (·.2)) (ms++ [k]):=by
    rw[QaG];exact ZcB i1 (.cons k tk .nil)
   obtain⟨ms',i3,i4⟩:=Zcj (q1.map (·.2)) i5;exact⟨ms',i3,i4.trans (i2.append_right _)⟩
  refine Qaa (hgw _ ?_)
  have fin:∀h',Heap.SameBut a s.heap h'→Zc3 prog w h' a (ns++ [k])→Q true {s with heap:=h' }:=fun h' sb j=>by
   have z:=h h' sb (by rw[if_neg hk];exact j);rw[QaC hk] at z;exact z
  split
  ·refine Qaa ?_;rw[hashByValue_scannable 8 hsc];refine Qae (ZjI ?_ ho hx hd he1 hi1 hb1 ?_ ?_ ?_)
   ·intro b s1 R hq;cases b<;>first|exact Qae hq|exact QbQ hq
   ·split
    ·exact q2
    ·exact SetTable.fits_plain_off q2
   ·split
    ·exact q3
    ·exact ZlT q3
   ·intro h' sb j;dsimp only;exact Qae (fin h' sb j)
  ·refine Qaa (Qae ?_);simp only[↓reduceIte];refine ZjI ?_ ho hx hd he1 hi1 hb1 q2 q3 ?_
   ·intro b s1 R hq;cases b<;>first|exact Qae hq|exact QbQ hq
   ·intro h' sb j;dsimp only;exact Qae (fin h' sb j)
def ZbA (acc:List Int)(k:Int):List Int:=if k∈acc then acc else acc++ [k]
def dd (ns:List Int):List Int:=ns.foldl ZbA []
theorem ZgD (ns:List Int)(k:Int):dd (ns++ [k])=ZbA (dd ns) k:=by unfold dd;rw[Qc1];rfl
theorem ZcS:∀ns:List Int,(dd ns).length≤ns.length:=by
 have:∀(ns acc:List Int),(ns.foldl ZbA acc).length≤acc.length+ns.length:=by
  intro ns
  induction ns with
  |nil=>intro acc;exact Qak _
  |cons k ns ih=>
   intro acc;have h:=ih (ZbA acc k);have h2:(ZbA acc k).length≤acc.length+1:=by unfold ZbA;split<;>simp
   show(ns.foldl ZbA (ZbA acc k)).length≤acc.length+(ns.length+1);omega
 intro ns
 have:=this ns [];unfold dd;simpa using this
theorem Zng (ns:List Int)(k:Int):k∈dd ns↔k∈ns:=by
 have:∀(ns acc:List Int),k∈ns.foldl ZbA acc↔k∈acc∨k∈ns:=by
  intro ns
  induction ns with
  |nil=>intro acc;simp
  |cons j ns ih=>
   intro acc;show k∈ns.foldl ZbA (ZbA acc j)↔_;rw[ih];unfold ZbA;split
   ·rename_i h;constructor
    ·rintro(z|z)
     ·exact .inl z
     ·exact .inr (Qao _ z)
    ·rintro(z|z)
     ·exact .inl z
     ·rcases Qaz.mp z with rfl|z
      ·exact .inl h
      ·exact .inr z
   ·simp[or_assoc]
 have:=this ns [];unfold dd;simpa using this
theorem ZlU (ns:List Int):(dd ns).Nodup:=by
 have:∀(ns acc:List Int),acc.Nodup→(ns.foldl ZbA acc).Nodup:=by
  intro ns
  induction ns with
  |nil=>intro acc h;exact h
  |cons j ns ih=>
   intro acc h;refine ih _ ?_;unfold ZbA;split
   ·exact h
   ·rename_i hj;rw[Qcc];exact⟨h,by simp,fun a ha b hb z=>hj (by rw[←Qaj.mp hb,←z];exact ha)⟩
 exact this ns [] QdC
theorem Zc3.keep (x:Zc3 prog w h a ns)(k:∀o,h.get? a=some o→h'.get? a=some o):Zc3 prog w h' a ns:=by
 obtain⟨o,es,ep,t,ho,r⟩:=x;exact⟨o,es,ep,t,k o ho,r⟩
section
variable {J:Addr}{fp wr:List Addr}{G:Array GenState→Array GenState→Prop}{P:Nat→Value→Prop}{St:Nat→Shared→Prop}
theorem ZlV (Wk:WalksS prog w A.in1 J fp wr G n P St)(S:Addr)(hS:S∉fp)(ns:List Int)(hns:ns.length=n)(hv:∀i v,P i v→∃t,v= .int (ns.getD i 0) t)(hb:n+1<scanBound):
  ∀(c i:Nat) (s:Shared),n-i=c→i≤n→St i s→Zc3 prog w s.heap S (dd (ns.take i))→(∀s',Moved (S::wr) G s s'→Zc3 prog w s'.heap S (dd ns)→R (.ok (.ret .none)) s')→
   codeAny (model prog w) A (.builtin "set.update.loop" ⟨[.ref S,.ref J],[]⟩) R s:=by
 have nw:S∉wr:=fun h=>hS (Wk.sub _ h);have sub:∀b∈wr,b∈S::wr:=fun b hb=>Qao _ hb;intro c
 induction c with
 |zero=>
  intro i s hc hi st hj hR;have e:i=n:=by omega
  subst e;refine QbH QbY ?_;rw[Qbo Qbi _];show wpAny _ A.in1 (pyNext (.ref J)>>=_) _ _ s;refine Qaa (Wk.done s _ _ st fun s' hm=> ?_);show wpAny _ A.in1 (ret Value.none) _ _ s';rw[←hns,Qa6] at hj;exact Qae (hR s' (hm.mono sub) (hj.keep fun o ho=>hm.heap S _ nw ho))
 |succ c ih=>
  intro i s hc hi st hj hR;have lt:i<n:=by omega
  refine QbH QbY ?_;rw[Qbo Qbi _];show wpAny _ A.in1 (pyNext (.ref J)>>=_) _ _ s;refine Qaa (Wk.item i s _ _ lt st fun v s' hP st' hm=> ?_);obtain⟨t,rfl⟩:=hv i v hP;have hj':Zc3 prog w s'.heap S (dd (ns.take i)):=hj.keep fun o ho=>hm.heap S _ nw ho;have hlen:(dd (ns.take i)).length≤i:=QaE (ZcS _) (by rw[QaR];omega);have gi:ns[i]?=some (ns.getD i 0):=by rw[QaA,Qab (by omega)];rfl
  show wpAny _ A.in1 (holding [Value.int (ns.getD i 0) t] (setAdd S (.int (ns.getD i 0) t))>>=_) _ _ s';refine Qaa (Qbd ?_);unfold setAdd;refine Qbd (Qaa ((intKind prog w).pyHash (k:=ns.getD i 0) (Qdj _ _ _ _) ?_));refine ZhM (s:={s' with toks:=s'.toks+1 }) hj' (by omega) fun h2 sb j2=> ?_
  have j3:Zc3 prog w h2 S (dd (ns.take (i+1))):=by
   rw[Zaq gi,ZgD];exact j2
  refine Qae ⟨QcA Qbi _,ih (i+1) _ (by omega) lt (Wk.frame _ s' _ _ st' (Qdy _) fun b hb o e=> ?_) j3 fun s3 hm3 hj3=> ?_⟩
  ·rw[sb.2 b (fun z:b=S=>hS (by rw[←z];exact hb))];exact e
  ·refine hR s3 (Moved.trans Wk.gtrans ((hm.mono sub).then_heap (Qdy _) fun b o hb e=> ?_) hm3) hj3;rw[sb.2 b (fun z:b=S=>hb (by rw[z];exact Qai))];exact e
end
theorem ZfM (a:Value){Q1:Value→Shared→Prop}(h:Q1 (.ref s.heap.objs.size) {s with heap:=s.heap.push {cls:=.type "set",dict:=none,data:=.set #[] 0 (.fresh 0 0 (!w.params.followText "set-order")) } }):
  codeAny (model prog w) A (.call (.builtin "set.__new__") ⟨[.type "set",a],[]⟩) (wants Q1 E) s:=by
 refine Qdo ?_;show wpAny _ A.in1 (do checkBuiltinCall "set.__new__" ⟨[.type "set",a],[]⟩;again (.builtin "set.__new__" ⟨[.type "set",a],[]⟩)) _ _ s;refine Qaa (QeE (PySem.F.newCall_set_1 a) (Qae ⟨QcA Qe2 _,QbH PySem.F.entry_set_new ?_⟩));rw[Qbo Qe2 _];unfold Builtin.«set.__new__» Builtin.Frozenset.newClass;have hsub:=sub_set_self;obtain⟨hp,g,d,tk,os⟩:=s;dsimp only
 wp_walk
 refine Qcl (Qae ?_);dsimp only;simp only[newObj];exact Qaa (wpAny_alloc (Qae (Qae h)))
theorem ZjJ (ho:h.get? a=some {cls:=.type "set",dict:=none,data:=.set #[] 0 (.fresh 0 0 (!w.params.followText "set-order")) }):Zc3 prog w h a []:=
 ⟨_,#[],0,_,ho,⟨rfl,rfl,rfl⟩,rfl,fun e he=>by simp at he,⟨[],.nil,.refl _⟩,by decide,by rfl,⟨rfl,rfl,Qcs⟩⟩
theorem ZdO {its:Array Value}(hh:A.handled=none)(hl:s.heap.IsList l its)(hi:IntsAre its.toList ns)(hb:its.size+1<scanBound)
  (h:∀(h':Heap) (tk:Nat),Zc3 prog w h' s.heap.objs.size (dd ns)→(∀b o,b<s.heap.objs.size→s.heap.get? b=some o→h'.get? b=some o)→Q (.ref s.heap.objs.size) {s with heap:=h',toks:=tk }):
  wpAny (model prog w) A (call (.type "set") [.ref l]) Q E s:=by
 obtain⟨c,tl,hmro⟩:=PySem.F.called_set.mro;have hmade:=PySem.F.called_set.made;have hsub:=PySem.F.called_set.sub;refine wpAny_call (Qdo ?_);show wpAny _ _ (callAny (.type "set") _) _ _ _;refine Qae ⟨Code.quiet_builtin _ (by decide +kernel),QbH QeF ?_⟩;rw[Around.under_plain (Qe3 "set" [.ref l] []) rfl];have x1:=PySem.F.called_set.notType;have x2:=PySem.F.called_set.canCreate;have x3:=QeU (.ref l)
 repeat (any_goals (first|assumption|wp_step))
 refine QcT (ZfM (.ref l) (E:=E) (Q1:=fun ob s1=>ob= .ref s.heap.objs.size∧s1={s with heap:=s.heap.push {cls:=.type "set",dict:=none,data:=.set #[] 0 (.fresh 0 0 (!w.params.followText "set-order")) } }) ⟨rfl,rfl⟩) fun r s1 hr=> ?_
 cases r with
 |error e=>exact hr
 |ok fl=>
  cases fl with
  |ret ob=>
   obtain⟨rfl,rfl⟩:=hr;generalize hled:(!w.params.followText "set-order")=led;have hS:(s.heap.push {cls:=.type "set",dict:=none,data:=.set #[] 0 (.fresh 0 0 led) }).get? s.heap.objs.size=some {cls:=.type "set",dict:=none,data:=.set #[] 0 (.fresh 0 0 led) }:=Qaw _ rfl;have hT:Shared.TypeIs {s with heap:=s.heap.push {cls:=.type "set",dict:=none,data:=.set #[] 0 (.fresh 0 0 led) } } (.ref s.heap.objs.size) "set" :=⟨_,hS,rfl⟩;have y1:=PySem.F.called_set.init.lookup;have y2:=PySem.F.called_set.init.bind (.ref s.heap.objs.size)
   repeat (any_goals (first|assumption|wp_step))
   refine QcT (codeAny_call_builtin (R:=wants (fun r s2=>r= .none∧∃h' tk,s2={s with heap:=h',toks:=tk }∧Zc3 prog w h' s.heap.objs.size (dd ns)∧(∀b o,b<s.heap.objs.size→s.heap.get? b=some o→h'.get? b=some o)) E)
    PySem.F.called_set.init.plain QeV (check_set_init_1 hT ?_)) fun r2 s2 hr2=> ?_
   ·obtain⟨ol,hol,hcl,nl,hdl⟩:=hl;obtain⟨ocls,odict,odata,oslots⟩:=ol;simp only at hcl hdl;subst hcl;subst hdl;have hol':(s.heap.push {cls:=.type "set",dict:=none,data:=.set #[] 0 (.fresh 0 0 led) }).get? l=some {cls:=.type "list",dict:=odict,data:=.seq its nl,slots:=oslots }:=Qad _ hol;have v1:=PySem.F.sub_list_set;have v2:=Qd7;have v3:(Value.type "list" ==Value.type "dict")=false:=by decide
    have hl1:(s.heap.push {cls:=.type "set",dict:=none,data:=.set #[] 0 (.fresh 0 0 led) }).IsList l its:=⟨_,hol',rfl,nl,rfl⟩;unfold Builtin.«set.__init__» noKeywords Builtin.Frozenset.updateFrom;generalize hPI:pyIter=PI
    wp_walk
    subst hPI;refine Qc0 (l:=l) hl1 ?_;refine Qaa (m:=runValue _) (Qej ?_);have ll:l<s.heap.objs.size:=Qar hol;have h3:A.in1.in1.in1.handled=none:=by simp[hh]
    have n1:l≠(s.heap.push {cls:=.type "set",dict:=none,data:=.set #[] 0 (.fresh 0 0 led) }).objs.size:=by rw[QaY];exact QaJ (Qbs ll)
    have n2:s.heap.objs.size∉ [(s.heap.push {cls:=.type "set",dict:=none,data:=.set #[] 0 (.fresh 0 0 led) }).objs.size,l]:=by
     rw[QaY];simp only[Qaz,Qaj,Qbg,QcJ,not_or];exact⟨QaJ (QcN _),Qbc ll⟩
    have hln:ns.length=its.size:=by rw[←hi.length,Qal]
    refine ZlV ((QfC h3 _ l n1 its).toS) s.heap.objs.size n2 ns hln (fun i v hv=>IntsAre.int_at hi i v (by rw[Qan];exact hv)) hb (its.size-0) 0 _ (by omega) (QaU _) ⟨⟨_,Qaw _ rfl,rfl,rfl⟩,(hl1.push _)⟩ ?_ ?_
    ·exact ZjJ (by rw[hled];exact Qad _ hS)
    ·intro s' hm hj;obtain⟨h',g',d',tk',os'⟩:=s';have eg:g'=s.gens:=hm.gens;have ed:d'=s.drawn:=hm.drawn;have eo:os'=s.os:=hm.os;subst eg;subst ed;subst eo;show wpAny _ _ _ _ _ _;refine Qae ?_;show wpAny _ _ (ret Value.none) _ _ _;refine Qae ⟨rfl,h',tk',rfl,hj,fun b o hb e=> ?_⟩;have b1:b≠s.heap.objs.size:=QaJ hb;have b2:b≠(s.heap.push {cls:=.type "set",dict:=none,data:=.set #[] 0 (.fresh 0 0 led) }).objs.size:=by rw[QaY];exact QaJ (Qbs hb)
     exact hm.heap b o (by simp only[Qaz,Qaj,Qbg,QcJ,not_or];exact⟨b1,b2⟩) (Qad _ (Qad _ e))
   ·cases r2 with
    |error e=>exact hr2
    |ok f2=>
     cases f2 with
     |ret r=>
      obtain⟨rfl,h',tk,rfl,hj,hk⟩:=hr2
      repeat (any_goals (first|assumption|wp_step))
      exact h _ _ hj hk
     |_=>exact hr2.elim
  |_=>exact hr.elim
theorem ZfN:Manifest.owners.lookup (String.ofList ['r','o','t','a','r','e','t','i','_','t','e','s'].reverse)=some Manifest.sig_set_iterator:=by kernel_rfl
theorem ZcT:Slot "set_iterator" "__next__" "set_iterator.__next__" := .of (owner:= "set_iterator") (n:= "__next__") (by rw[typeLookup_type,Qe4];kernel_rfl) (by decide +kernel) (by decide +kernel) (by decide +kernel) (by first|exact .inl (by decide +kernel)|exact .inr (by decide +kernel)) (by rw[Qfn];kernel_rfl)
theorem ZjK:entryFor table "set_iterator.__next__" =some Builtin.«set_iterator.__next__»:=entryFor_of_tree (by kernel_rfl)
theorem ZlW (a:Value):argsOk "set_iterator.__next__" ⟨[a],[]⟩:=by
 unfold argsOk;rw[signature?_of (id:= "set_iterator.__next__") (n:=['_','_','t','x','e','n','_','_']) (o:=['r','o','t','a','r','e','t','i','_','t','e','s']) (by kernel_rfl) ZfN]
 kernel_rfl
theorem ZhN:Slot "set_iterator" "__iter__" "set_iterator.__iter__" := .of (owner:= "set_iterator") (n:= "__iter__") (by rw[typeLookup_type,Qe4];kernel_rfl) (by decide +kernel) (by decide +kernel) (by decide +kernel) (by first|exact .inl (by decide +kernel)|exact .inr (by decide +kernel)) (by rw[Qfn];kernel_rfl)
theorem ZjL (a:Value):argsOk "set_iterator.__iter__" ⟨[a],[]⟩:=by
 unfold argsOk;rw[signature?_of (id:= "set_iterator.__iter__") (n:=['_','_','r','e','t','i','_','_']) (o:=['r','o','t','a','r','e','t','i','_','t','e','s']) (by kernel_rfl) ZfN]
 kernel_rfl
theorem ZiC:entryFor table "set_iterator.__iter__" =some Builtin.«dict_keyiterator.__iter__» :=
 entryFor_alias (id':= "dict_keyiterator.__iter__") (by kernel_rfl) (by first|rfl|decide +kernel|(unfold String.splitOn;simp +decide [String.splitOnAux])) (by decide +kernel) (by kernel_rfl)
theorem ZjM:entryFor table "set.__iter__" =some Builtin.«frozenset.__iter__»:=entryFor_alias (id':= "frozenset.__iter__") (by kernel_rfl) rfl (by decide +kernel) (by kernel_rfl)
theorem Zc4 {α:Type}:∀{l:List α} {i:Nat} (hi:i<l.length),(l[i]::l.eraseIdx i).Perm l
 | [],i,hi=>by simp at hi
 |a::l,0,hi=> .refl _
 |a::l,i+1,hi=>by
  have hi':i<l.length:=by simpa using hi
  have:=Zc4 hi';show(l[i]::a::l.eraseIdx i).Perm (a::l);exact(List.Perm.swap ..).trans (this.cons a)
theorem ZiD {src:Source}{Q:Nat→Shared→Prop}(hn:n≠0)(h:∀i d',i<n→Q i {s with drawn:=d' }):wpAny (model prog w) A (choose src n) Q E s:=fun Γ p _=>by
 show Sem.wp _ _ (.choose src n .pure) _ _ _ _;rw[Sem.wp];refine⟨hn,?_⟩;rw[Sem.wp];exact h _ _ (QdV _ (by omega))
theorem ZcC {α:Type}:∀(n:Nat) (xs:List α) (s:Shared) {Q:List α→Shared→Prop},xs.length=n→(∀ys d',ys.Perm xs→Q ys {s with drawn:=d' })→wpAny (model prog w) A (drawOrder n xs) Q E s
 |0,xs,s,Q,hl,h=>by
  have:xs=[]:=Qcm hl;subst this;unfold drawOrder;exact Qae (h [] s.drawn (.refl _))
 |n+1,[],s,Q,hl,h=>by simp at hl
 |n+1,x::xs,s,Q,hl,h=>by
  unfold drawOrder;refine Qaa (ZiD (by simp) fun i d' hi=> ?_);have e:(x::xs)[i]?=some (x::xs)[i]:=Qab hi;rw[e];dsimp only;refine Qaa (ZcC n _ _ (by rw[Qd8 hi];omega) fun ys d2 hp=>Qae (h _ d2 ?_));have hq:((x::xs)[i]::(x::xs).eraseIdx i).Perm (x::xs):=(Zc4 hi);exact(hp.cons _).trans hq
theorem ZjN {α:Type}(next:Nat→Nat):∀(qk k:Nat) (left:List α) (out:Array α),left.length=qk→(pickOrder.go next qk k left out).toList.Perm (out.toList++left)
 |0,k,left,out,h=>by
  have:left=[]:=Qcm h;subst this;unfold pickOrder.go;simp
 |qk+1,k,left,out,h=>by
  unfold pickOrder.go;have hi:next k%left.length<left.length:=QdV _ (by omega);rw[Qab hi];dsimp only;refine(ZjN next qk (k+1) _ _ (by rw[Qd8 hi];omega)).trans ?_;rw[Qcb,QaP];exact(Zc4 hi).append_left _
theorem ZjO {α:Type}(next:Nat→Nat)(xs:Array α):(pickOrder next xs).toList.Perm xs.toList:=by
 unfold pickOrder
 have:=ZjN next xs.size 0 xs.toList #[] (by simp);simpa using this
def Zoc (S:Addr)(first:Value)(i n ep:Nat):Obj:={cls:=.type "set_iterator",data:=.fields #[first,rawInt i,.ref S,rawInt n,rawInt ep] }
structure ZiE (w:World)(S:Addr)(es:Array (Int×Value))(ep:Nat)(t:SetTable)(T:Addr) where
 ord:List Value
 first:Nat→Value
 tup:Option (Array Value)
 perm:ord.Perm (es.toList.map (·.2))
 how:(w.params.followText "set-order" =true∧tup=none∧(∀i,first i=rawInt 0)∧ord=(pickOrder (w.params.setOrder S ep) es).toList.map (·.2))∨
  (w.params.followText "set-order" =false∧(!t.plain && decide (es.size>1))=false∧tup=none∧(∀i,first i=rawInt ((if i=0 then 0 else t.place.getD (i-1) 0+1:Nat):Int))∧ord=es.toList.map (·.2))∨
  (w.params.followText "set-order" =false∧∃ps:List Nat,tup=some (ps.map fun(i:Nat)=>rawInt i).toArray∧ps.Perm (List.range es.size)∧(∀i,first i= .ref T)∧ord=ps.filterMap fun i=>(es[i]?).map (·.2))
def StI (S I T:Addr)(o:Obj)(n ep:Nat)(first:Nat→Value)(tup:Option (Array Value))(i:Nat)(h:Heap):Prop:=
 h.get? S=some o∧h.get? I=some (Zoc S (first i) i n ep)∧∀ps,tup=some ps→h.get? T=some {cls:=.type "tuple",data:=.seq ps }
section
variable {es:Array (Int×Value)}{t:SetTable}
theorem ZjP {given:Nat}{Q:Option (Value×Nat)→Shared→Prop}(O:ZiE w S es ep t T)(hnt:O.tup=none)(ho:s.heap.get? S=some o)(hd:o.data= .set es ep t)(hf:t.fits es.size=true)(tb:TB t (!w.params.followText "set-order"))
  (hsl:O.first given=rawInt slot) (hg:given≤es.size)
  (h:∀x,O.ord[given]?=some x→∀nx:Nat,O.first (given+1)=rawInt nx→Q (some (x,nx)) s) (h2:O.ord[given]?=none→Q none s):wpAny (model prog w) A (setNext S slot given ep) Q E s:=by
 unfold setNext;refine Qaa (QbI ho hd hf ?_);dsimp only;unfold setsByText;refine Qaa (Qaa (Qcl (Qae ?_)));show wpAny _ _ (if w.params.followText "set-order" =true then _ else _) _ _ _;rcases O.how with⟨bt,_,hfi,hor⟩|⟨bt,dr,_,hfi,hor⟩|⟨bt,ps,ht,_⟩
 ·rw[if_pos bt,if_neg (by simp)]
  have e0:slot=0:=by
   have:=hfi given;rw[hsl] at this;simp[rawInt] at this;omega
  subst e0;refine Qaa ?_;unfold setWalk;refine Qaa (QbI ho hd hf ?_);dsimp only;unfold setsByText;refine Qaa (Qaa (Qcl (Qae ?_)));show wpAny _ _ (if w.params.followText "set-order" =true then _ else _) _ _ _;rw[if_pos bt];refine Qaa (Qcl (Qae (Qae ?_)));show Q (Option.map (fun e=>(e.snd,0)) (pickOrder (w.params.setOrder S ep) es)[given]?) s;have eo:O.ord[given]?=Option.map (·.2) (pickOrder (w.params.setOrder S ep) es)[given]?:=by rw[hor,Qam,Qan]
  cases hp:(pickOrder (w.params.setOrder S ep) es)[given]? with
  |none=>rw[hp] at eo;exact h2 eo
  |some x=>rw[hp] at eo;exact h _ eo 0 (hfi _)
 ·rw[if_neg (by rw[bt];decide)];show wpAny _ _ (if(!t.plain && decide (es.size>1))=true then _ else _) _ _ _;rw[if_neg (by rw[dr];decide)];have hled:t.led=true:=by rw[tb.led,bt];rfl
  refine Qaa ?_;show wpAny _ _ (if(!t.led && !es.isEmpty)=true then _ else _) _ _ _;rw[if_neg (by rw[hled];simp)];refine Qae (Qae ?_)
  have psz:t.place.size=es.size:=by
   unfold SetTable.fits at hf;simp at hf;exact hf.1
  have hs2:slot=if given=0 then 0 else t.place.getD (given-1) 0+1:=by
   have z:=hfi given;rw[hsl] at z;exact Int.ofNat.inj (Value.int.inj z).1
  have hbl:SetTable.below t.place slot=given:=ZiA tb.up (by omega) hs2;rw[hbl];have eo:O.ord[given]?=Option.map (·.2) es[given]?:=by rw[hor,Qam,Qan]
  by_cases hlt:given<es.size
  ·rw[Qas hlt] at eo⊢;rw[Qas (by omega:given<t.place.size)];refine h _ eo _ ?_;rw[hfi];simp only[Nat.add_one_sub_one,Nat.add_eq_zero_iff,Nat.one_ne_zero,and_false,Qcj];rw[QaB,Qas (by omega:given<t.place.size)];rfl
  ·rw[Qdu (by omega)] at eo⊢;exact h2 eo
 ·rw[hnt] at ht;cases ht
theorem ZjQ {α:Type}{R:α→Shared→Prop}{Ex:Value→Shared→Prop}(hh:A.handled=none)(h:∀e h',(∀b ob,s.heap.get? b=some ob→h'.get? b=some ob)→(∃ob,h'.get? e=some ob∧ob.cls= .type "StopIteration")→Ex (.ref e) {s with heap:=h' }):
  wpAny (model prog w) A (newExc (.type "StopIteration") []>>=fun e=>(raiseNew e:Sem α)) R Ex s:=by
 refine Qaa ?_;simp only[newExc,newTuple];refine Qaa (Qbr ?_ (by size_fits));refine Qaa (m:=firstArgMember _ _) (QeE (a:=Value.none) (by first|rfl|(simp only[firstArgMember];rfl)) ?_);refine Qbr ?_ (by size_fits);simp only[raiseNew];refine Qaa (wpAny_handled ?_);rw[hh];exact Qaa (Qae (wpAny_throw (h _ _ (fun b ob z=>Qad _ (Qad _ z)) ⟨_,Qaw _ rfl,rfl⟩)))
theorem Znh (O:ZiE w S es ep t T)(hIS:I≠S)(hIT:I≠T)(hh:A.handled=none)(hd:o.data= .set es ep t)(hf:t.fits es.size=true)(tb:TB t (!w.params.followText "set-order"))(hi:i≤es.size)
  (st:StI S I T o es.size ep O.first O.tup i s.heap) {Q:Option Value→Shared→Prop}
  (h:∀x h',O.ord[i]?=some x→StI S I T o es.size ep O.first O.tup (i+1) h'→(∀b ob,b≠I→s.heap.get? b=some ob→h'.get? b=some ob)→Q (some x) {s with heap:=h' })
  (h2:∀h',O.ord[i]?=none→(∀b ob,b≠I→s.heap.get? b=some ob→h'.get? b=some ob)→Q none {s with heap:=h' }):wpAny (model prog w) A (pyNext (.ref I)) Q E s:=by
 obtain⟨ho,hit,htp⟩:=st;have hT:s.TypeIs (.ref I) "set_iterator" :=⟨_,hit,rfl⟩;unfold pyNext;refine Qaa (Qdp (QbR (name:=Str.ofString "__next__") hT ZcT (Qbj ZcT hT ZjK ?_ (ZlW _))));unfold Builtin.«set_iterator.__next__»;refine Qaa (QeE (a:=(Value.ref I,[])) rfl ?_)
 try dsimp only
 refine Qaa (Qfo hit rfl ?_);show wpAny _ _ (setEntries S>>=_) _ _ _;refine Qaa (wpAny_setEntries_of ho hd hf ?_);show wpAny _ _ (if(((es.size:Nat):Int) !=((es.size:Nat):Int))=true then _ else _) _ _ _;rw[if_neg (by simp)]
 cases hfst:O.tup with
 |none=>
  have hcase:∃slot:Nat,O.first i=rawInt slot:=by
   rcases O.how with⟨_,_,hfi,_⟩|⟨_,_,_,hfi,_⟩|⟨_,ps,ht,_⟩
   ·exact⟨0,hfi i⟩
   ·exact⟨_,hfi i⟩
   ·rw[hfst] at ht;cases ht
  obtain⟨slot,hsl⟩:=hcase;rw[hsl] at hit⊢;show wpAny _ _ (setNext S slot i ep>>=_) _ _ _;refine Qaa (ZjP O hfst ho hd hf tb hsl hi (fun x hx nx hnx=> ?_) (fun hx=> ?_))
  ·show wpAny _ _ (setField (Value.ref I) 0 (rawInt nx)>>=fun _=>setField (Value.ref I) 1 (rawInt ((i:Int)+1))>>=fun _=>ret x) _ _ _;refine Qaa (Qa0 hit (by simp) fun h1 e1 b1=>Qaa (Qa0 (s:={s with heap:=h1 }) e1 (by simp) fun h3 e3 b3=>Qae ⟨_,rfl,Qae ?_⟩));have kp:∀b ob,b≠I→s.heap.get? b=some ob→h3.get? b=some ob:=fun b ob hb z=>b3.extBut b ob hb (b1.extBut b ob hb z);refine h x h3 hx ⟨kp S _ (Ne.symm hIS) ho,?_,fun ps hp=>by rw[hfst] at hp;cases hp⟩ kp;rw[e3,hnx];simp[Zoc]
  ·show wpAny _ _ (setField (Value.ref I) 2 Value.none>>=fun _=>newExc (Value.type "StopIteration") []>>=fun e=>raiseNew e) _ _ _;refine Qaa (Qa0 hit (by simp) fun h1 e1 b1=>ZjQ (s:={s with heap:=h1 }) hh fun e h3 kp ⟨ob,hob,hc⟩=> ?_);refine Qaa (Qda (T:= "StopIteration") (b:=true) ⟨ob,hob,hc⟩ Qek (Qae ?_));exact h2 h3 hx fun b ob hb z=>kp b ob (b1.extBut b ob hb z)
 |some ps=>
  have hcase:O.first i= .ref T:=by
   rcases O.how with⟨_,ht,_⟩|⟨_,_,ht,_⟩|⟨_,qs,ht,_,hfi,_⟩
   ·rw[hfst] at ht;cases ht
   ·rw[hfst] at ht;cases ht
   ·exact hfi i
  rw[hcase] at hit⊢;have hTo:=htp ps hfst
  obtain⟨qs,eps,hqp,hfi,hor⟩:∃qs:List Nat,ps=(qs.map fun(i:Nat)=>rawInt i).toArray∧qs.Perm (List.range es.size)∧(∀i,O.first i= .ref T)∧O.ord=qs.filterMap fun i=>(es[i]?).map (·.2):=by
   rcases O.how with⟨_,ht,_⟩|⟨_,_,ht,_⟩|⟨_,qs,ht,h3,h4,h5⟩
   ·rw[hfst] at ht;cases ht
   ·rw[hfst] at ht;cases ht
   ·rw[hfst] at ht;cases ht;exact⟨qs,rfl,h3,h4,h5⟩
  have qin:∀q∈qs,q<es.size:=fun q hq=>Qa1.mp (hqp.mem_iff.mp hq)
  have ogt:∀n:Nat,O.ord[n]?=(qs[n]?).bind fun q=>(es[q]?).map (·.2):=by
   rw[hor];clear hor eps hqp hTo hfst
   induction qs with
   |nil=>intro n;simp
   |cons q qs ih=>
    intro n;have hq:=qin q Qai;rw[Qev (b:=es[q].2) (by rw[Qas hq];rfl)]
    cases n with
    |zero=>simp[Qas hq]
    |succ n=>simpa using ih (fun z hz=>qin z (Qao _ hz)) n
  show wpAny _ _ (seqItems? (Value.ref T)>>=_) _ _ _;refine Qaa (Qb6 hTo rfl ?_);have epi:ps[((i:Nat):Int).toNat]?=(qs[i]?).map fun(q:Nat)=>rawInt q:=by rw[eps];simp
  show wpAny _ _ (match ps[((i:Nat):Int).toNat]? with|some (Value.int place tok)=>_|some val=>_|none=>_) _ _ _;rw[epi]
  cases hqi:qs[i]? with
  |some q=>
   have hql:=qin q (Qap hqi);show wpAny _ _ (setNextDrawn S q ep>>=fun x=>setField (Value.ref I) 1 (rawInt ((i:Int)+1))>>=fun _=>ret x) _ _ _;refine Qaa ?_;unfold setNextDrawn;refine Qaa (QbI ho hd hf ?_);dsimp only;rw[if_neg (by simp)];refine Qaa (Qae ?_);rw[Qas hql];refine Qae ?_;show wpAny _ _ (setField (Value.ref I) 1 (rawInt ((i:Int)+1))>>=fun _=>ret es[q].2) _ _ _;refine Qaa (Qa0 hit (by simp) fun h3 e3 b3=>Qae ⟨_,rfl,Qae ?_⟩);refine h _ h3 (by rw[ogt,hqi];simp[Qas hql]) ⟨b3.extBut S _ (Ne.symm hIS) ho,?_,fun qs' hp=>b3.extBut T _ (Ne.symm hIT) (htp qs' hp)⟩ fun b ob hb z=>b3.extBut b ob hb z;rw[e3,hfi];simp[Zoc]
  |none=>
   show wpAny _ _ (setField (Value.ref I) 0 (rawInt 0)>>=fun _=>setField (Value.ref I) 2 Value.none>>=fun _=>newExc (Value.type "StopIteration") []>>=fun e=>raiseNew e) _ _ _;refine Qaa (Qa0 hit (by simp) fun h0 e0 b0=>Qaa (Qa0 (s:={s with heap:=h0 }) e0 (by simp) fun h1 e1 b1=>ZjQ (s:={s with heap:=h1 }) hh fun e h3 kp ⟨ob,hob,hc⟩=> ?_));refine Qaa (Qda (T:= "StopIteration") (b:=true) ⟨ob,hob,hc⟩ Qek (Qae ?_));exact h2 h3 (by rw[ogt,hqi];rfl) fun b ob hb z=>kp b ob (b1.extBut b ob hb (b0.extBut b ob hb z))
theorem ZdP (O:ZiE w S es ep t T):O.ord.length=es.size:=by rw[O.perm.length_eq];simp
theorem Zod (O:ZiE w S es ep t T)(hIS:I≠S)(hIT:I≠T)(hh:A.handled=none)(hd:o.data= .set es ep t)(hf:t.fits es.size=true)(tb:TB t (!w.params.followText "set-order")):
  Walks prog w A I [I,S,T] [I] es.size (fun i v=>O.ord[i]?=some v) (fun i h=>i≤es.size∧StI S I T o es.size ep O.first O.tup i h) where
 sub:=fun b hb=>by rw[Qaj.mp hb];simp
 frame:=fun i h h' x k=>⟨x.1,k S (by simp) _ x.2.1,k I (by simp) _ x.2.2.1,fun ps hp=>k T (by simp) _ (x.2.2.2 ps hp)⟩
 item:=fun i s Q E hi x hQ=>Znh O hIS hIT hh hd hf tb x.1 x.2 (fun v h' hv st kp=>hQ v h' s.toks hv ⟨hi,st⟩ fun b ob hb z=>kp b ob (by simpa using hb) z) (fun h' hn _=>by
  rw[Qbh,ZdP O] at hn
  omega)
 done:=fun s Q E x hQ=>Znh O hIS hIT hh hd hf tb x.1 x.2 (fun v h' hv _ _=>by
  have:=(Qaf.mp hv).1
  rw[ZdP O] at this
  omega) (fun h' _ kp=>hQ h' s.toks fun b ob hb z=>kp b ob (by simpa using hb) z)
 self:=fun i s Q E x hQ=>by
  have hT:s.TypeIs (.ref I) "set_iterator" :=⟨_,x.2.2.1,rfl⟩;refine Qew hT ZhN (Qbj ZhN hT ZiC ?_ (ZjL _));show wpAny _ _ (ret (.ref I)) _ _ s;exact Qae ⟨_,rfl, "set_iterator",_,hT,ZcT.lookup,hQ⟩
end
section
variable {es:Array (Int×Value)}{t:SetTable}
theorem ZpJ (ho:s.heap.get? S=some o)(hx:o.ExactSet)(hd:o.data= .set es ep t)(hf:t.fits es.size=true)(hb:es.size<scanBound)
  (h:∀(T I:Addr) (O:ZiE w S es ep t T) h' d',I≠S→I≠T→s.heap.objs.size≤I→(T=S∨s.heap.objs.size≤T)→StI S I T o es.size ep O.first O.tup 0 h'→(∀b ob,s.heap.get? b=some ob→h'.get? b=some ob)→Q (.ref I) {s with heap:=h',drawn:=d' }):
  wpAny (model prog w) A (pyIter (.ref S)) Q E s:=by
 have hT:s.TypeIs (.ref S) "set" :=⟨o,ho,hx.1⟩;have hSl:S<s.heap.objs.size:=Qar ho;refine Qew hT Qe5 (Qbj Qe5 hT ZjM ?_ (PySem.F.args_set_iter_1 _));unfold Builtin.«frozenset.__iter__» Builtin.Frozenset.slot0 slotArgs;simp only[List.isEmpty_nil,Qfw,Qa3,↓reduceIte,bind_assoc,QbM,Qex];unfold Builtin.Frozenset.addrOf Builtin.Frozenset.sizeOf;refine Qaa (Qae ?_)
 try dsimp only
 refine Qaa (Qae ?_);refine Qaa (Qaa (wpAny_setEntries_of ho hd hf (Qae ?_)));unfold setDrawn;refine Qaa (Qaa (QbI ho hd hf ?_));dsimp only;unfold setsByText;refine Qaa (Qaa (Qcl (Qae (Qae ?_))));show wpAny _ _ (if(!w.params.followText "set-order" && (!t.plain && decide (es.size>1)))=true then _ else _) _ _ _
 have easy:∀(O:ZiE w S es ep t S),O.tup=none→O.first 0=rawInt 0→wpAny (model prog w) A.in1 (do
   let first←pure (rawInt 0)
   let e←setEpoch S
   let z←newFields "set_iterator" [first,rawInt 0,Value.ref S,rawInt es.size,rawInt e]
   ret z) (fun fin s'=>∃v,fin=Fin.done (Flow.ret v)∧∃T' r,s'.TypeIs v T'∧typeLookup (Value.type T') (Str.ofString "__next__")=pure (some r)∧Q v s') E s:=fun O ht hf0=>by
  refine Qaa (Qae (Qaa (wpAny_setEpoch_of ho hd hf ?_)));unfold newFields;refine Qaa (Qbr (Qae ⟨_,rfl, "set_iterator",_,⟨_,Qaw _ rfl,rfl⟩,ZcT.lookup,?_⟩));refine h S _ O _ s.drawn (Qbc hSl) (Qbc hSl) (Qak _) (.inl rfl) ⟨Qad _ ho,?_,fun ps hp=>by rw[ht] at hp;cases hp⟩ (fun b ob z=>Qad _ z);rw[hf0];exact Qaw _ rfl
 cases bt:w.params.followText "set-order" with
 |true=>
  rw[if_neg (by simp)];exact easy ⟨_,fun _=>rawInt 0,none,(ZjO _ es).map _,.inl ⟨bt,rfl,fun _=>rfl,rfl⟩⟩ rfl rfl
 |false=>
  cases dr:(!t.plain && decide (es.size>1)) with
  |false=>
   rw[if_neg (by simp)];exact easy ⟨_,fun i=>rawInt ((if i=0 then 0 else t.place.getD (i-1) 0+1:Nat):Int),none,.refl _,.inr (.inl ⟨bt,dr,rfl,fun _=>rfl,rfl⟩)⟩ rfl rfl
  |true=>
   rw[if_pos (by simp)];refine Qaa (ZcC es.size _ s (by simp) fun ps d' hp=> ?_);refine Qaa (QdD (Qaa (wpAny_setEpoch_of (Qad _ ho) hd hf ?_)) (hsz:=by rw[Qac,hp.length_eq,QbB];exact QdA hb));unfold newFields;refine Qaa (Qbr (Qae ⟨_,rfl, "set_iterator",_,⟨_,Qaw _ rfl,rfl⟩,ZcT.lookup,?_⟩))
   have hpm:(ps.filterMap fun i=>(es[i]?).map (·.2)).Perm (es.toList.map (·.2)):=by
    have e1:=hp.filterMap fun i=>(es[i]?).map (·.2)
    have e2:(List.range es.size).filterMap (fun i=>(es[i]?).map (·.2))=es.toList.map (·.2):=by
     rw[←List.map_filterMap,filterMap_getElem?_range]
    rw[e2] at e1;exact e1
   refine h s.heap.objs.size _ ⟨_,fun _=> .ref s.heap.objs.size,some (ps.map fun(i:Nat)=>rawInt i).toArray,hpm,.inr (.inr ⟨bt,ps,rfl,hp,fun _=>rfl,rfl⟩)⟩ _ d' ?_ ?_ ?_ (.inr (Qak _)) ⟨Qad _ (Qad _ ho),Qaw _ rfl,fun qs hq=> ?_⟩ (fun b ob z=>Qad _ (Qad _ z))
   ·rw[QaY];exact Qbc (Qbs hSl)
   ·rw[QaY];exact Qbc (QcN _)
   ·rw[QaY];exact Qdy _
   ·cases hq;exact Qad _ (Qaw _ rfl)
theorem ZdQ {R:List Value→Shared→Prop}(hh:A.handled=none)(ho:s.heap.get? S=some o)(hx:o.ExactSet)(hd:o.data= .set es ep t)(hf:t.fits es.size=true)(hb:es.size<scanBound)(tb:TB t (!w.params.followText "set-order"))
  (hR:∀(vs:List Value) (h':Heap) (tk:Nat) (d':Drawn),vs.Perm (es.toList.map (·.2))→(∀b ob,s.heap.get? b=some ob→h'.get? b=some ob)→R vs {s with heap:=h',toks:=tk,drawn:=d' }):wpAny (model prog w) A (collect (.ref S)) R E s:=by
 have hSl:S<s.heap.objs.size:=Qar ho;unfold collect;refine Qaa (Qej (QbH QdZ ?_));rw[Qbo Qd0 _];show wpAny _ A.in1 (newList []>>=fun q=>again (.builtin "list.__iadd__" ⟨[q,.ref S],[]⟩)) _ _ s;refine Qaa (Qbr (Qae ⟨QcA QcK _,QbH QeG ?_⟩));rw[Qbo QcK _];have g2:(s.heap.push {cls:=.type "list",data:=.seq ([]:List Value).toArray }).get? s.heap.objs.size=some {cls:=.type "list",data:=.seq ([]:List Value).toArray }:=Qaw _ rfl;have ho1:(s.heap.push {cls:=.type "list",data:=.seq ([]:List Value).toArray }).get? S=some o:=Qad _ ho;have g3:Builtin.List.listSameRef (.ref s.heap.objs.size) (.ref S)=false:=by simp[Builtin.List.listSameRef,Qbc hSl]
 show wpAny _ A.in1 (Builtin.List.listExtendWith (.ref s.heap.objs.size) (.ref S) (.ref s.heap.objs.size)) _ _ _;unfold Builtin.List.listExtendWith;refine Qaa (QdF (T:= "set") ⟨o,ho1,hx.1⟩ ?_);rw[if_neg (by rw[g3];decide)];refine Qaa (ZpJ ho1 hx hd hf hb fun T I O h1 d1 hIS hIT hIs hTs st kp=> ?_);refine Qaa (Qbd ?_);unfold Builtin.List.listLengthHint;refine Qaa (Qe6 (T:= "set") ⟨o,kp _ _ ho1,hx.1⟩ PySem.F.slot_set_len.lookup ?_);generalize hid:("set.__len__" :String)=id0
 wp_delta
 rw[show splitId id0=some ("set", "__len__") from by subst hid;decide +kernel];subst hid;refine Qaa (Qda (T:= "set") (b:=true) ⟨o,kp _ _ ho1,hx.1⟩ (by rw[Qfn];kernel_rfl) ?_);refine Qd1 (fun z=>absurd z (by decide)) (fun _=> ?_);refine Qd1 (fun _=> ?_) (fun z=>absurd (by decide +kernel) z);refine Qaa (QdF (T:= "set") ⟨o,kp _ _ ho1,hx.1⟩ (Qae ?_));refine Qd1 (fun _=> ?_) (fun z=>absurd (by decide +kernel) z);refine Qaa (QbQ (Qaa ?_));have hIs':s.heap.objs.size<I:=by rw[QaY] at hIs;exact hIs
 have hI0:I≠s.heap.objs.size:=Qbc hIs'
 have hT0:T≠s.heap.objs.size:=by
  rcases hTs with z|z
  ·rw[z];exact QaJ hSl
  ·rw[QaY] at z;exact Qbc z
 have hS0:S≠s.heap.objs.size:=QaJ hSl;have gl:=kp _ _ g2;show wpAny _ _ (updateSeq s.heap.objs.size (·.push .none)>>=fun _=>updateSeq s.heap.objs.size (·.pop)) _ _ _;refine Qaa (Qdq gl rfl ?_);have gl2:=QbN (Obj.mapSeq (·.push Value.none)) gl rfl;refine Qdq (hz:=by seq_fits) gl2 rfl ?_;have gl3:=QbN (Obj.mapSeq (·.pop)) gl2 rfl
 have oth:∀b ob,b≠s.heap.objs.size→h1.get? b=some ob→((h1.update s.heap.objs.size (Obj.mapSeq (·.push Value.none))).update s.heap.objs.size (Obj.mapSeq (·.pop))).get? b=some ob:=fun b ob hb z=>
  (QbW _ _ (Ne.symm hb)).trans ((QbW _ _ (Ne.symm hb)).trans z)
 have Wk:=(Zod (prog:=prog) (A:=A.in1) O hIS hIT hh hd hf tb).toS
 refine Qae ⟨QcA QbZ _,codeAny_extend_loopS Wk (QdA hb) s.heap.objs.size (by simp[Ne.symm hI0,Ne.symm hT0,Ne.symm hS0]) _ es.size 0 _ #[] _ rfl (QaU _)
  ⟨QaU _,oth _ _ hS0 st.1,oth _ _ hI0 st.2.1,fun ps hp=>oth _ _ hT0 (st.2.2 ps hp)⟩ gl3 (ItemsOf.nil _) fun s' acc' c' hm hS' hacc=> ?_⟩
 show wpAny _ A (load s.heap.objs.size>>=_) _ _ s';refine Qaa (wpAny_load hS' (Qae ?_))
 have ea:acc'.toList=O.ord:=by
  apply Qcd;intro i;by_cases hi:i<es.size
  ·have hl:i<acc'.size:=by rw[hacc.1];exact hi
   rw[Qan,Qas hl];exact(hacc.2 i _ (Qas hl)).symm
  ·rw[QaW (by rw[Qal,hacc.1];omega),QaW (by rw[ZdP O];omega)]
 rw[ea]
 have:=hR O.ord s'.heap s'.toks s'.drawn O.perm fun b ob z=> ?_
 ·obtain⟨h9,g9,d9,t9,o9⟩:=s';have eg:g9=s.gens:=hm.gens;have eo:o9=s.os:=hm.os;subst eg eo;exact this
 ·have hb0:b<s.heap.objs.size:=Qar z;refine hm.heap b ob ?_ (oth b ob (QaJ hb0) (kp b ob (Qad _ z)));simp only[Qaz,Qbg,QcJ,not_or];exact⟨QaJ hb0,QaJ (QcW hb0 hIs')⟩
theorem Zes (hh:A.handled=none)(hj:Zc3 prog w s.heap S ns)(h64:ns.length<64)
  (h:∀(out:Array Value) (ms:List Int) (h1 h':Heap) (tk:Nat) (d':Drawn) (e:Nat),(∀b ob,s.heap.get? b=some ob→h1.get? b=some ob)→(∀b ob,h1.get? b=some ob→h'.get? b=some ob)→IntsAre out.toList ms→ms.Perm ns→ms.Pairwise (· ≤ ·)→h'.get? h1.objs.size=some (seqObj "list" out e)→Q (.ref h1.objs.size) {s with heap:=h',toks:=tk,drawn:=d' }):
  wpAny (model prog w) A (call (.builtin "sorted") [.ref S]) Q E s:=by
 obtain⟨o,es,ep,t,ho,hx,hd,_,⟨ms0,hi,hp⟩,hb,hf,tb⟩:=hj;refine QcB Qfu Qe7 Qe8 (Qe9 _) ?_;unfold Builtin.«sorted»;refine Qaa (m:=checkCount "sorted" 1 1 _) (Qae (Qaa (ZdQ hh ho hx hd hf hb tb fun vs h1 tk d' hpv kp=> ?_)));obtain⟨ms,hI,hpm⟩:=Zcj hpv hi;have hl:vs.length<64:=by rw[hI.length,hpm.length_eq,hp.length_eq];exact h64
 refine Qaa (QdS ?_);have hoL:(h1.push {cls:=.type "list",data:=.seq vs.toArray }).get? h1.objs.size=some (seqObj "list" vs.toArray 0):=Qaw _ rfl;refine Qaa (Qbd (Qbj Qel ⟨_,hoL,rfl⟩ Qd2 (list_sort_tree (s:={s with heap:=h1.push {cls:=.type "list",data:=.seq vs.toArray },toks:=tk,drawn:=d' }) hoL hI hl fun out ms' a1 a2 a3=>⟨_,rfl,?_⟩) (Qem _)));obtain⟨e,he⟩:=Qfx (out:=out) hoL;refine Qae ⟨_,rfl,h out ms' h1 _ tk d' e kp (fun b ob z=> ?_) a1 ((a2.trans hpm).trans hp) a3 he⟩;have hlt:b<h1.objs.size:=Qar z;rw[Qfp (QaJ hlt) (by rw[QaY];exact Qbs hlt)];exact Qad _ z
end
theorem Inv.keptD {d':Drawn}(I:Inv X qc σ H s)(k:∀b u,s.heap.get? b=some u→h'.get? b=some u):Inv X qc σ H {s with heap:=h',toks:=t',drawn:=d' }:=
 I.step (g':=s.gens) (d':=d') (ch:=[]) (fun _ z=>nomatch z) (fun b o _ _ _ e _=>k b o e) (fun b o _ _ _ e _=>⟨o.slots,k b o e⟩) (fun _ _ _ _ n=>n) (fun b o _ e=>⟨o,k b o e⟩) (fun _ _ e=>e) (fun _ _ _ e=>e) (fun b ps e=>⟨#[],by rw[e];simp⟩)
  (fun m hm=>by obtain⟨o,es,ep,ho,r⟩:=hm;exact⟨o,es,ep,k _ o ho,r⟩) (I.hok.kept k) I.bare
theorem ZeU:bootBuiltins "set" =some (.type "set"):=by decide +kernel
theorem Zck:bootBuiltins "sorted" =some (.builtin "sorted"):=by decide +kernel
theorem ZfO {a:Expr}{ta:TE}{p2 pos:PySem.Pos}(hc:X.calm=true)(ha:PE X a ta)(hg:Gl X "sorted")(hm:X.mg "sorted" =none)(hg2:Gl X "set")(hm2:X.mg "set" =none)(hsa:starEach [a] X.env=[(false,eval a X.env)]:=by rfl):
  PE X (.Call (.Name "sorted" p) [.Call (.Name "set" p2) [a] [] qv] [] pos) (fun σ H Q=>ta σ H fun x H1=>∃(l:Addr) (ns:List Int),x= .ref l∧SqL X.K H1 l (ns.map V.int)∧ns.length<64∧
   ∀(q:Addr) (ms:List Int),H1 q=none→ms.Perm (dd ns)→ms.Pairwise (· ≤ ·)→Q (.ref q) (upd H1 q (.lst (ms.map V.int)))):=by
 intro qc s σ H Q I h;refine Qbu (ZbS I hg hm Zck ?_);refine QbU (rest:=[]) ?_ rfl rfl;show wpAny _ _ (spliced ((false,eval (.Call (.Name "set" p2) [a] [] qv) X.env):: [])) _ _ s;refine QbK (Qbu (ZbS I hg2 hm2 ZeU ?_));refine Qbk (rest:=[]) ?_ hsa rfl;rw[hsa];show wpAny _ _ (spliced ((false,eval a X.env):: [])) _ _ s;refine QbK (thn (ha qc s σ H _ I h) fun u s1 ⟨y,H1,I1,r1,l,ns,ey,hq,h64,q⟩=>Qb3 ?_);subst ey;cases r1;obtain⟨its,r,pl,hz⟩:=I1.list hq;have hi:=ZbV r;have hln:its.length=ns.length:=hi.length;refine ZdO (I1.ok.hd hc) pl.isList (by simpa using hi) (by simp[hln,scanBound];omega) fun h2 tk hj hk=>Qb3 ?_;have I2:Inv X qc σ H1 {s1 with heap:=h2,toks:=tk }:=I1.kept fun b ob z=>hk b ob (Qar z) z;refine Zes (s:={s1 with heap:=h2,toks:=tk }) (I1.ok.hd hc) hj (QaN (ZcS ns) h64) fun out ms h3 h4 tk4 d4 e kp3 kp4 hI hp hs he=> ?_;have I3:Inv X qc σ H1 {s1 with heap:=h3,toks:=tk,drawn:=d4 }:=I2.keptD kp3;have hml:ms.length≤63:=by rw[hp.length_eq];have:=ZcS ns;omega
 refine⟨.ref h3.objs.size,_,I3.laid (t':=tk4) (o:=.lst (ms.map V.int)) kp4 (Qak _) ⟨?_,out.toList,e,Zch hI,?_⟩,rfl,q _ ms (I3.hok.fresh (Qak _)) hp hs⟩
 ·rw[Qac];exact Qcx (ZbJ (by omega))
 ·rw[he]
theorem ZeV (elt target qe:Expr)(ifs:List Expr)(scope:Scope)(pos:PySem.Pos)(it acc:Value)(env:Env):
  compTurn (.SetComp elt [⟨target,qe,ifs,0⟩] scope pos) 0 it acc env=(do
   standAt qe.pos
   match←pyNext it with
   |none=>pure (.done .next)
   |some v=>
    letOwnedTupleGo target it v
    assign target env v
    let mut ok:=true
    for c in ifs do
     if ok then ok←isTrue c env (eval c env)
    if ok then(do let v←eval elt env;standAt elt.pos;let _←call (.builtin "set.add") [acc,v])
    again (.compLoop (.SetComp elt [⟨target,qe,ifs,0⟩] scope pos) 0 it acc env)):=by rfl
theorem Zef {elt target qe ifs rest scope pos it acc env}(h0:codeAny (model prog w) A (.compLoop (.SetComp elt (⟨target,qe,ifs,0⟩::rest) scope pos) 0 it acc env) R s)
  (h:wpAny (model prog w) A (pyIter it) (fun j s'=>codeAny (model prog w) A (.compLoop (.SetComp elt (⟨target,qe,ifs,0⟩::rest) scope pos) 0 j acc env) R s') (notedBy (model prog w) A env fun x s'=>R (.error x) s') s):
  codeAny (model prog w) A (.compStart (.SetComp elt (⟨target,qe,ifs,0⟩::rest) scope pos) 0 it acc env) R s:=by
 refine Qdo ?_;show wpAny _ _ ((compStart (.SetComp elt (⟨target,qe,ifs,0⟩::rest) scope pos) 0 it acc env).onRaise (fun x=>do noteFrame x env;standAt theWindowsPlace)) _ _ s;refine wpAny_notedAt ?_;unfold compStart;show wpAny _ _ (ask>>=_) _ _ s;refine Qaa (Qcl (wpAny_ite ?_));split
 ·first
   |exact Qaa (Qae (Qae (Qfy rfl h0)))
   |exact Qae (Qfy rfl h0)
 ·first
   |exact Qaa (QbQ (Qaa (Qb7 (Qaa (QaZ h (fun j s' q=>Qae (Qfy rfl q)) fun _ _ x=>x)))))
   |exact QbQ (Qaa (Qb7 (Qaa (QaZ h (fun j s' q=>Qae (Qfy rfl q)) fun _ _ x=>x))))
   |exact Qaa (Qae (Qaa (QbQ (Qaa (Qb7 (Qaa (QaZ h (fun j s' q=>Qae (Qfy rfl q)) fun _ _ x=>x)))))))
theorem ZjR {k:Int}(hS:Zc3 prog w s.heap a ns)(hroom:ns.length+1<scanBound)
  (h:∀h' tk',Heap.SameBut a s.heap h'→Zc3 prog w h' a (ZbA ns k)→Q .none {s with heap:=h',toks:=tk' }):wpAny (model prog w) A (call (.builtin "set.add") [.ref a,.int k tk]) Q E s:=by
 have hT:s.TypeIs (.ref a) "set" :=by obtain⟨o,_,_,_,ho,hx,_⟩:=hS;exact⟨o,ho,hx.1⟩
 refine Qbj PySem.F.slot_set_add hT PySem.F.entry_set_add ?_ (PySem.F.args_set_add_2 _ _);unfold Builtin.«set.add» Builtin.Frozenset.oneOther;simp only[List.isEmpty_nil,bind_assoc];unfold Builtin.Frozenset.addrOf setAdd;refine Qaa (Qae ?_)
 try dsimp only
 refine Qaa (Qae ?_)
 try dsimp only
 refine Qaa (Qbd (Qaa ((intKind prog w).pyHash (k:=k) (Qdj _ _ _ _) ?_)));refine ZhM (s:={s with toks:=s.toks+1 }) hS hroom fun h' sb j=> ?_;show wpAny _ _ (ret Value.none) _ _ _;exact Qae ⟨_,rfl,h h' _ sb j⟩
theorem ZlX (h:Q (.ref s.heap.objs.size) {s with heap:=s.heap.push {cls:=.type "set",dict:=none,data:=.set #[] 0 (.fresh 0 0 (!w.params.followText "set-order")) } }):wpAny (model prog w) A (newSet (.type "set")) Q E s:=by
 unfold newSet setsByText;refine Qaa (Qaa (Qcl (Qae ?_)));dsimp only;simp only[newObj];exact Qaa (wpAny_alloc (Qae h))
theorem ZgE {pos:PySem.Pos}{it:Value}(hE:EE=notedBy (model prog w) A env fun e s'=>R (.error e) s')(I:Nat→Shared→Prop)
  (turn:∀n s,I n s→wpAny (model prog w) A (pyNext it) (fun r z1=>match r with
   |none=>R (.ok .next) z1
   |some v=>wpAny (model prog w) A (letOwnedTupleGo tg it v) (fun _ y1=>wpAny (model prog w) A (assign tg env v) (fun _ z2=>
     wpAny (model prog w) A (forIn ifs true fun c r=>if r=true then do let ok←isTrue c env (eval c env);pure (ForInStep.yield ok) else pure (ForInStep.yield r)) (fun ok z3=>
      if ok=true then wpAny (model prog w) A (eval elt env) (fun x z4=>wpAny (model prog w) A (call (.builtin "set.add") [acc,x]) (fun _ z5=>∃m,m<n∧I m z5) EE z4) EE z3 else∃m,m<n∧I m z3) EE z2) EE y1) EE z1) EE s)
  (n:Nat) (h:I n s):codeAny (model prog w) A (.compLoop (.SetComp elt [⟨tg,qe,ifs,0⟩] scope pos) 0 it acc env) R s:=by
 subst hE;refine Qe1 rfl I (fun n s hI=> ?_) n h;show wpAny _ A ((compTurn (.SetComp elt [⟨tg,qe,ifs,0⟩] scope pos) 0 it acc env).onRaise (fun x=>do noteFrame x env;theTreesLotGoes x)) _ _ s;refine Qft ?_;rw[ZeV];refine Qaa (Qb7 (Qaa (QaZ (turn n s hI) (fun r z1 q1=> ?_) fun _ _ z=>z)))
 cases r with
 |none=>exact Qae q1
 |some v=>
  refine Qaa (QaZ q1 (fun _ y1 q1=> ?_) fun _ _ z=>z);refine Qaa (QaZ q1 (fun _ z2 q2=>Qaa (QaZ q2 (fun ok z3 q3=> ?_) fun _ _ z=>z)) fun _ _ z=>z)
  cases ok with
  |false=>exact Qae ⟨rfl,q3⟩
  |true=>exact Qaa (Qaa (QaZ q3 (fun x z4 q4=>Qaa (Qb7 (Qaa (QaZ q4 (fun _ z5 q5=>Qae (Qae ⟨rfl,q5⟩)) fun _ _ z=>z)))) fun _ _ z=>z))
def Zrd (k:Nat)(J:It)(g:TG)(tt:TT)(te:TE)(QS:List Int→Hp→Prop)(σ:St)(H1:Hp):Prop:=∃W:Nat→Nat→List Int→Hp→Prop,(∃m,W 0 m [] H1)∧∀i m ns H,W i m ns H→
 (J.stop i H∧ns.length<64∧QS ns H)∨(J.go i H∧ns.length<64∧∃N:List Int→Hp→Prop,(∀zs H',N zs H'→∃m',m'<m∧W (i+1) m' zs H')∧∀v H' (pre:St),pre.length=k→J.yld i H v H'→g v (pre++σ) H' fun σ' H2=>(∃pre':St,σ'=pre'++σ∧pre'.length=k)∧tt σ' H2 fun ok H3=>if ok=true then te σ' H3 fun y H4=>∃j,y= .int j∧N (ns++ [j]) H4 else N ns H3)
theorem ZiF {pos:PySem.Pos}
  (hc:X.calm=true) (hi:PI X tg qe wi) (hlen:Nb.length=X.N.length) (hNb:∀p∈Nb.zip X.N,p.1=p.2∨scope.names.lookup p.1=none) (hxN:∀y∈Nb,scope.names.lookup y≠some .local)
  (hg:InB X xs Nb scope fun Y=>PG Y tg g) (ht:InB X xs Nb scope fun Y=>PIf Y ifs tt) (he:InB X xs Nb scope fun Y=>PE Y elt te)
  (qj:∀y∈scope.names,y.2≠ .cell) (qo:scope.kind= .function) (qt:∀y∈scope.names,y.2= .local→scope.names.lookup y.1=some .local)
  (qr:∀y∈scope.names,y.2= .free→X.env.kindOf y.1=some .cell)
  (hs:∀x,foldedSetIterable qe X.env x=pure x) {qv:PySem.Pos} {use:Option (Value→Sem Unit)} {QQ:Value→Shared→Prop} {qc:List (Addr×Obj)} {s:Shared} {σ:St} {H:Hp} {QS:List Int→Hp→Prop} (I:Inv X qc σ H s) (h:wi σ H fun J H1=>Zrd xs.length J g tt te QS σ H1)
  (post:∀(s2 s4:Shared) (H2 H4:Hp) (C D:Addr) (m4:Str→Option Value) (ns:List Int),Inv X qc σ H2 s2→s2.heap.objs.size≤C→s4.heap.Ns C m4→H4 C=none→D≠C→(∀h',Heap.SameBut C s4.heap h'→Inv X qc σ H4 {s4 with heap:=h' })→Zc3 X.prog X.w s4.heap D (dd ns)→ns.length<64→QS ns H4→compPost (model X.prog X.w) X.A X.xe use QQ (.ref D) C (.ok .next) s4):
  wpAny (model X.prog X.w) X.A (comprehension (.SetComp elt [⟨tg,qe,ifs,0⟩] scope pos) scope X.env qv (newSet (.type "set")) false (eval qe X.env) use) QQ X.xe s:=by
 obtain⟨cl,hcl,cl1,cl2⟩:=Zgz (scope:=scope) (env:=X.env) (fun y hy hf=>I.ok.has y.1 (.inl (qr y hy hf)));refine Qdh rfl hs hcl qo qt (thn (hi qc s σ H _ I h) fun v s1 h1=>thn h1 fun itv s2 h2=> ?_);obtain⟨it,fp,tn,J,H2,e,I2,T,st2,f2,W,⟨m0,w0⟩,turn⟩:=h2;subst e;refine ZlX (QdP qj (by intro y hy;simp at hy) (fun h₁ hns₁ hsb₁=> ?_) qo);dsimp only at hns₁ hsb₁⊢;generalize hHp:s2.heap.push {cls:=.type "set",dict:=none,data:=.set #[] 0 (.fresh 0 0 (!X.w.params.followText "set-order")) }=Hp2 at hns₁ hsb₁⊢;have hC:Hp2.objs.size=s2.heap.objs.size+1:=by rw[←hHp,QaY]
 have hDC:s2.heap.objs.size≠Hp2.objs.size:=by rw[hC];exact QaJ (QcN _)
 have below:∀b,b<s2.heap.objs.size→b≠Hp2.objs.size∧b≠s2.heap.objs.size:=fun b hb=>⟨by rw[hC];exact QaJ (Qbs hb),QaJ hb⟩;have old:∀b o,s2.heap.get? b=some o→h₁.get? b=some o:=fun b o e=>hsb₁.extBut b o (below b (Qar e)).1 (Qad _ (hHp ▸ Qad _ e));have hacc:Zc3 X.prog X.w h₁ s2.heap.objs.size (dd []):=ZjJ (hsb₁.extBut _ _ hDC (Qad _ (hHp ▸ Qaw _ rfl)));generalize hY:cxC X xs Nb scope cl Hp2.objs.size s2 H2 fp=Y;have Yprog:Y.prog=X.prog:=by rw[←hY];rfl
 have fpLt:∀b∈fp,b<s2.heap.objs.size:=fun b hb=>by
  obtain⟨o,e,_⟩:=T.obj _ _ st2 b hb;exact Qar e
 have cellLt:∀y c,cl.lookup y=some c→c<s2.heap.objs.size:=fun y c hc=>by
  obtain⟨v,q⟩:=I2.cell y c (cl1 y c hc);exact q.lt
 have frSub:∀b∈frs X.stack,b<s2.heap.objs.size:=fun b hb=>by
  rcases Qaz.mp (I2.stkSub b hb) with z|z
  ·rw[z];exact I2.lt
  ·by_cases hlt:b<s2.heap.objs.size
   ·exact hlt
   ·exact absurd z (I2.nofs (QdL hlt))
 have ok:(cxC X xs Nb scope cl Hp2.objs.size s2 H2 fp).Ok:=by
  refine⟨I2.ok.mod,qo,I2.ok.glob,I2.ok.blt,(by show s2.heap.objs.size≤Hp2.objs.size;omega),fun y z c h1 h2=>I2.ok.inj y z c (cl1 y c h1) (cl1 z c h2),fun y hy=> ?_,fun y c hf _=>absurd hf (by intro z;cases z),I2.ok.hd,I2.ok.frames,.inl rfl,fun b hb=>⟨?_,fun y c h1 h2=> ?_⟩,I2.bs,QaE I2.ok.bsz I2.sz,fun b o e hb=> ?_,fun b hb hm=> ?_,I2.stack,I2.stkFree⟩
  ·have hy:(scope.names.map fun(n,k)=>if(k==NameKind.free && X.env.scope.kind== .function && X.env.kindOf n==some .cell) then(n,NameKind.cell) else(n,k)).lookup y=some .cell∨(scope.names.map fun(n,k)=>if(k==NameKind.free && X.env.scope.kind== .function && X.env.kindOf n==some .cell) then(n,NameKind.cell) else(n,k)).lookup y=some .free:=hy
   have q:scope.names.lookup y=some .free:=by
    rcases hy with z|z
    ·exact(ZaQ qj z (.inl rfl)).1
    ·exact(ZaQ qj z (.inr rfl)).1
   exact Qbz.mp (cl2 y (Qa9 q))
  ·exact(below b (fpLt b hb)).1
  ·exact(f2 b hb).2.2.2.2.1 y c (cl1 y c h1) h2
  ·rcases(f2 b hb).2.2.2.1 with z|z
   ·exact I2.ok.noex b o e z
   ·exact absurd (QaT (Qar e) (QaE I2.ok.bsz z)) (Qba _)
  ·rcases Qaz.mp (I2.stkSub b hm) with z|z
   ·exact(f2 b hb).2.1 z
   ·exact(f2 b hb).2.2.1 z
 have fpY:∀{H':Hp} {pl:List (Addr×Obj)},(∀b∈fp,H' b=none)→(∀p∈pl,p.1=s2.heap.objs.size)→∀b∈fp,Zi7 Y pl H' b:=fun{H' pl} hn hp b hb=>by
  rw[←hY];refine⟨hn b hb,(below b (fpLt b hb)).1,fun hm=> ?_,.inl hb,fun y c h1 h2=>(f2 b hb).2.2.2.2.1 y c (cl1 y c h1) h2,fun p hm z=> ?_⟩
  ·rcases Qaz.mp (I2.stkSub b hm) with z|z
   ·exact(f2 b hb).2.1 z
   ·exact(f2 b hb).2.2.1 z
  ·have hm:p∈pl:=hm;rw[hp p hm] at z;exact(below b (fpLt b hb)).2 z.symm
 have HD:H2 s2.heap.objs.size=none:=I2.hok.fresh (Qak _);have HC:H2 Hp2.objs.size=none:=I2.hok.fresh (by omega);obtain⟨m2,hns2,hloc2⟩:=I2.loc
 have IY:∀tk,Inv (cxC X xs Nb scope cl Hp2.objs.size s2 H2 fp) [] (List.replicate xs.length none++σ) H2 {s2 with heap:=h₁,toks:=tk }:=fun tk=>by
  refine⟨ok,rfl,I2.bare,Un.kept old,⟨_,hns₁,fun i y v h1 h2 h3=> ?_⟩,fun y c h1=> ?_,HC,fun y c h1=>I2.freeC y c (cl1 y c h1),fun p hp=>absurd (show p∈([]:List (Addr×Obj)) from hp) (by simp),I2.hok.kept old,(by show(List.replicate xs.length (none:Option V)++σ).length=(xs++Nb).length;rw[Qag,Qag,Qax,hlen,I2.len])⟩
  ·have h1:(xs++Nb)[i]?=some y:=h1;by_cases hik:i<xs.length
   ·rw[QaF (by rw[Qax];exact hik),QbD,if_pos hik] at h2;cases h2
   ·rw[Qav (by omega)] at h1;rw[Qav (by rw[Qax];omega),Qax] at h2;generalize i-xs.length=i at h1 h2;have h3:Vis (relabel scope X.env) y:=h3
    have key:∀k,(k=NameKind.cell∨k=NameKind.free)→(relabel scope X.env).names.lookup y=some k→∃u,ZaY v u∧ZqM (compEnvC scope cl Hp2.objs.size X.env) h₁ (fun x=>([]:List (Str×Value)).reverse.lookup x) y u:=fun k hk hl=>by
     obtain⟨q1,_⟩:=ZaQ qj hl hk;have q2:=qr (y,.free) (Qa9 q1) rfl
     have h1':X.N[i]?=some y:=by
      have hi':i<X.N.length:=by rw[←hlen];exact(Qaf.mp h1).1
      have hz:(Nb.zip X.N)[i]?=some (y,X.N[i]):=by rw[Qc8];exact⟨h1,Qab hi'⟩
      rcases hNb _ (Qap hz) with z|z
      ·have z:y=X.N[i]:=z;rw[z];exact Qab hi'
      ·have z:scope.names.lookup y=none:=z;rw[q1] at z;cases z
     obtain⟨u,r,l⟩:=hloc2 i y v h1' h2 (.inr (.inl q2));refine⟨u,r,.inr ⟨?_,?_⟩⟩
     ·rcases hk with rfl|rfl
      ·exact .inl hl
      ·exact .inr hl
     ·rcases l with⟨k1,_⟩|⟨_,c,e1,z⟩
      ·rw[q2] at k1;cases k1
      ·obtain⟨c',e2⟩:=Qbz.mp (cl2 y (Qa9 q1));have e3:=cl1 y c' e2;rw[e1] at e3;cases e3;obtain⟨o,ho,hd⟩:=z;exact⟨c,e2,o,old c o ho,hd⟩
    rcases h3 with h3|h3|h3
    ·
     exfalso;exact hxN y (Qap h1) (Zb1 h3)
    ·exact key _ (.inl rfl) h3
    ·exact key _ (.inr rfl) h3
  ·obtain⟨v,o,ho,hd⟩:=I2.cell y c (cl1 y c h1);exact⟨v,o,old c o ho,hd⟩
 have noErr:∀{α:Type} {m:Sem α} {G:α→Shared→Prop} {E':Value→Shared→Prop} {s':Shared},wpAny (model X.prog X.w) X.A m G (fun _ _=>False) s'→wpAny (model X.prog X.w) X.A m G E' s':=fun h=>QaZ h (fun _ _ q=>q) fun _ _ q=>q.elim
 have loop:∀(tk:Nat) (R:Result→Shared→Prop),R=compPost (model X.prog X.w) X.A X.xe use QQ (.ref s2.heap.objs.size) Hp2.objs.size→
   codeAny (model X.prog X.w) X.A (.compLoop (.SetComp elt [⟨tg,qe,ifs,0⟩] scope pos) 0 (.ref it) (.ref s2.heap.objs.size) (compEnvC scope cl Hp2.objs.size X.env)) R {s2 with heap:=h₁,toks:=tk }:=by
  rintro tk R rfl
  refine ZgE rfl (fun n s'=>∃i σv H' ys,σv.length=xs.length∧Inv Y [] (σv++σ) H' s'∧tn i s'.heap∧(∀b∈fp,H' b=none)∧Zc3 X.prog X.w s'.heap s2.heap.objs.size (dd ys)∧H' s2.heap.objs.size=none∧W i n ys H') ?_ m0
   ⟨0,List.replicate xs.length none,H2,[],Qax,hY ▸ IY tk,T.keep _ _ _ st2 fun b _ o e=>old b o e,fun b hb=>(f2 b hb).1,hacc,HD,w0⟩
  rintro n s3 ⟨i,σv,H3,ys,lv,I3,st3,fr3,sj3,HD3,w3⟩;obtain⟨ob,oes,oep,ot,pl3,oex,oda,orest⟩:=id sj3
  have I3p:Inv Y [(s2.heap.objs.size,ob)] (σv++σ) H3 s3:=I3.pins_of fun p hp=>by
   rw[Qaj] at hp;subst hp;refine⟨pl3,HD3,?_,fun hm=> ?_,fun v z=>by rw[oda] at z;cases z⟩
   ·rw[←hY];exact hDC
   ·rw[←hY] at hm;exact absurd (frSub _ hm) (Qba _)
  have pinD:∀p∈[((s2.heap.objs.size:Addr),ob)],p.1=s2.heap.objs.size:=fun p hp=>by
   rw[Qaj] at hp;rw[hp]
  subst hY;rcases turn i n ys H3 w3 with⟨stop,hlt,qn⟩|⟨go,hlt,NN,hNN,step⟩
  ·refine noErr (thn (T.done (cxC X xs Nb scope cl Hp2.objs.size s2 H2 fp) rfl rfl rfl hc i _ s3 _ H3 (fun _ _=>False) I3p (fpY fr3 pinD) st3 stop) fun r s4 ⟨hr,I4⟩=> ?_);subst hr;obtain⟨m4,hns4,_⟩:=I4.loc;have sj4:Zc3 X.prog X.w s4.heap s2.heap.objs.size (dd ys):=⟨ob,oes,oep,ot,(I4.pin _ (Qah _ Qai)).1,oex,oda,orest⟩;refine post s2 s4 H2 H3 Hp2.objs.size s2.heap.objs.size m4 ys I2 (by omega) hns4 I4.free hDC (fun h' sb=> ?_) sj4 hlt qn;have pl4:=(I4.pin _ (Qah _ Qai)).1;have up:∀b o,b≠Hp2.objs.size→s4.heap.get? b=some o→h'.get? b=some o:=fun b o hb e=>sb.extBut b o hb e;have base:=I4.base;have HC4:H3 Hp2.objs.size=none:=I4.free;have neC:∀b o,s2.heap.get? b=some o→b≠Hp2.objs.size:=fun b o e=>(below b (Qar e)).1;have neD:∀b o,s2.heap.get? b=some o→b≠s2.heap.objs.size:=fun b o e=>(below b (Qar e)).2
   have hokN:HOk X.prog X.w H3 h':=fun b u e=>by
    refine(I4.hok b u e).stay (fun c v hc q=>up c v ?_ q) (fun c q=>q) fun c xs q=>q;rcases hc with z|z
    ·rw[z];exact Zah e HC4
    ·exact Zah z HC4
   refine I2.call' (s':={s4 with heap:=h' }) (ch:=fp) I4.os ⟨fun b o e n hb hx'=>up b o (neC b o e) (base.keep b o e n hb hx'),fun b o e n hb hx'=> ?_,fun b o e n hx'=> ?_,fun b o e hx'=> ?_,fun b xs e=> ?_,fun b o u e=> ?_,fun b ps e=> ?_⟩ hokN I4.bare (fun b hb=> ?_)
   ·obtain⟨sl,q⟩:=base.slot b o e n hb hx';exact⟨sl,up b _ (neC b o e) q⟩
   ·exact base.free b o e n hx'
   ·obtain⟨o',q⟩:=base.there b o e hx';exact⟨o',up b o' (neC b o e) q⟩
   ·exact base.tups b xs e
   ·exact base.frzs b o u e
   ·exact base.tbls b ps e
   ·obtain⟨_,g1,_,g3,g4,g5⟩:=f2 b hb;exact⟨g3,g1,g4,g5⟩
  ·refine noErr (thn (T.item (cxC X xs Nb scope cl Hp2.objs.size s2 H2 fp) rfl rfl rfl hc i _ s3 _ H3 (fun _ _=>False) I3p (fpY fr3 pinD) st3 go) fun r s4 ⟨u,hr,h4⟩=> ?_);subst hr;refine noErr (thn h4 fun _ s5 ⟨v,H5,I5,r5,y5,st5,fr5⟩=> ?_);have I5':=I5.pinned (fpY fr5 pinD) (T.obj _ _ st5);have stp:=step v H5 σv lv y5;refine noErr (thn (hg cl Hp2.objs.size s2 H2 fp _ s5 _ H5 v u _ I5' r5 stp) fun _ s6 ⟨σ6,H6,I6,⟨pre',e6,l6⟩,stp⟩=> ?_);subst e6
   have again:∀{s7 s8:Shared} {H7:Hp} {zs:List Int} {m':Nat},Inv (cxC X xs Nb scope cl Hp2.objs.size s2 H2 fp) ([((s2.heap.objs.size:Addr),ob)]++Zdf fp s5.heap) (pre'++σ) H7 s7→
     (∃h' t',s8={s7 with heap:=h',toks:=t' }∧(∀b o,b≠s2.heap.objs.size→s7.heap.get? b=some o→h'.get? b=some o)∧Zc3 X.prog X.w h' s2.heap.objs.size (dd zs))→m'<n→W (i+1) m' zs H7→
     ∃m,m<n∧∃i σv H' ys,σv.length=xs.length∧Inv (cxC X xs Nb scope cl Hp2.objs.size s2 H2 fp) [] (σv++σ) H' s8∧tn i s8.heap∧(∀b∈fp,H' b=none)∧Zc3 X.prog X.w s8.heap s2.heap.objs.size (dd ys)∧H' s2.heap.objs.size=none∧W i m ys H':=by
    rintro s7 s8 H7 zs m' I7 ⟨h',t',rfl,up,plw⟩ hm w7;have HD7:H7 s2.heap.objs.size=none:=(I7.pin _ (Qah _ (Qat _ Qai))).2.1
    have fr7:∀b∈fp,H7 b=none:=fun b hb=>by
     obtain⟨o,e,d⟩:=T.obj _ _ st5 b hb;exact(I7.pin (b,o) (Qah _ (Qah _ (Za0 hb e)))).2.1
    have I7':Inv (cxC X xs Nb scope cl Hp2.objs.size s2 H2 fp) [] (pre'++σ) H7 s7:=I7.pins_of fun p hp=>absurd hp (by simp);refine⟨m',hm,i+1,pre',H7,zs,l6,?_,?_,fr7,plw,HD7,w7⟩
    ·have:=I7'.turned (it:=s2.heap.objs.size) (h':=h') (t':=t') up HD7 hDC (.inr (Qak _)) (fun y c h1 h2=>absurd (cellLt y c h1) (by rw[h2];exact Qba _)) (fun p hp=>absurd (show p∈([]:List (Addr×Obj)) from hp) (by simp));exact this
    ·refine T.keep _ _ _ st5 fun b hb o e=>up b o (below b (fpLt b hb)).2 ?_;exact(I7.pin (b,o) (Qah _ (Qah _ (Za0 hb e)))).1
   refine noErr (thn (ht cl Hp2.objs.size s2 H2 fp _ s6 _ H6 _ I6 stp) fun okb s7 ⟨H7,I7,q7⟩=> ?_);have pl7:=(I7.pin _ (Qah _ (Qat _ Qai))).1
   cases okb with
   |false=>
    rw[if_neg QaI] at q7⊢;obtain⟨m',hm,w7⟩:=hNN _ _ q7;exact again I7 ⟨s7.heap,s7.toks,rfl,fun _ _ _ e=>e,ob,oes,oep,ot,pl7,oex,oda,orest⟩ hm w7
   |true=>
    rw[if_pos rfl] at q7⊢;refine noErr (thn (he cl Hp2.objs.size s2 H2 fp _ s7 _ H7 _ I7 q7) fun w' s8 ⟨y,H8,I8,r8,k8,ey,q8⟩=> ?_);subst ey;obtain⟨tk8,rfl⟩:=r8;obtain⟨m',hm,w8⟩:=hNN _ _ q8;have pl8:=(I8.pin _ (Qah _ (Qat _ Qai))).1;have hdl:(dd ys).length+1<scanBound:=by have:=ZcS ys;unfold scanBound;omega
    refine ZjR (ns:=dd ys) ⟨ob,oes,oep,ot,pl8,oex,oda,orest⟩ hdl fun h9 t9 sb9 sj9=> ?_;exact again I8 ⟨h9,t9,rfl,fun b o hb e=>sb9.extBut b o hb e,by rw[ZgD];exact sj9⟩ hm w8
 refine Zef (loop _ _ rfl) (noErr (T.self _ 0 _ _ _ (T.keep _ _ _ st2 fun b _ o e=>old b o e) (loop _ _ rfl)))
theorem ZeW (elt tg qe:Expr)(ifs:List Expr)(scope:Scope)(pos:PySem.Pos)(env:Env):eval (.SetComp elt [⟨tg,qe,ifs,0⟩] scope pos) env=comprehension (.SetComp elt [⟨tg,qe,ifs,0⟩] scope pos) scope env (firstIterPos [⟨tg,qe,ifs,0⟩] pos) (newSet (.type "set")) false (eval qe env):=rfl
def ZpK (k:Nat)(wi:TI)(g:TG)(tt:TT)(te:TE):TE:=fun σ H Q=>wi σ H fun J H1=>Zrd k J g tt te (fun ns H'=>∀(q:Addr) (ms:List Int),H' q=none→ms.Perm (dd ns)→ms.Pairwise (· ≤ ·)→Q (.ref q) (upd H' q (.lst (ms.map V.int)))) σ H1
theorem ZeX {pos:PySem.Pos}(hg1:Gl X "sorted")(hm:X.mg "sorted" =none)
  (hc:X.calm=true) (hi:PI X tg qe wi) (hlen:Nb.length=X.N.length) (hNb:∀p∈Nb.zip X.N,p.1=p.2∨scope.names.lookup p.1=none) (hxN:∀y∈Nb,scope.names.lookup y≠some .local)
  (hg:InB X xs Nb scope fun Y=>PG Y tg g) (ht:InB X xs Nb scope fun Y=>PIf Y ifs tt) (he:InB X xs Nb scope fun Y=>PE Y elt te)
  (qj:∀y∈scope.names,y.2≠ .cell) (qo:scope.kind= .function) (qt:∀y∈scope.names,y.2= .local→scope.names.lookup y.1=some .local)
  (qr:∀y∈scope.names,y.2= .free→X.env.kindOf y.1=some .cell)
  (hs:∀x,foldedSetIterable qe X.env x=pure x:=by intro _;rfl):PE X (.Call (.Name "sorted" p) [.SetComp elt [⟨tg,qe,ifs,0⟩] scope qv] [] pos) (ZpK xs.length wi g tt te):=by
 intro qc s σ H Q I h;refine Qbu (ZbS I hg1 hm Zck ?_);refine QbU (rest:=[]) ?_ rfl rfl;show wpAny _ _ (spliced ((false,eval (.SetComp elt [⟨tg,qe,ifs,0⟩] scope qv) X.env):: [])) _ _ s;refine QbK ?_;rw[ZeW];refine ZiF (use:=none) hc hi hlen hNb hxN hg ht he qj qo qt qr hs I h fun s2 s4 H2 H4 C D m4 ns _ _ hn _ hDC IX sj h64 q=>⟨m4,hn,fun h' sb=>Qb3 ?_⟩;have I4:=IX h' sb;have sj':Zc3 X.prog X.w h' D (dd ns):=sj.keep fun o ho=>sb.extBut D o hDC ho;refine Zes (s:={s4 with heap:=h' }) (I.ok.hd hc) sj' (QaN (ZcS ns) h64) fun out ms h3 h5 tk5 d5 e kp3 kp5 hI hp hs' he'=> ?_;have I5:Inv X qc σ H4 {s4 with heap:=h3,drawn:=d5 }:=I4.keptD (t':=s4.toks) kp3;have hml:ms.length≤63:=by rw[hp.length_eq];have:=ZcS ns;omega
 refine⟨.ref h3.objs.size,_,I5.laid (t':=tk5) (o:=.lst (ms.map V.int)) kp5 (Qak _) ⟨?_,out.toList,e,Zch hI,?_⟩,rfl,q _ ms (I5.hok.fresh (Qak _)) hp hs'⟩
 ·rw[Qac];exact Qcx (ZbJ (by omega))
 ·rw[he']
theorem Zre {K:PySem.W.Frag}{k:Nat}{xs:List V}{QS:List Int→Hp→Prop}(Pv:Nat→List Int→Hp→Prop)(h0:Pv 0 [] H)(hb:xs.length<64)(hz:∀i ns H,Pv i ns H→ns.length≤i)(hl:∀i ns H,i≤xs.length→Pv i ns H→SqL K H a xs)
  (hs:∀i x ns H (pre:St),pre.length=k→xs[i]?=some x→Pv i ns H→g x (pre++σ) H fun σ' H2=>(∃pre':St,σ'=pre'++σ∧pre'.length=k)∧tt σ' H2 fun ok H3=>if ok=true then te σ' H3 fun y H4=>∃j,y= .int j∧Pv (i+1) (ns++ [j]) H4 else Pv (i+1) ns H3) (hd:∀ns H,Pv xs.length ns H→QS ns H):Zrd k (Itl K a) g tt te QS σ H:=by
 refine⟨fun i m ns H=>m=xs.length-i∧i≤xs.length∧Pv i ns H,⟨xs.length,by simp,QaU _,h0⟩,?_⟩;rintro i m ns H ⟨rfl,hi,p⟩;have q:=hl i ns H hi p;have z:=hz i ns H p;by_cases hlt:i<xs.length
 ·refine .inr ⟨⟨xs,xs[i],q,by simp[hlt]⟩,by omega,Pv (i+1),fun zs H' p'=>⟨xs.length-(i+1),by omega,rfl,hlt,p'⟩,fun x H' pre hp y=> ?_⟩;obtain⟨e,y⟩:=y;subst e;exact hs i x ns _ pre hp (y xs q) p
 ·have e:i=xs.length:=by omega
  subst e;exact .inl ⟨⟨xs,q,Qak _⟩,by omega,hd ns H p⟩
theorem ZcD:fillsNumberSlot (.type "tuple") "mul" =pure false:=
 PySem.fillsNumberSlot_seq (r:=some (.builtin "tuple.__rmul__")) F.slot_tuple_mul.lookup (by decide +kernel) F.slot_tuple_rmul.lookup (by decide +kernel)
theorem ZjS:seqRepeat? (.type "tuple")=pure (some (.builtin "tuple.__mul__")):=by
 unfold seqRepeat?;rw[PySem.seqSlot_of (T:= "tuple") (name:= "__mul__") F.slot_tuple_mul.lookup (by decide +kernel),PySem.seqSlot_of (T:= "tuple") (name:= "__rmul__") F.slot_tuple_rmul.lookup (by decide +kernel)];rfl
theorem ZhO (a:Int)(t:Tok)(l:Addr)(items:Array Value)(n:Nat)(d:Option Addr)(sl:Array (Option Value)):
  Meets (Builtin.«int.__rmul__» ⟨[.int a t,.ref l],[]⟩) (fun _ R s=>s.heap.get? l=some {cls:=.type "tuple",dict:=d,data:=.seq items n,slots:=sl }∧R (.ok (.ret Value.notImplemented)) s):=
 .of_wp fun prog w A R s h=>by obtain⟨hp,g,d,tk,os⟩:=s;obtain⟨hl,h⟩:=h;wp_walk;exact⟨_,rfl,h⟩
theorem ZlY (l:Addr)(items:Array Value)(n:Nat)(d:Option Addr)(sl:Array (Option Value))(u:Tok):
  Meets (Builtin.«tuple.__mul__» ⟨[.ref l,.int 1 u],[]⟩) (fun _ R s=>s.heap.get? l=some {cls:=.type "tuple",dict:=d,data:=.seq items n,slots:=sl }∧R (.ok (.ret (.ref l))) s):=
 .of_wp fun prog w A R s h=>by
  obtain⟨hp,g,d,tk,os⟩:=s;obtain⟨hl,h⟩:=h
  wp_walk
  all_goals exact⟨_,rfl,h⟩
theorem ZlZ (l:Addr)(items:Array Value)(n:Nat)(d:Option Addr)(sl:Array (Option Value))(x:Int)(u:Tok)(h1:1<x)(h2:x<1000)(he:items.isEmpty=false)(hs:items.size≤100):
  Meets (Builtin.«tuple.__mul__» ⟨[.ref l,.int x u],[]⟩) (fun _ R s=>s.heap.get? l=some {cls:=.type "tuple",dict:=d,data:=.seq items n,slots:=sl }∧R (.ok (.ret (.ref s.heap.objs.size))) {s with heap:=s.heap.push {cls:=.type "tuple",data:=.seq ((List.replicate x.toNat items).foldl (· ++ ·) #[]) } }):=
 .of_wp fun prog w A R s h=>by
  obtain⟨hp,g,d,tk,os⟩:=s;obtain⟨hl,h⟩:=h
  have m1:(items.size:Int)*x≤100000:=by
   have a:(items.size:Int)≤100:=by omega
   have b:0≤(items.size:Int):=by omega
   calc(items.size:Int)*x≤100*x:=QdG a (by omega)
    _≤100000:=by omega
  wp_walk
  refine wpAny_ite_false (by rw[QaC (show ¬x< -2^63 by omega),QaC (show ¬x≥2^63 by omega)];rfl) ?_
  wp_walk
  rw[if_neg (show ¬((items.isEmpty ||x==1)=true) by rw[he,Qdc.mpr (show x≠1 by omega)];decide)];dsimp only;rw[if_neg (show ¬((decide (x≤0)||items.isEmpty)=true) by rw[he,QaC (show ¬x≤0 by omega)];decide)];rw[if_neg (show ¬(items.size:Int)*x>(2^63-1)/8 by omega)]
  rw[if_neg (show ¬(Builtin.Tuple.tupleTooMany ((items.size:Int)*x)=true) from fun z=>by
   have z:(sizeLine:Int)<(items.size:Int)*x:=QaQ z
   exact absurd (Qed z m1) (by decide))]
  have hsz:((List.replicate x.toNat items).foldl (fun x1 x2=>x1++x2) #[]).size≤sizeLine:=by
   rw[AutoListH.size_joined,Array.size_empty,QcX];have a:x.toNat*items.size≤1000*100:=Qen (by omega) hs;exact QaE a (by decide)
  refine Qaa (m:=Builtin.Tuple.tupleExact _) (Qbr ?_ hsz);exact Qae ⟨_,rfl,h⟩
theorem ZjT (v:Value):∀(n:Nat) (acc:List Value),(List.replicate n #[v]).foldl (fun x1 x2=>x1++x2) acc.toArray=(acc++List.replicate n v).toArray
 |0,acc=>by simp
 |n+1,acc=>by
  rw[Qbm,QbX];have e:acc.toArray++ #[v]=(acc++ [v]).toArray:=by simp
  rw[e,ZjT v n (acc++ [v]),QaP,Qbm];rfl
theorem ZhP {x:V}{v:Value}(r:ZaY x v):∀n:Nat,ZaR (List.replicate n x) (List.replicate n v)
 |0=> .nil
 |n+1=>by rw[Qbm,Qbm];exact .cons r (ZhP r n)
def ZhQ (K:PySem.W.Frag):R2:=fun x y H Q=>∃a i z,x= .ref a∧y= .int i∧SqT K H a [z]∧1≤i∧i<1000∧(i=1→Q (.ref a) H)∧(1<i→∀p,H p=none→Q (.ref p) (upd H p (.tup (List.replicate i.toNat z))))
theorem ZhR:OpR X (binaryOp .Mult) (ZhQ X.K):=by
 intro qc s σ H x y v u Q I rx ry h;obtain⟨a,i,z,rfl,rfl,ha,h1,h2,q1,q2⟩:=h;cases rx;obtain⟨t,rfl⟩:=ry;obtain⟨its,r1,p1,_⟩:=I.tuple ha;obtain⟨z',rfl,rz⟩:=ZcZ r1;obtain⟨o,e,c,n,hd⟩:=p1;obtain⟨oc,od,odt,osl⟩:=o;have c:oc= .type "tuple" :=c;have hd:odt= .seq #[z'] n:=hd;subst c hd;by_cases w1:i=1
 ·subst w1
  exact Qc7 (T:= "tuple") (U:= "int") (by decide) ⟨_,e,rfl⟩ (fun s'=>Qdw s' 1 t) ZcD F.fills_int_mul F.slot_int_rmul ZjS F.slot_int_index.lookup
   (Qdg F.slot_int_rmul (Qdw s 1 t) F.entry_int_rmul (F.args_int_rmul_2 _ _) (ZhO 1 t a _ n _ _)
    ⟨e,rfl,⟨_,e,rfl⟩,Qdg F.slot_tuple_mul ⟨_,e,rfl⟩ F.entry_tuple_mul (F.args_tuple_mul_2 _ _) (ZlY a _ n _ _ t) ⟨e,.ref a,H,I,rfl,q1 rfl⟩⟩)
 ·refine Qc7 (T:= "tuple") (U:= "int") (by decide) ⟨_,e,rfl⟩ (fun s'=>Qdw s' i t) ZcD F.fills_int_mul F.slot_int_rmul ZjS F.slot_int_index.lookup
   (Qdg F.slot_int_rmul (Qdw s i t) F.entry_int_rmul (F.args_int_rmul_2 _ _) (ZhO i t a _ n _ _)
    ⟨e,rfl,⟨_,e,rfl⟩,Qdg F.slot_tuple_mul ⟨_,e,rfl⟩ F.entry_tuple_mul (F.args_tuple_mul_2 _ _) (ZlZ a _ n _ _ i t (by omega) h2 rfl (by show 1≤100;decide)) ⟨e,?_⟩⟩)
  have ej:(List.replicate i.toNat #[z']).foldl (fun x1 x2=>x1++x2) #[]=(List.replicate i.toNat z').toArray:=ZjT z' i.toNat [];rw[ej];refine⟨.ref s.heap.objs.size,_,I.laid (t':=s.toks) (o:=.tup (List.replicate i.toNat z)) (fun b ob q=>Qad _ q) (Qak _) ?_,rfl,q2 (by omega) _ (I.hok.fresh (Qak _))⟩;exact⟨by rw[Qax];exact QaE (show i.toNat≤1000 by omega) (by decide),_,ZhP rz i.toNat,IsTup.new _ _⟩
end L2
namespace Toy
open PySem L2 PyProof.Rows
variable {wd:Nat}{e:Int×List Int}
abbrev Wl:=List (Int×List Int)
def Adj:List (List Int)→Prop
 |a::b::r=>a≠b∧Adj (b::r)
 |_=>True
theorem ZhS:∀{A:List (List Int)} {e:List Int},Adj A→(∀l,A.getLast?=some l→l≠e)→Adj (A++ [e])
 | [],e,_,_=>trivial
 | [a],e,_,h=>⟨h a rfl,trivial⟩
 |a::b::r,e,⟨h1,h2⟩,h=>⟨h1,ZhS (A:=b::r) h2 fun l hl=>h l (by rw[List.getLast?_cons_cons];exact hl)⟩
structure Nrm (wd:Nat)(L:Wl):Prop where
 pos:∀e∈L,1≤e.1
 wid:∀e∈L,e.2.length=wd
 adj:Adj (L.map (·.2))
theorem ZiG {L:Wl}(h:Nrm wd L)(he:e.2.length=wd):Nrm wd (Zbl L e):=by
 have snoc:0<e.1→(∀l,L.getLast?=some l→l.2≠e.2)→Nrm wd (L++ [e]):=fun hp hn=>by
  refine⟨fun d hd=> ?_,fun d hd=> ?_,?_⟩
  ·rcases Qaq.mp hd with z|z
   ·exact h.pos d z
   ·rw[Qaj.mp z];omega
  ·rcases Qaq.mp hd with z|z
   ·exact h.wid d z
   ·rw[Qaj.mp z];exact he
  ·rw[QaG];refine ZhS h.adj fun l hl=> ?_;rw[List.getLast?_map] at hl
   cases z:L.getLast? with
   |none=>rw[z] at hl;cases hl
   |some l'=>rw[z] at hl;cases hl;exact hn l' z
 unfold Zbl;split
 ·rename_i hp;split
  ·rename_i l hl;split
   ·rename_i hw;have e0:=ZeT hl;have hlm:l∈L:=List.mem_of_getLast? hl;refine⟨fun d hd=> ?_,fun d hd=> ?_,?_⟩
    ·rcases Qaq.mp hd with z|z
     ·exact h.pos d (QdQ _ z)
     ·rw[Qaj.mp z]
      have:=h.pos l hlm;show 1≤e.1+l.1;omega
    ·rcases Qaq.mp hd with z|z
     ·exact h.wid d (QdQ _ z)
     ·rw[Qaj.mp z];exact he
    ·have ha:=h.adj;rw[e0,QaG] at ha;rw[QaG];show Adj (_++ [e.2]);rw[←hw];exact ha
   ·rename_i hw;exact snoc hp fun l' hl'=>by rw[hl] at hl';cases hl';exact hw
  ·rename_i hl;exact snoc hp fun l' hl'=>by rw[hl] at hl';cases hl'
 ·exact h
theorem ZjU {L:Wl}(h:∀e∈L,e.2.length=wd):Nrm wd (Zb2 L):=by
 have key:∀(L acc:Wl),(∀e∈L,e.2.length=wd)→Nrm wd acc→Nrm wd (L.foldl Zbl acc):=by
  intro L
  induction L with
  |nil=>intro acc _ h;exact h
  |cons x L ih=>intro acc hL ha;exact ih _ (fun e he=>hL e (Qao _ he)) (ZiG ha (hL x Qai))
 exact key L [] h ⟨fun e he=>(by cases he),fun e he=>(by cases he),trivial⟩
theorem ZiH {L:Wl}(he:0≤e.1):tot (Zbl L e)=tot L+e.1:=by
 unfold Zbl;split
 ·split
  ·rename_i l hl;split
   ·have e0:=ZeT hl
    have:tot L=tot L.dropLast+l.1:=by
     rw[congrArg tot e0,Zbo,ZaW,Zb3];omega
    rw[this,Zbo,ZaW,Zb3];show _+(e.1+l.1+0)=_;omega
   ·rw[Zbo,ZaW,Zb3];omega
  ·rw[Zbo,ZaW,Zb3];omega
 ·omega
theorem ZjV {L:Wl}(h:∀e∈L,0≤e.1):tot (Zb2 L)=tot L:=by
 have key:∀(L acc:Wl),(∀e∈L,0≤e.1)→tot (L.foldl Zbl acc)=tot acc+tot L:=by
  intro L
  induction L with
  |nil=>intro acc _;rw[List.foldl_nil,Zb3];omega
  |cons x L ih=>
   intro acc hL;rw[QbX,ih _ (fun e he=>hL e (Qao _ he)),ZiH (hL x Qai),ZaW];omega
 have:=key L [] h;rw[Zb3] at this;unfold Zb2;omega
def atW:Wl→Int→List Int
 | [],_=>[]
 | (a,u)::L,p=>if p<a then u else atW L (p-a)
end Toy
namespace L2
open PySem PySem.Spec PyProof.Rows
variable {w:World}{prog P:Program}{a l1 l2 z i1 i2 b:Addr}{H H':Hp}{s:Shared}{A:Around}{E Q:Value→Shared→Prop}{u x v y acc r:Value}{m i j n1 n2 n e tk:Nat}{X:Cx}{h h':Heap}{led:Bool}{σ:St}{V0:Value→Prop}{hs:List Int}{xs ys its:Array Value}{g g2:TG}{elt tg qe tg2 qf value o:Expr}{ifs qp es tes:List Expr}{scope:Scope}{tt tt2:TT}{te td ty:TE}{env:Env}{qc:List (Addr×Obj)}{rk:Value→Int}{ks us:List (List Int)}{tpos p:PySem.Pos}{wi2 wi:TI}{ta:TA}{R:Result→Shared→Prop}{Nb:List Str}
theorem nxT {it t:Addr}(st:s.heap.IsTupleIter it t i)(ht:s.heap.IsTuple t its)(hx:its[i]?=some x)
  (k:∀h',h'.IsTupleIter it t (i+1)→Heap.SameBut it s.heap h'→Q x {s with heap:=h' }):wpAny (model prog w) A (Builtin.SmallTypes.nextOf (.ref it)) Q E s:=by
 obtain⟨o,e,c,d⟩:=id st;obtain⟨ot,et,_,m,dt⟩:=ht;unfold Builtin.SmallTypes.nextOf;refine Qaa (QbR (name:=Str.ofString "__next__") st.typeIs F.slot_tuple_iterator_next (Qbj F.slot_tuple_iterator_next st.typeIs F.entry_tuple_iterator_next (show wpAny _ _ (field (.ref it) 0>>=_) _ _ s from Qaa (QbO e d (x:=.ref t) rfl ?_)) (F.args_tuple_iterator_next_1 _)));show wpAny _ _ (if(Value.ref t==Value.none)=true then _ else _) _ _ s;rw[if_neg (show ¬(Value.ref t==Value.none)=true by intro z;exact QaI z)];refine(show wpAny _ _ (field (.ref it) 1>>=_) _ _ s from Qaa (QbO e d (x:=.int i 0) rfl (show wpAny _ _ (seqItems? (.ref t)>>=_) _ _ s from Qaa (Qb6 et dt ?_))));simp only[QbA,hx];refine Qaa (Qfq e d (by simp) (Qae ⟨x,rfl,Qae (k _ ⟨_,QbN _ e (Obj.isFreed_of_fields (Obj.data_mapFields d _)),(Obj.cls_mapFields ..).trans c,?_⟩ (Qb0 ..))⟩));rw[Obj.data_mapFields d];simp[rawInt]
theorem ZrK {it t:Addr}(hh:A.handled=none)(st:s.heap.IsTupleIter it t i)(ht:s.heap.IsTuple t its)(hx:its[i]?=none)
  (k:∀h' e,Heap.ExtBut it s.heap h'→(∃o,h'.get? e=some o∧o.cls= .type "StopIteration")→E (.ref e) {s with heap:=h' }):wpAny (model prog w) A (Builtin.SmallTypes.nextOf (.ref it)) Q E s:=by
 obtain⟨o,e,c,d⟩:=id st;obtain⟨ot,et,_,m,dt⟩:=ht;unfold Builtin.SmallTypes.nextOf;refine Qaa (QbR (name:=Str.ofString "__next__") st.typeIs F.slot_tuple_iterator_next (Qbj F.slot_tuple_iterator_next st.typeIs F.entry_tuple_iterator_next (show wpAny _ _ (field (.ref it) 0>>=_) _ _ s from Qaa (QbO e d (x:=.ref t) rfl ?_)) (F.args_tuple_iterator_next_1 _)));show wpAny _ _ (if(Value.ref t==Value.none)=true then _ else _) _ _ s;rw[if_neg (show ¬(Value.ref t==Value.none)=true by intro z;exact QaI z)];refine(show wpAny _ _ (field (.ref it) 1>>=_) _ _ s from Qaa (QbO e d (x:=.int i 0) rfl (show wpAny _ _ (seqItems? (.ref t)>>=_) _ _ s from Qaa (Qb6 et dt ?_))));simp only[QbA,hx];refine Qaa (QbQ (Qaa (Qfq e d (by simp) (show wpAny _ _ (newExc (.type "StopIteration") []>>=_) _ _ _ from Qaa ?_))));simp only[newExc,newTuple];refine Qaa (Qbr (Qaa (m:=firstArgMember _ _) (QeE (a:=Value.none) (by first|rfl|(simp only[firstArgMember];rfl)) (Qbr ?_ (by size_fits)))) (by size_fits));simp only[raiseNew];refine Qaa (wpAny_handled ?_)
 first|rw[show A.in1.handled=none from hh]|rw[hh]
 exact Qaa (Qae (wpAny_throw (k _ _ (((Qb0 ..).extBut.push _).push _) ⟨_,Qaw _ rfl,rfl⟩)))
theorem Zoe {TI TO:Addr}(D:ZipApart z TI TO i1 i2 l1 l2)(hz:IsZip s.heap z TI TO .none)(hI:IsPair s.heap TI (.ref i1) (.ref i2))(hO:IsPair s.heap TO u v)
  (s1:s.heap.IsTupleIter i1 l1 n1) (s2:s.heap.IsTupleIter i2 l2 n2) (t1:s.heap.IsTuple l1 xs) (t2:s.heap.IsTuple l2 ys) (ex:xs[n1]?=some x) (ey:ys[n2]?=some y)
  (k:∀h',IsZip h' z TI TO (rawInt s.heap.objs.size)→IsPair h' TO x y→h'.IsTupleIter i1 l1 (n1+1)→h'.IsTupleIter i2 l2 (n2+1)→IsPair h' s.heap.objs.size x y→h'.objs.size=s.heap.objs.size+1→(∀c o,c≠z→c≠TO→c≠i1→c≠i2→s.heap.get? c=some o→h'.get? c=some o)→Q (.ref s.heap.objs.size) {s with heap:=h' }):
  wpAny (model prog w) A (Builtin.«zip.__next__» ⟨[.ref z],[]⟩) (fun fin s'=>∃r,fin= .done (.ret r)∧Q r s') E s:=by
 refine(show wpAny _ _ (field (.ref z) 2>>=_) _ _ _ from Qaa (QbO hz rfl (x:=.bool false) rfl (show wpAny _ _ (field (.ref z) 3>>=_) _ _ _ from Qaa (QbO hz rfl (x:=.ref TI) rfl (Qaa (Qb6 hI rfl ?_))))));refine(show wpAny _ _ (Builtin.SmallTypes.ownedTupleIsFree (.ref z)>>=_) _ _ _ from Qaa ?_);unfold Builtin.SmallTypes.ownedTupleIsFree;refine Qaa (QbO hz rfl (x:=.none) rfl (Qae ?_));simp only[Qcv];refine Qaa (QbQ (Qaa (QbO hz rfl (x:=.ref TO) rfl (Qaa (Qa0 hz (by simp) fun ha (za:IsZip ha z TI TO .ellipsis) ba=>Qaa ?_)))));simp only[QdM,Qd3,Qdm,Qeo];refine Qaa (Qaa (QeH (show wpAny _ _ (Builtin.SmallTypes.nextOf (.ref i1)>>=_) _ _ _ from Qaa (nxT (s1.extBut ba.extBut D.i1z) (t1.extBut ba.extBut D.l1z) ex fun hb sb bb=>Qae ?_))));have Ob:IsPair hb TO u v:=bb.extBut _ _ D.TOi1 (ba.extBut _ _ D.TOz hO);refine Qaa (Qb6 Ob rfl (Qaa (QdR Ob fun hc (Oc:IsPair hc TO x v) bc=>Qaa (Qfv (Qae ?_)))));refine Qaa (Qaa (QeH (show wpAny _ _ (Builtin.SmallTypes.nextOf (.ref i2)>>=_) _ _ _ from Qaa (nxT (((s2.extBut ba.extBut D.i2z).extBut bb.extBut D.i12.symm).extBut bc.extBut D.TOi2.symm) (((t2.extBut ba.extBut D.l2z).extBut bb.extBut D.l2i1).extBut bc.extBut D.l2TO) ey fun hd sd bd=>Qae ?_))));have Od:IsPair hd TO x v:=bd.extBut _ _ D.TOi2 Oc;refine Qaa (Qb6 Od rfl (Qaa (QdR Od fun he (Oe:IsPair he TO x y) be=>Qaa (Qfv (Qae (Qae (Qaa (Qb6 Oe rfl (Qaa (QdD ?_))))))))));have size:he.objs.size=s.heap.objs.size:=be.1.trans (bd.1.trans (bc.1.trans (bb.1.trans ba.1)));have ze:IsZip he z TI TO .ellipsis:=be.extBut _ _ D.TOz.symm (bd.extBut _ _ D.i2z.symm (bc.extBut _ _ D.TOz.symm (bb.extBut _ _ D.i1z.symm za)));have keep:∀c o,c≠z→c≠TO→c≠i1→c≠i2→s.heap.get? c=some o→he.get? c=some o:=fun c o q1 q2 q3 q4 e=>be.extBut _ _ q2 (bd.extBut _ _ q4 (bc.extBut _ _ q2 (bb.extBut _ _ q3 (ba.extBut _ _ q1 e))));have r1:he.IsTupleIter i1 l1 (n1+1):=((sb.extBut bc.extBut D.TOi1.symm).extBut bd.extBut D.i12).extBut be.extBut D.TOi1.symm;have r2:he.IsTupleIter i2 l2 (n2+1):=sd.extBut be.extBut D.TOi2.symm;have zlt:z<he.objs.size:=Qar ze;refine(show wpAny _ _ (Builtin.SmallTypes.ownedTupleHandOut (.ref z) (.ref he.objs.size)>>=_) _ _ _ from Qaa ?_);unfold Builtin.SmallTypes.ownedTupleHandOut;have zf:IsZip (he.push {cls:=.type "tuple",data:=.seq #[x,y] }) z TI TO .ellipsis:=Qad _ ze;refine Qaa (Qa0 zf (by simp) fun hg (zg:IsZip hg z TI TO (rawInt he.objs.size)) bg=>Qa0 zg (by simp) fun hk (zk:IsZip hk z TI TO (rawInt he.objs.size)) bk=> ?_);have up:∀c o,c≠z→he.get? c=some o→hk.get? c=some o:=fun c o q e=>bk.extBut _ _ q (bg.extBut _ _ q (Qad _ e));have Tk:IsPair hk he.objs.size x y:=bk.extBut _ _ (Qbc zlt) (bg.extBut _ _ (Qbc zlt) (Qaw _ rfl));have sk:hk.objs.size=he.objs.size+1:=by rw[bk.1,bg.1,QaY]
 rw[size] at zk Tk sk;refine Qae ⟨_,rfl,(show Q (.ref he.objs.size) _ from ?_)⟩;rw[size];exact k hk zk (up _ _ D.TOz Oe) (r1.at fun o e=>up _ o D.i1z e) (r2.at fun o e=>up _ o D.i2z e) Tk sk fun c o q1 q2 q3 q4 e=>up c o q1 (keep c o q1 q2 q3 q4 e)
theorem ZpL {TI TO:Addr}{Q:Fin→Shared→Prop}(hh:A.handled=none)(D:ZipApart z TI TO i1 i2 l1 l2)(hz:IsZip s.heap z TI TO .none)(hI:IsPair s.heap TI (.ref i1) (.ref i2))(hO:IsPair s.heap TO u v)
  (s1:s.heap.IsTupleIter i1 l1 n1) (s2:s.heap.IsTupleIter i2 l2 n2) (t1:s.heap.IsTuple l1 xs) (t2:s.heap.IsTuple l2 ys) (fin:xs[n1]?=none∨ys[n2]?=none)
  (k:∀h' e,(∀c o,c≠z→c≠TO→c≠i1→c≠i2→s.heap.get? c=some o→h'.get? c=some o)→(∃o,h'.get? e=some o∧o.cls= .type "StopIteration")→E (.ref e) {s with heap:=h' }):
  wpAny (model prog w) A (Builtin.«zip.__next__» ⟨[.ref z],[]⟩) Q E s:=by
 refine(show wpAny _ _ (field (.ref z) 2>>=_) _ _ _ from Qaa (QbO hz rfl (x:=.bool false) rfl (show wpAny _ _ (field (.ref z) 3>>=_) _ _ _ from Qaa (QbO hz rfl (x:=.ref TI) rfl (Qaa (Qb6 hI rfl ?_))))));refine(show wpAny _ _ (Builtin.SmallTypes.ownedTupleIsFree (.ref z)>>=_) _ _ _ from Qaa ?_);unfold Builtin.SmallTypes.ownedTupleIsFree;refine Qaa (QbO hz rfl (x:=.none) rfl (Qae ?_));simp only[Qcv];refine Qaa (QbQ (Qaa (QbO hz rfl (x:=.ref TO) rfl (Qaa (Qa0 hz (by simp) fun ha (za:IsZip ha z TI TO .ellipsis) ba=>Qaa ?_)))));simp only[QdM,Qd3,Qdm,Qeo];refine Qaa (Qaa (QeH (show wpAny _ _ (Builtin.SmallTypes.nextOf (.ref i1)>>=_) _ _ _ from ?_)))
 cases ex:xs[n1]? with
 |none=>
  refine Qaa (ZrK hh (s1.extBut ba.extBut D.i1z) (t1.extBut ba.extBut D.l1z) ex fun hb e bb ⟨oe,ge,ce⟩=> ?_);have zb:IsZip hb z TI TO .ellipsis:=bb _ _ D.i1z.symm za;have ne:e≠z:=fun q=>by subst q;rw[zb] at ge;cases ge;simp at ce
  exact Qa0 zb (by simp) fun hc _ bc=>k hc e (fun c o q1 _ q3 _ g=>bc.extBut _ _ q1 (bb _ _ q3 (ba.extBut _ _ q1 g))) ⟨oe,bc.extBut _ _ ne ge,ce⟩
 |some x=>
  have ey:ys[n2]?=none:=fin.resolve_left (by rw[ex];exact fun q=>by cases q);refine Qaa (nxT (s1.extBut ba.extBut D.i1z) (t1.extBut ba.extBut D.l1z) ex fun hb sb bb=>Qae ?_);have Ob:IsPair hb TO u v:=bb.extBut _ _ D.TOi1 (ba.extBut _ _ D.TOz hO);refine Qaa (Qb6 Ob rfl (Qaa (QdR Ob fun hc Oc bc=>Qaa (Qfv (Qae (Qaa (Qaa (QeH (show wpAny _ _ (Builtin.SmallTypes.nextOf (.ref i2)>>=_) _ _ _ from Qaa ?_)))))))));refine ZrK hh (((s2.extBut ba.extBut D.i2z).extBut bb.extBut D.i12.symm).extBut bc.extBut D.TOi2.symm) (((t2.extBut ba.extBut D.l2z).extBut bb.extBut D.l2i1).extBut bc.extBut D.l2TO) ey fun hd e bd ⟨oe,ge,ce⟩=> ?_;have zd:IsZip hd z TI TO .ellipsis:=bd _ _ D.i2z.symm (bc.extBut _ _ D.TOz.symm (bb.extBut _ _ D.i1z.symm za));have ne:e≠z:=fun q=>by subst q;rw[zd] at ge;cases ge;simp at ce
  exact Qa0 zd (by simp) fun hf _ bf=>k hf e (fun c o q1 q2 q3 q4 g=>bf.extBut _ _ q1 (bd _ _ q4 (bc.extBut _ _ q2 (bb.extBut _ _ q3 (ba.extBut _ _ q1 g))))) ⟨oe,bf.extBut _ _ ne ge,ce⟩
theorem ZpM {TI TO:Addr}{Q:Option Value→Shared→Prop}(D:ZipApart z TI TO i1 i2 l1 l2)(hz:IsZip s.heap z TI TO .none)(hI:IsPair s.heap TI (.ref i1) (.ref i2))(hO:IsPair s.heap TO u v)
  (s1:s.heap.IsTupleIter i1 l1 n1) (s2:s.heap.IsTupleIter i2 l2 n2) (t1:s.heap.IsTuple l1 xs) (t2:s.heap.IsTuple l2 ys) (ex:xs[n1]?=some x) (ey:ys[n2]?=some y)
  (k:∀h',IsZip h' z TI TO (rawInt s.heap.objs.size)→IsPair h' TO x y→h'.IsTupleIter i1 l1 (n1+1)→h'.IsTupleIter i2 l2 (n2+1)→IsPair h' s.heap.objs.size x y→h'.objs.size=s.heap.objs.size+1→(∀c o,c≠z→c≠TO→c≠i1→c≠i2→s.heap.get? c=some o→h'.get? c=some o)→Q (some (.ref s.heap.objs.size)) {s with heap:=h' }):
  wpAny (model prog w) A (pyNext (.ref z)) Q E s:=by
 have ty:s.TypeIs (.ref z) "zip" :=⟨_,hz,rfl⟩;unfold pyNext;exact Qaa (Qdp (QbR (name:=Str.ofString "__next__") ty F.slot_zip_next (Qbj F.slot_zip_next ty F.entry_zip_next (Zoe D hz hI hO s1 s2 t1 t2 ex ey fun h' b1 b2 b3 b4 b5 b6 b7=>Qae (k h' b1 b2 b3 b4 b5 b6 b7)) (F.args_zip_next_1 _))))
theorem Zof {TI TO:Addr}{Q:Option Value→Shared→Prop}(hh:A.handled=none)(D:ZipApart z TI TO i1 i2 l1 l2)(hz:IsZip s.heap z TI TO .none)(hI:IsPair s.heap TI (.ref i1) (.ref i2))(hO:IsPair s.heap TO u v)
  (s1:s.heap.IsTupleIter i1 l1 n1) (s2:s.heap.IsTupleIter i2 l2 n2) (t1:s.heap.IsTuple l1 xs) (t2:s.heap.IsTuple l2 ys) (fin:xs[n1]?=none∨ys[n2]?=none)
  (k:∀h',(∀c o,c≠z→c≠TO→c≠i1→c≠i2→s.heap.get? c=some o→h'.get? c=some o)→Q none {s with heap:=h' }):wpAny (model prog w) A (pyNext (.ref z)) Q E s:=by
 have ty:s.TypeIs (.ref z) "zip" :=⟨_,hz,rfl⟩;unfold pyNext;refine Qaa (Qdp (QbR (name:=Str.ofString "__next__") ty F.slot_zip_next (Qbj F.slot_zip_next ty F.entry_zip_next (ZpL hh D hz hI hO s1 s2 t1 t2 fin fun h' e kp ⟨o,g,c⟩=> ?_) (F.args_zip_next_1 _))));exact Qaa (Qda (T:= "StopIteration") (b:=true) ⟨o,g,c⟩ Qek (Qae (k _ kp)))
def zh (h:Heap)(l1 l2:Addr):Heap:=(((((h.push {cls:=.type "tuple_iterator",data:=.fields #[.ref l1,.int 0 0] }).push {cls:=.type "tuple_iterator",data:=.fields #[.ref l2,.int 0 0] }).push {cls:=.type "tuple",data:=.seq #[.ref h.objs.size,.ref (h.objs.size+1)] }).push {cls:=.type "tuple",data:=.seq #[.none,.none] }).push {cls:=.type "zip",data:=.fields #[.none,.bool false,.bool false,.ref (h.objs.size+2),.ref (h.objs.size+3)] })
theorem Zrf (l1 l2:Addr)(xs ys:Array Value):
  Meets (Builtin.«zip.__new__» ⟨[.type "zip",.ref l1,.ref l2],[]⟩) (fun _ R s=>s.heap.IsTuple l1 xs∧s.heap.IsTuple l2 ys∧R (.ok (.ret (.ref (s.heap.objs.size+4)))) {s with heap:=zh s.heap l1 l2 }):=
 .of_wp fun prog w A R s h=>by
  obtain⟨hp,g,d,tk,os⟩:=s;obtain⟨t1,t2,h⟩:=h;have hsub:=sub_zip;have T1:Heap.IsTuple (Shared.heap ⟨hp,g,d,tk,os⟩) l1 xs:=t1;have T2:Heap.IsTuple (Shared.heap ⟨hp.push {cls:=.type "tuple_iterator",data:=.fields #[.ref l1,.int 0 0] },g,d,tk,os⟩) l2 ys:=Heap.IsTuple.push t2 _
  wp_walk using Qea T1,Qea T2
  refine⟨_,rfl,?_⟩;simp only[QaY];exact h
theorem ZpN (t1:s.heap.IsTuple l1 xs)(t2:s.heap.IsTuple l2 ys)
  (k:∀h',IsZip h' (s.heap.objs.size+4) (s.heap.objs.size+2) (s.heap.objs.size+3) .none→IsPair h' (s.heap.objs.size+2) (.ref s.heap.objs.size) (.ref (s.heap.objs.size+1))→IsPair h' (s.heap.objs.size+3) .none .none→h'.IsTupleIter s.heap.objs.size l1 0→h'.IsTupleIter (s.heap.objs.size+1) l2 0→(∀c o,s.heap.get? c=some o→h'.get? c=some o)→Q (.ref (s.heap.objs.size+4)) {s with heap:=h' }):
  wpAny (model prog w) A (call (.type "zip") [.ref l1,.ref l2]) Q E s:=by
 refine callType_new F.called_zip (by decide) (F.typeCall_zip_2 _ _) (F.newCall_zip_2 _ _) (fun obj=>F.args_object_init_3 obj _ _) F.entry_zip_new (Zrf l1 l2 xs ys) ⟨t1,t2,?_⟩;have ps:∀{c:Addr} {o p:Obj} {h:Heap},h.get? c=some o→(h.push p).get? c=some o:=fun e=>Qad _ e;have sz1:∀(h:Heap) (p:Obj),(h.push p).objs.size=h.objs.size+1:=fun h p=>QaY ..;have at0:∀(h:Heap) (p:Obj) (n:Nat),h.objs.size=n→p.isFreed=false→(h.push p).get? n=some p:=fun h p n e f=>by subst e;exact Qaw _ f
 have z5:(zh s.heap l1 l2).get? (s.heap.objs.size+4)=some _:=at0 _ _ _ (by simp only[sz1]) rfl;have z4:(zh s.heap l1 l2).get? (s.heap.objs.size+3)=some _:=ps (at0 _ _ _ (by simp only[sz1]) rfl);have z3:(zh s.heap l1 l2).get? (s.heap.objs.size+2)=some _:=ps (ps (at0 _ _ _ (by simp only[sz1]) rfl));have z2:(zh s.heap l1 l2).get? (s.heap.objs.size+1)=some _:=ps (ps (ps (at0 _ _ _ (by simp only[sz1]) rfl)));have z1:(zh s.heap l1 l2).get? s.heap.objs.size=some _:=ps (ps (ps (ps (at0 _ _ _ rfl rfl))));exact⟨⟨_,z5,rfl⟩,k _ z5 z3 z4 ⟨_,z1,rfl,rfl⟩ ⟨_,z2,rfl,rfl⟩ fun c o e=>ps (ps (ps (ps (ps e))))⟩
def Zrg (K:PySem.W.Frag)(a b:Addr):It:=
 ⟨fun i H=>∃xs ys x y,SqT K H a xs∧SqT K H b ys∧xs[i]?=some x∧ys[i]?=some y,
  fun i H v H'=>∃p x y,v= .ref p∧H p=none∧H'=upd H p (.tup [x,y])∧(∀xs,SqT K H a xs→xs[i]?=some x)∧(∀ys,SqT K H b ys→ys[i]?=some y),
  fun i H=>∃xs ys,SqT K H a xs∧SqT K H b ys∧(xs[i]?=none∨ys[i]?=none)⟩
def ZpO (z TI TO i1 i2 a b:Addr)(i:Nat)(h:Heap):Prop:=IsZip h z TI TO .none∧IsPair h TI (.ref i1) (.ref i2)∧(∃u v,IsPair h TO u v)∧h.IsTupleIter i1 a i∧h.IsTupleIter i2 b i
theorem ZjW {K:PySem.W.Frag}{k:Nat}{pos:PySem.Pos}(a b z TI TO i1 i2:Addr)(D:ZipApart z TI TO i1 i2 a b):Zpf P w K (.Tuple es k pos) (Zrg K a b) [z,TI,TO,i1,i2] z (ZpO z TI TO i1 i2 a b) where
 mem:=by simp
 obj:=fun i h st c hc=>by
  obtain⟨hz,hTI,⟨u,v,hTO⟩,⟨o1,e1,c1,d1⟩,⟨o2,e2,c2,d2⟩⟩:=st;simp only[Qaz,Qbg,QcJ] at hc;rcases hc with rfl|rfl|rfl|rfl|rfl
  ·exact⟨_,hz,fun v q=>by cases q⟩
  ·exact⟨_,hTI,fun v q=>by cases q⟩
  ·exact⟨_,hTO,fun v q=>by cases q⟩
  ·exact⟨o1,e1,fun v q=>by rw[d1] at q;cases q⟩
  ·exact⟨o2,e2,fun v q=>by rw[d2] at q;cases q⟩
 keep:=fun i h h' st q=>by
  obtain⟨hz,hTI,⟨u,v,hTO⟩,l1,l2⟩:=st;exact⟨q _ (by simp) _ hz,q _ (by simp) _ hTI,⟨u,v,q _ (by simp) _ hTO⟩,l1.at fun o e=>q _ (by simp) o e,l2.at fun o e=>q _ (by simp) o e⟩
 item:=by
  intro X hP hw hK hc i qc s σ H E I hf st hg;subst hP hw hK;obtain⟨xs,ys,x,y,hq1,hq2,hx,hy⟩:=hg;obtain⟨hz,hTI,⟨u,v,hTO⟩,l1,l2⟩:=st;obtain⟨its1,rv1,p1,_⟩:=I.tuple hq1;obtain⟨its2,rv2,p2,_⟩:=I.tuple hq2;obtain⟨ux,hux,rux⟩:=rv1.get hx;obtain⟨uy,huy,ruy⟩:=rv2.get hy;refine ZpM D hz hTI hTO l1 l2 p1 p2 (x:=ux) (y:=uy) (by simpa using hux) (by simpa using huy) fun h' z1 TO1 j1 j2 T1 sz kp=> ?_;refine⟨_,rfl,wpAny_letOwnedTupleGo_zip z1 fun h2 z2 sb=> ?_⟩;have hzlt:z<s.heap.objs.size:=Qar hz;have hpz:s.heap.objs.size≠z:=Qbc hzlt;have T2:IsPair h2 s.heap.objs.size ux uy:=sb.extBut _ _ hpz T1
  have kp2:∀c o,c∉ [z,TI,TO,i1,i2]→s.heap.get? c=some o→h2.get? c=some o:=fun c o hc e=>by
   simp only[Qaz,Qbg,QcJ,not_or] at hc;exact sb.extBut _ _ hc.1 (kp c o hc.1 hc.2.2.1 hc.2.2.2.1 hc.2.2.2.2 e)
  have I2:Inv X qc σ (upd H s.heap.objs.size (.tup [x,y])) {s with heap:=h2,toks:=s.toks }:=I.turnedNew kp2 hf (Qak _) ⟨by show 2≤sizeLine;decide,[ux,uy],.cons rux (.cons ruy .nil),⟨_,T2,rfl,_,rfl⟩⟩;refine⟨.ref s.heap.objs.size,_,I2,rfl,⟨_,x,y,rfl,I.hok.fresh (Qak _),rfl,fun xs' h=> ?_,fun ys' h=> ?_⟩,⟨z2,?_,⟨ux,uy,?_⟩,?_,?_⟩,fun c hc=> ?_⟩
  ·rw[I.tuple_inj h hq1];exact hx
  ·rw[I.tuple_inj h hq2];exact hy
  ·exact sb.extBut _ _ D.TIz (kp _ _ D.TIz D.TITO D.TIi1 D.TIi2 hTI)
  ·exact sb.extBut _ _ D.TOz TO1
  ·exact j1.at fun o e=>sb.extBut _ _ D.i1z e
  ·exact j2.at fun o e=>sb.extBut _ _ D.i2z e
  ·have hlt:c<s.heap.objs.size:=by
    simp only[Qaz,Qbg,QcJ] at hc;rcases hc with rfl|rfl|rfl|rfl|rfl
    ·exact hzlt
    ·exact Qar hTI
    ·exact Qar hTO
    ·obtain⟨_,e,_⟩:=l1;exact Qar e
    ·obtain⟨_,e,_⟩:=l2;exact Qar e
   rw[Zak (QaJ hlt)];exact(hf c hc).1
 done:=by
  intro X hP hw hK hc i qc s σ H E I hf st hg;subst hP hw hK;obtain⟨xs,ys,hq1,hq2,hend⟩:=hg;obtain⟨hz,hTI,⟨u,v,hTO⟩,l1,l2⟩:=st;obtain⟨its1,rv1,p1,_⟩:=I.tuple hq1;obtain⟨its2,rv2,p2,_⟩:=I.tuple hq2;have e1:=rv1.length;have e2:=rv2.length;refine Zof (I.ok.hd hc) D hz hTI hTO l1 l2 p1 p2 (hend.imp (fun q=> ?_) (fun q=> ?_)) fun h' kp=>⟨rfl,I.turnedL (t':=s.toks) (ch:=[z,TI,TO,i1,i2]) (fun c o hc e=> ?_) hf⟩
  ·rw[Qbh] at q;simp;omega
  ·rw[Qbh] at q;simp;omega
  ·simp only[Qaz,Qbg,QcJ,not_or] at hc;exact kp c o hc.1 hc.2.2.1 hc.2.2.2.1 hc.2.2.2.2 e
 self:=fun _ _ _ _ _ st h=>wpAny_pyIter_zip st.1 h
def ZpP (K:PySem.W.Frag)(ta:TA):TI:=fun σ H R=>ta σ H fun vs H1=>∃a b,vs=[.ref a,.ref b]∧(∃xs,SqT K H1 a xs)∧(∃ys,SqT K H1 b ys)∧R (Zrg K a b) H1
theorem ZjX {pos:PySem.Pos}{a b:Expr}(hg:Gl X "zip")(hm:X.mg "zip" =none)(ha:PA X [a,b] ta)
  (hs:starEach [a,b] X.env=[(false,eval a X.env),(false,eval b X.env)]:=by rfl) (hs2:starEach [b] X.env=[(false,eval b X.env)]:=by rfl):PI X (.Tuple tes tk tpos) (.Call (.Name "zip" p) [a,b] [] pos) (ZpP X.K ta):=by
 intro qc s σ H R I h;refine Qbu (ZbS I hg hm boot_zip ?_);refine Qbk (thn (ha pos qc s σ H _ I h) fun us s1 ⟨vs,H1,I1,r1,l1,l2,e,⟨xs,hx⟩,⟨ys,hy⟩,q⟩=> ?_) (by rw[hs,hs2]) (by rw[hs2];rfl);subst e;obtain⟨u1,u2,rfl,rfl,rfl⟩:=Zn3 r1;obtain⟨its1,rv1,p1,_⟩:=I1.tuple hx;obtain⟨its2,rv2,p2,_⟩:=I1.tuple hy;have a1:l1<s1.heap.objs.size:=by obtain⟨_,e,_⟩:=p1;exact Qar e
 have a2:l2<s1.heap.objs.size:=by obtain⟨_,e,_⟩:=p2;exact Qar e
 refine ZpN p1 p2 fun h' hz hTI hTO hi1 hi2 kp=> ?_;refine wpAny_pyIter_zip hz ?_;refine⟨_,[_,_,_,_,_],_,_,H1,rfl,I1.kept (t':=s1.toks) kp,ZjW l1 l2 _ _ _ _ _ (zipApart_new a1 a2),⟨hz,hTI,⟨_,_,hTO⟩,hi1,hi2⟩,fun c hc=> ?_,q⟩
 have hge:s1.heap.objs.size≤c:=by
  simp only[Qaz,Qbg,QcJ] at hc;rcases hc with rfl|rfl|rfl|rfl|rfl
  ·exact Qck _ _
  ·exact Qck _ _
  ·exact Qck _ _
  ·exact Qak _
  ·exact Qck _ _
 exact I1.fpOk hge (I1.hok.fresh hge)
theorem ZpQ {K:PySem.W.Frag}{k:Nat}{xs ys:List V}{Q:VK}(Pv:Nat→List V→Hp→Prop)(h0:Pv 0 [] H)(hn:n=min xs.length ys.length)(hb:n≤1000)(hz:∀i zs H,Pv i zs H→zs.length≤i)(hl:∀i zs H,i≤n→Pv i zs H→SqT K H a xs∧SqT K H b ys)
  (hs:∀i x y zs H (pre:St) (p:Addr),pre.length=k→xs[i]?=some x→ys[i]?=some y→Pv i zs H→H p=none→g (.ref p) (pre++σ) (upd H p (.tup [x,y])) fun σ' H2=>(∃pre':St,σ'=pre'++σ∧pre'.length=k)∧tt σ' H2 fun ok H3=>if ok=true then te σ' H3 fun y H4=>Pv (i+1) (zs++ [y]) H4 else Pv (i+1) zs H3) (hd:∀zs H,Pv n zs H→∀D,H D=none→Q (.ref D) (upd H D (.lst zs))):CGo k (Zrg K a b) g tt te Q σ H:=by
 refine⟨fun i m zs H=>m=n-i∧i≤n∧Pv i zs H,⟨n,by simp,QaU _,h0⟩,?_⟩;rintro i m zs H ⟨rfl,hi,p⟩;obtain⟨q1,q2⟩:=hl i zs H hi p;by_cases hlt:i<n
 ·have h1:i<xs.length:=by omega
  have h2:i<ys.length:=by omega
  refine .inr ⟨⟨xs,ys,xs[i],ys[i],q1,q2,by simp[h1],by simp[h2]⟩,QaN (hz i zs H p) (ZbJ (by omega)),Pv (i+1),fun zs H' p'=>⟨n-(i+1),by omega,rfl,hlt,p'⟩,fun x H' pre hp y=> ?_⟩;obtain⟨q,x1,y1,rfl,hq,rfl,e1,e2⟩:=y;exact hs i x1 y1 zs _ pre q hp (e1 xs q1) (e2 ys q2) p hq
 ·have e:i=n:=by omega
  subst e;refine .inl ⟨⟨xs,ys,q1,q2,?_⟩,hd zs H p⟩;by_cases hx:xs.length≤ys.length
  ·exact .inl (QaW (by omega))
  ·exact .inr (QaW (by omega))
abbrev e2 (elt tg qe:Expr)(ifs:List Expr)(tg2 qf:Expr)(qp:List Expr)(scope:Scope)(pos:PySem.Pos):Expr:=.ListComp elt [⟨tg,qe,ifs,0⟩,⟨tg2,qf,qp,0⟩] scope pos
theorem ZjY (elt tg qe:Expr)(ifs:List Expr)(tg2 qf:Expr)(qp:List Expr)(scope:Scope)(pos:PySem.Pos)(it acc:Value)(env:Env):compTurn (e2 elt tg qe ifs tg2 qf qp scope pos) 0 it acc env=(do
  standAt qe.pos
  match←pyNext it with
  |none=>pure (.done .next)
  |some v=>
   letOwnedTupleGo tg it v
   assign tg env v
   let mut ok:=true
   for c in ifs do
    if ok then ok←isTrue c env (eval c env)
   if ok then
    let x←eval qf env
    standAt qf.pos
    let x←foldedSetIterable qf env x
    let _←runOwn (.compStart (e2 elt tg qe ifs tg2 qf qp scope pos) 1 (←holding [x] (pyIter x)) acc env) env
   again (.compLoop (e2 elt tg qe ifs tg2 qf qp scope pos) 0 it acc env)):=rfl
theorem ZjZ (elt tg qe:Expr)(ifs:List Expr)(tg2 qf:Expr)(qp:List Expr)(scope:Scope)(pos:PySem.Pos)(it acc:Value)(env:Env):compTurn (e2 elt tg qe ifs tg2 qf qp scope pos) 1 it acc env=(do
  standAt qf.pos
  match←pyNext it with
  |none=>pure (.done .next)
  |some v=>
   letOwnedTupleGo tg2 it v
   assign tg2 env v
   let mut ok:=true
   for c in qp do
    if ok then ok←isTrue c env (eval c env)
   if ok then(eval elt env>>=fun x=>call (.builtin "list.append") [acc,x]>>=fun _=>pure ():Sem Unit)
   again (.compLoop (e2 elt tg qe ifs tg2 qf qp scope pos) 1 it acc env)):=rfl
theorem Zj0 {pos:PySem.Pos}{it:Value}{EE:Value→Shared→Prop}(hE:EE=notedBy (model prog w) A env fun e s'=>R (.error e) s')(I:Nat→Shared→Prop)
  (turn:∀n s,I n s→wpAny (model prog w) A (pyNext it) (fun r z1=>match r with
   |none=>R (.ok .next) z1
   |some v=>wpAny (model prog w) A (letOwnedTupleGo tg2 it v) (fun _ y1=>wpAny (model prog w) A (assign tg2 env v) (fun _ z2=>
     wpAny (model prog w) A (forIn qp true fun c r=>if r=true then do let ok←isTrue c env (eval c env);pure (ForInStep.yield ok) else pure (ForInStep.yield r)) (fun ok z3=>
      if ok=true then wpAny (model prog w) A (eval elt env) (fun x z4=>wpAny (model prog w) A (call (.builtin "list.append") [acc,x]) (fun _ z5=>∃m,m<n∧I m z5) EE z4) EE z3 else∃m,m<n∧I m z3) EE z2) EE y1) EE z1) EE s)
  (n:Nat) (h:I n s):codeAny (model prog w) A (.compLoop (e2 elt tg qe ifs tg2 qf qp scope pos) 1 it acc env) R s:=by
 subst hE;refine Qe1 rfl I (fun n s hI=> ?_) n h;show wpAny _ A ((compTurn (e2 elt tg qe ifs tg2 qf qp scope pos) 1 it acc env).onRaise (fun x=>do noteFrame x env;theTreesLotGoes x)) _ _ s;refine Qft ?_;rw[ZjZ];refine Qaa (Qb7 (Qaa (QaZ (turn n s hI) (fun r z1 q1=> ?_) fun _ _ z=>z)))
 cases r with
 |none=>exact Qae q1
 |some v=>
  refine Qaa (QaZ q1 (fun _ y1 q1=> ?_) fun _ _ z=>z);refine Qaa (QaZ q1 (fun _ z2 q2=>Qaa (QaZ q2 (fun ok z3 q3=> ?_) fun _ _ z=>z)) fun _ _ z=>z)
  cases ok with
  |false=>exact Qae ⟨rfl,q3⟩
  |true=>exact Qaa (Qaa (QaZ q3 (fun x z4 q4=>Qaa (QaZ q4 (fun _ z5 q5=>Qae (Qae ⟨rfl,q5⟩)) fun _ _ z=>z)) fun _ _ z=>z))
theorem Zj1 {pos:PySem.Pos}{it:Value}(hs2:∀x,foldedSetIterable qf env x=pure x)(I:Nat→Shared→Prop)
  (turn:∀n s,I n s→wpAny (model prog w) A (pyNext it) (fun r z1=>match r with
   |none=>R (.ok .next) z1
   |some v=>wpAny (model prog w) A (letOwnedTupleGo tg it v) (fun _ y1=>wpAny (model prog w) A (assign tg env v) (fun _ z2=>
     wpAny (model prog w) A (forIn ifs true fun c r=>if r=true then do let ok←isTrue c env (eval c env);pure (ForInStep.yield ok) else pure (ForInStep.yield r)) (fun ok z3=>
      if ok=true then wpAny (model prog w) A (eval qf env) (fun x z4=>wpAny (model prog w) A (pyIter x) (fun i2 z5=>codeAny (model prog w) A (.compStart (e2 elt tg qe ifs tg2 qf qp scope pos) 1 i2 acc env) (fun r s'=>match r with| .ok _=>∃m,m<n∧I m s'| .error _=>False) z5) (fun _ _=>False) z4) (fun _ _=>False) z3 else∃m,m<n∧I m z3) (fun _ _=>False) z2) (fun _ _=>False) y1) (fun _ _=>False) z1) (fun _ _=>False) s)
  (n:Nat) (h:I n s):codeAny (model prog w) A (.compLoop (e2 elt tg qe ifs tg2 qf qp scope pos) 0 it acc env) R s:=by
 refine Qe1 rfl I (fun n s hI=> ?_) n h;show wpAny _ A ((compTurn (e2 elt tg qe ifs tg2 qf qp scope pos) 0 it acc env).onRaise (fun x=>do noteFrame x env;theTreesLotGoes x)) _ _ s;refine Qft ?_;rw[ZjY];refine Qaa (Qb7 (Qaa (QaZ (turn n s hI) (fun r z1 q1=> ?_) fun _ _ z=>z.elim)))
 cases r with
 |none=>exact Qae q1
 |some v=>
  refine Qaa (QaZ q1 (fun _ y1 q1=> ?_) fun _ _ z=>z.elim);refine Qaa (QaZ q1 (fun _ z2 q2=>Qaa (QaZ q2 (fun ok z3 q3=> ?_) fun _ _ z=>z.elim)) fun _ _ z=>z.elim)
  cases ok with
  |false=>exact Qae ⟨rfl,q3⟩
  |true=>
   refine Qaa (QaZ q3 (fun x z4 q4=>Qaa (Qb7 (Qaa (QeE (hs2 x) (Qaa (Qbd (QaZ q4 (fun i2 z5 q5=> ?_) fun _ _ z=>z.elim))))))) fun _ _ z=>z.elim);refine Qaa (wpAny_runOwn (QcT q5 fun r s' q=> ?_))
   cases r with
   |ok f=>exact Qae ⟨rfl,q⟩
   |error e=>exact q.elim
theorem ZiI {pos:PySem.Pos}{it:Value}
  (h0:codeAny (model prog w) A (.compLoop (e2 elt tg qe ifs tg2 qf qp scope pos) 1 it acc env) R s)
  (h:wpAny (model prog w) A (pyIter it) (fun it' s'=>codeAny (model prog w) A (.compLoop (e2 elt tg qe ifs tg2 qf qp scope pos) 1 it' acc env) R s') (fun _ _=>False) s):
  codeAny (model prog w) A (.compStart (e2 elt tg qe ifs tg2 qf qp scope pos) 1 it acc env) R s:=by
 refine Qdo ?_;show wpAny _ _ ((compStart (e2 elt tg qe ifs tg2 qf qp scope pos) 1 it acc env).onRaise (fun x=>do noteFrame x env;standAt theWindowsPlace)) _ _ s;refine wpAny_notedAt ?_;unfold compStart;show wpAny _ _ (ask>>=_) _ _ s;refine Qaa (Qcl (wpAny_ite ?_));split
 ·exact Qae ⟨rfl,h0⟩
 ·refine Qaa (QbQ ?_);show wpAny _ _ (standAt qf.pos>>=_) _ _ s;exact Qaa (Qb7 (Qaa (QaZ h (fun it' s' q=>Qae ⟨rfl,q⟩) fun _ _ z=>z.elim)))
def CGi (k:Nat)(J:It)(g:TG)(tt:TT)(te:TE)(N:List V→Hp→Prop)(σ:St)(ys:List V)(σ1:St)(H1:Hp):Prop:=∃W:Nat→Nat→List V→St→Hp→Prop,(∃m,W 0 m ys σ1 H1)∧∀j m zs σ' H,W j m zs σ' H→
 (J.stop j H∧N zs H)∨(J.go j H∧zs.length<sizeLine∧∃N2:List V→St→Hp→Prop,(∀ws σ2 H',N2 ws σ2 H'→∃m',m'<m∧W (j+1) m' ws σ2 H')∧∀v H',J.yld j H v H'→g v σ' H' fun σ2 H2=>(∃pre':St,σ2=pre'++σ∧pre'.length=k)∧tt σ2 H2 fun ok H3=>if ok=true then te σ2 H3 fun y H4=>N2 (zs++ [y]) σ2 H4 else N2 zs σ2 H3)
def ZrL (k:Nat)(J:It)(g:TG)(tt:TT)(wi2:TI)(g2:TG)(tt2:TT)(te:TE)(Q:VK)(σ:St)(H1:Hp):Prop:=∃W:Nat→Nat→List V→Hp→Prop,(∃m,W 0 m [] H1)∧∀i m ys H,W i m ys H→
 (J.stop i H∧∀D,H D=none→Q (.ref D) (upd H D (.lst ys)))∨(J.go i H∧∃N:List V→Hp→Prop,(∀zs H',N zs H'→∃m',m'<m∧W (i+1) m' zs H')∧∀v H' (pre:St),pre.length=k→J.yld i H v H'→g v (pre++σ) H' fun σ' H2=>(∃pre':St,σ'=pre'++σ∧pre'.length=k)∧tt σ' H2 fun ok H3=>if ok=true then wi2 σ' H3 fun J2 H4=>CGi k J2 g2 tt2 te N σ ys σ' H4 else N ys H3)
def Zj2 (k:Nat)(wi:TI)(g:TG)(tt:TT)(wi2:TI)(g2:TG)(tt2:TT)(te:TE):TE:=fun σ H Q=>wi σ H fun J H1=>ZrL k J g tt wi2 g2 tt2 te Q σ H1
theorem ZiJ {xs:List Str}{pos:PySem.Pos}
  (hc:X.calm=true) (hi:PI X tg qe wi) (hlen:Nb.length=X.N.length) (hNb:∀p∈Nb.zip X.N,p.1=p.2∨scope.names.lookup p.1=none) (hxN:∀y∈Nb,scope.names.lookup y≠some .local)
  (hg:InB X xs Nb scope fun Y=>PG Y tg g) (ht:InB X xs Nb scope fun Y=>PIf Y ifs tt) (hi2:InB X xs Nb scope fun Y=>PI Y tg2 qf wi2) (hg2:InB X xs Nb scope fun Y=>PG Y tg2 g2) (ht2:InB X xs Nb scope fun Y=>PIf Y qp tt2) (hs2:∀env x,foldedSetIterable qf env x=pure x) (he:InB X xs Nb scope fun Y=>PE Y elt te)
  (qj:∀y∈scope.names,y.2≠ .cell) (qo:scope.kind= .function) (qt:∀y∈scope.names,y.2= .local→scope.names.lookup y.1=some .local)
  (qr:∀y∈scope.names,y.2= .free→X.env.kindOf y.1=some .cell)
  (hs:∀x,foldedSetIterable qe X.env x=pure x) {qv:PySem.Pos} {use:Option (Value→Sem Unit)} {QQ:Value→Shared→Prop} {qc:List (Addr×Obj)} {s:Shared} {σ:St} {H:Hp} {Q:VK} (I:Inv X qc σ H s) (h:Zj2 xs.length wi g tt wi2 g2 tt2 te σ H Q)
  (post:∀(s2 s4:Shared) (H2 H4:Hp) (C D:Addr) (m4:Str→Option Value),Inv X qc σ H2 s2→s2.heap.objs.size≤C→s4.heap.Ns C m4→H4 C=none→(∀h',Heap.SameBut C s4.heap h'→Inv X qc σ H4 {s4 with heap:=h' })→Q (.ref D) H4→compPost (model X.prog X.w) X.A X.xe use QQ (.ref D) C (.ok .next) s4):
  wpAny (model X.prog X.w) X.A (comprehension (.ListComp elt [⟨tg,qe,ifs,0⟩,⟨tg2,qf,qp,0⟩] scope pos) scope X.env qv (newList []) false (eval qe X.env) use) QQ X.xe s:=by
 obtain⟨cl,hcl,cl1,cl2⟩:=Zgz (scope:=scope) (env:=X.env) (fun y hy hf=>I.ok.has y.1 (.inl (qr y hy hf)));refine Qdh rfl hs hcl qo qt (thn (hi qc s σ H _ I h) fun v s1 h1=>thn h1 fun itv s2 h2=> ?_);obtain⟨it,fp,tn,J,H2,e,I2,T,st2,f2,W,⟨m0,w0⟩,turn⟩:=h2;subst e;refine Qbr (QdP qj (by intro y hy;simp at hy) (fun h₁ hns₁ hsb₁=> ?_) qo);dsimp only at hns₁ hsb₁⊢;generalize hHp:s2.heap.push {cls:=.type "list",dict:=none,data:=.seq ([]:List Value).toArray }=Hp2 at hns₁ hsb₁⊢;have hC:Hp2.objs.size=s2.heap.objs.size+1:=by rw[←hHp,QaY]
 have hDC:s2.heap.objs.size≠Hp2.objs.size:=by rw[hC];exact QaJ (QcN _)
 have below:∀b,b<s2.heap.objs.size→b≠Hp2.objs.size∧b≠s2.heap.objs.size:=fun b hb=>⟨by rw[hC];exact QaJ (Qbs hb),QaJ hb⟩;have old:∀b o,s2.heap.get? b=some o→h₁.get? b=some o:=fun b o e=>hsb₁.extBut b o (below b (Qar e)).1 (Qad _ (hHp ▸ Qad _ e));have hacc:h₁.PlainList s2.heap.objs.size #[]:=⟨_,hsb₁.extBut _ _ hDC (Qad _ (hHp ▸ Qaw _ rfl))⟩;generalize hY:cxC X xs Nb scope cl Hp2.objs.size s2 H2 fp=Y;have Yprog:Y.prog=X.prog:=by rw[←hY];rfl
 have fpLt:∀b∈fp,b<s2.heap.objs.size:=fun b hb=>by
  obtain⟨o,e,_⟩:=T.obj _ _ st2 b hb;exact Qar e
 have cellLt:∀y c,cl.lookup y=some c→c<s2.heap.objs.size:=fun y c hc=>by
  obtain⟨v,q⟩:=I2.cell y c (cl1 y c hc);exact q.lt
 have frSub:∀b∈frs X.stack,b<s2.heap.objs.size:=fun b hb=>by
  rcases Qaz.mp (I2.stkSub b hb) with z|z
  ·rw[z];exact I2.lt
  ·by_cases hlt:b<s2.heap.objs.size
   ·exact hlt
   ·exact absurd z (I2.nofs (QdL hlt))
 have ok:(cxC X xs Nb scope cl Hp2.objs.size s2 H2 fp).Ok:=by
  refine⟨I2.ok.mod,qo,I2.ok.glob,I2.ok.blt,(by show s2.heap.objs.size≤Hp2.objs.size;omega),fun y z c h1 h2=>I2.ok.inj y z c (cl1 y c h1) (cl1 z c h2),fun y hy=> ?_,fun y c hf _=>absurd hf (by intro z;cases z),I2.ok.hd,I2.ok.frames,.inl rfl,fun b hb=>⟨?_,fun y c h1 h2=> ?_⟩,I2.bs,QaE I2.ok.bsz I2.sz,fun b o e hb=> ?_,fun b hb hm=> ?_,I2.stack,I2.stkFree⟩
  ·have hy:(scope.names.map fun(n,k)=>if(k==NameKind.free && X.env.scope.kind== .function && X.env.kindOf n==some .cell) then(n,NameKind.cell) else(n,k)).lookup y=some .cell∨(scope.names.map fun(n,k)=>if(k==NameKind.free && X.env.scope.kind== .function && X.env.kindOf n==some .cell) then(n,NameKind.cell) else(n,k)).lookup y=some .free:=hy
   have q:scope.names.lookup y=some .free:=by
    rcases hy with z|z
    ·exact(ZaQ qj z (.inl rfl)).1
    ·exact(ZaQ qj z (.inr rfl)).1
   exact Qbz.mp (cl2 y (Qa9 q))
  ·exact(below b (fpLt b hb)).1
  ·exact(f2 b hb).2.2.2.2.1 y c (cl1 y c h1) h2
  ·rcases(f2 b hb).2.2.2.1 with z|z
   ·exact I2.ok.noex b o e z
   ·exact absurd (QaT (Qar e) (QaE I2.ok.bsz z)) (Qba _)
  ·rcases Qaz.mp (I2.stkSub b hm) with z|z
   ·exact(f2 b hb).2.1 z
   ·exact(f2 b hb).2.2.1 z
 have fpY:∀{H':Hp} {pl:List (Addr×Obj)},(∀b∈fp,H' b=none)→(∀p∈pl,p.1=s2.heap.objs.size)→∀b∈fp,Zi7 Y pl H' b:=fun{H' pl} hn hp b hb=>by
  rw[←hY];refine⟨hn b hb,(below b (fpLt b hb)).1,fun hm=> ?_,.inl hb,fun y c h1 h2=>(f2 b hb).2.2.2.2.1 y c (cl1 y c h1) h2,fun p hm z=> ?_⟩
  ·rcases Qaz.mp (I2.stkSub b hm) with z|z
   ·exact(f2 b hb).2.1 z
   ·exact(f2 b hb).2.2.1 z
  ·have hm:p∈pl:=hm;rw[hp p hm] at z;exact(below b (fpLt b hb)).2 z.symm
 have HD:H2 s2.heap.objs.size=none:=I2.hok.fresh (Qak _);have HC:H2 Hp2.objs.size=none:=I2.hok.fresh (by omega);obtain⟨m2,hns2,hloc2⟩:=I2.loc
 have IY:∀tk,Inv (cxC X xs Nb scope cl Hp2.objs.size s2 H2 fp) [] (List.replicate xs.length none++σ) H2 {s2 with heap:=h₁,toks:=tk }:=fun tk=>by
  refine⟨ok,rfl,I2.bare,Un.kept old,⟨_,hns₁,fun i y v h1 h2 h3=> ?_⟩,fun y c h1=> ?_,HC,fun y c h1=>I2.freeC y c (cl1 y c h1),fun p hp=>absurd (show p∈([]:List (Addr×Obj)) from hp) (by simp),I2.hok.kept old,(by show(List.replicate xs.length (none:Option V)++σ).length=(xs++Nb).length;rw[Qag,Qag,Qax,hlen,I2.len])⟩
  ·have h1:(xs++Nb)[i]?=some y:=h1;by_cases hik:i<xs.length
   ·rw[QaF (by rw[Qax];exact hik),QbD,if_pos hik] at h2;cases h2
   ·rw[Qav (by omega)] at h1;rw[Qav (by rw[Qax];omega),Qax] at h2;generalize i-xs.length=i at h1 h2;have h3:Vis (relabel scope X.env) y:=h3
    have key:∀k,(k=NameKind.cell∨k=NameKind.free)→(relabel scope X.env).names.lookup y=some k→∃u,ZaY v u∧ZqM (compEnvC scope cl Hp2.objs.size X.env) h₁ (fun x=>([]:List (Str×Value)).reverse.lookup x) y u:=fun k hk hl=>by
     obtain⟨q1,_⟩:=ZaQ qj hl hk;have q2:=qr (y,.free) (Qa9 q1) rfl
     have h1':X.N[i]?=some y:=by
      have hi':i<X.N.length:=by rw[←hlen];exact(Qaf.mp h1).1
      have hz:(Nb.zip X.N)[i]?=some (y,X.N[i]):=by rw[Qc8];exact⟨h1,Qab hi'⟩
      rcases hNb _ (Qap hz) with z|z
      ·have z:y=X.N[i]:=z;rw[z];exact Qab hi'
      ·have z:scope.names.lookup y=none:=z;rw[q1] at z;cases z
     obtain⟨u,r,l⟩:=hloc2 i y v h1' h2 (.inr (.inl q2));refine⟨u,r,.inr ⟨?_,?_⟩⟩
     ·rcases hk with rfl|rfl
      ·exact .inl hl
      ·exact .inr hl
     ·rcases l with⟨k1,_⟩|⟨_,c,e1,z⟩
      ·rw[q2] at k1;cases k1
      ·obtain⟨c',e2⟩:=Qbz.mp (cl2 y (Qa9 q1));have e3:=cl1 y c' e2;rw[e1] at e3;cases e3;obtain⟨o,ho,hd⟩:=z;exact⟨c,e2,o,old c o ho,hd⟩
    rcases h3 with h3|h3|h3
    ·
     exfalso;exact hxN y (Qap h1) (Zb1 h3)
    ·exact key _ (.inl rfl) h3
    ·exact key _ (.inr rfl) h3
  ·obtain⟨v,o,ho,hd⟩:=I2.cell y c (cl1 y c h1);exact⟨v,o,old c o ho,hd⟩
 have noErr:∀{α:Type} {m:Sem α} {G:α→Shared→Prop} {E':Value→Shared→Prop} {s':Shared},wpAny (model X.prog X.w) X.A m G (fun _ _=>False) s'→wpAny (model X.prog X.w) X.A m G E' s':=fun h=>QaZ h (fun _ _ q=>q) fun _ _ q=>q.elim
 have loop:∀(tk:Nat) (R:Result→Shared→Prop),R=compPost (model X.prog X.w) X.A X.xe use QQ (.ref s2.heap.objs.size) Hp2.objs.size→
   codeAny (model X.prog X.w) X.A (.compLoop (.ListComp elt [⟨tg,qe,ifs,0⟩,⟨tg2,qf,qp,0⟩] scope pos) 0 (.ref it) (.ref s2.heap.objs.size) (compEnvC scope cl Hp2.objs.size X.env)) R {s2 with heap:=h₁,toks:=tk }:=by
  rintro tk R rfl
  refine Zj1 (fun x=>hs2 _ x) (fun n s'=>∃i σv H' ys its,σv.length=xs.length∧Inv Y [] (σv++σ) H' s'∧tn i s'.heap∧(∀b∈fp,H' b=none)∧ZaR ys its∧ys.length≤sizeLine∧s'.heap.PlainList s2.heap.objs.size its.toArray∧H' s2.heap.objs.size=none∧W i n ys H') ?_ m0
   ⟨0,List.replicate xs.length none,H2,[],[],Qax,hY ▸ IY tk,T.keep _ _ _ st2 fun b _ o e=>old b o e,fun b hb=>(f2 b hb).1,.nil,QaU _,hacc,HD,w0⟩
  rintro n s3 ⟨i,σv,H3,ys,its,lv,I3,st3,fr3,rv,hz,⟨nn,pl3⟩,HD3,w3⟩
  have I3p:Inv Y [(s2.heap.objs.size,{cls:=.type "list",data:=.seq its.toArray nn })] (σv++σ) H3 s3:=I3.pins_of fun p hp=>by
   rw[Qaj] at hp;subst hp;refine⟨pl3,HD3,?_,fun hm=> ?_,fun v z=>by cases z⟩
   ·rw[←hY];exact hDC
   ·rw[←hY] at hm;exact absurd (frSub _ hm) (Qba _)
  have pinD:∀p∈[((s2.heap.objs.size:Addr),({cls:=.type "list",data:=.seq its.toArray nn }:Obj))],p.1=s2.heap.objs.size:=fun p hp=>by
   rw[Qaj] at hp;rw[hp]
  subst hY;rcases turn i n ys H3 w3 with⟨stop,qn⟩|⟨go,NN,hNN,step⟩
  ·refine noErr (thn (T.done (cxC X xs Nb scope cl Hp2.objs.size s2 H2 fp) rfl rfl rfl hc i _ s3 _ H3 (fun _ _=>False) I3p (fpY fr3 pinD) st3 stop) fun r s4 ⟨hr,I4⟩=> ?_);subst hr;obtain⟨m4,hns4,_⟩:=I4.loc;refine post s2 s4 H2 (upd H3 s2.heap.objs.size (.lst ys)) Hp2.objs.size s2.heap.objs.size m4 I2 (by omega) hns4 (by rw[Zak (Ne.symm hDC)];exact I4.free) (fun h' sb=> ?_) (qn _ HD3);have pl4:=(I4.pin _ (Qah _ Qai)).1;have up:∀b o,b≠Hp2.objs.size→s4.heap.get? b=some o→h'.get? b=some o:=fun b o hb e=>sb.extBut b o hb e;have base:=I4.base;have HC4:H3 Hp2.objs.size=none:=I4.free;have neC:∀b o,s2.heap.get? b=some o→b≠Hp2.objs.size:=fun b o e=>(below b (Qar e)).1;have neD:∀b o,s2.heap.get? b=some o→b≠s2.heap.objs.size:=fun b o e=>(below b (Qar e)).2
   have hokN:HOk X.prog X.w (upd H3 s2.heap.objs.size (.lst ys)) h':=fun b u e=>by
    by_cases hb:b=s2.heap.objs.size
    ·subst hb;rw[Zab] at e;cases e;exact⟨hz,its,nn,rv,up _ _ hDC pl4⟩
    ·rw[Zak hb] at e;refine(I4.hok b u e).stay (fun c v hc q=>up c v ?_ q) (fun c q=>by rw[Zak (Zah q HD3)];exact q) fun c xs q=>by rw[Zak (Zah q HD3)];exact q
     rcases hc with z|z
     ·rw[z];exact Zah e HC4
     ·exact Zah z HC4
   refine I2.call' (s':={s4 with heap:=h' }) (ch:=fp) I4.os ⟨fun b o e n hb hx'=>up b o (neC b o e) (base.keep b o e n hb hx'),fun b o e n hb hx'=> ?_,fun b o e n hx'=> ?_,fun b o e hx'=> ?_,fun b xs e=> ?_,fun b o u e=> ?_,fun b ps e=> ?_⟩ hokN I4.bare (fun b hb=> ?_)
   ·obtain⟨sl,q⟩:=base.slot b o e n hb hx';exact⟨sl,up b _ (neC b o e) q⟩
   ·rw[Zak (neD b o e)];exact base.free b o e n hx'
   ·obtain⟨o',q⟩:=base.there b o e hx';exact⟨o',up b o' (neC b o e) q⟩
   ·have q:=base.tups b xs e;rw[Zak (Zah q HD3)];exact q
   ·have q:=base.frzs b o u e;rw[Zak (Zah q HD3)];exact q
   ·obtain⟨more,q⟩:=base.tbls b ps e;exact⟨more,by rw[Zak (Zah q HD3)];exact q⟩
   ·obtain⟨_,g1,_,g3,g4,g5⟩:=f2 b hb;exact⟨g3,g1,g4,g5⟩
  ·refine noErr (thn (T.item (cxC X xs Nb scope cl Hp2.objs.size s2 H2 fp) rfl rfl rfl hc i _ s3 _ H3 (fun _ _=>False) I3p (fpY fr3 pinD) st3 go) fun r s4 ⟨u,hr,h4⟩=> ?_);subst hr;refine noErr (thn h4 fun _ s5 ⟨v,H5,I5,r5,y5,st5,fr5⟩=> ?_);have I5':=I5.pinned (fpY fr5 pinD) (T.obj _ _ st5);have stp:=step v H5 σv lv y5;refine noErr (thn (hg cl Hp2.objs.size s2 H2 fp _ s5 _ H5 v u _ I5' r5 stp) fun _ s6 ⟨σ6,H6,I6,⟨pre',e6,l6⟩,stp⟩=> ?_);subst e6;generalize hpo:Zdf fp s5.heap=po at I5' I6;have poA:∀p∈po,p.1∈fp:=fun p hp=>by rw[←hpo] at hp;exact(Zfy hp).1
   have poD:∀p∈po,p.1≠s2.heap.objs.size:=fun p hp=>(below _ (fpLt _ (poA p hp))).2
   have again:∀{s7:Shared} {H7:Hp} {pre7:St} {zs:List V} {ws:List Value} {m':Nat},pre7.length=xs.length→Inv (cxC X xs Nb scope cl Hp2.objs.size s2 H2 fp) po (pre7++σ) H7 s7→s7.heap.PlainList s2.heap.objs.size ws.toArray→H7 s2.heap.objs.size=none→ZaR zs ws→zs.length≤sizeLine→m'<n→W (i+1) m' zs H7→
     ∃m,m<n∧∃i σv H' ys its,σv.length=xs.length∧Inv (cxC X xs Nb scope cl Hp2.objs.size s2 H2 fp) [] (σv++σ) H' s7∧tn i s7.heap∧(∀b∈fp,H' b=none)∧ZaR ys its∧ys.length≤sizeLine∧s7.heap.PlainList s2.heap.objs.size its.toArray∧H' s2.heap.objs.size=none∧W i m ys H':=by
    intro s7 H7 pre7 zs ws m' l7 I7 plw HD7 rz hzz hm w7
    have fr7:∀b∈fp,H7 b=none:=fun b hb=>by
     obtain⟨o,e,d⟩:=T.obj _ _ st5 b hb;exact(I7.pin (b,o) (Qah _ (by rw[←hpo];exact Za0 hb e))).2.1
    refine⟨m',hm,i+1,pre7,H7,zs,ws,l7,I7.pins_of fun p hp=>absurd hp (by simp),?_,fr7,rz,hzz,plw,HD7,w7⟩;refine T.keep _ _ _ st5 fun b hb o e=> ?_;exact(I7.pin (b,o) (Qah _ (by rw[←hpo];exact Za0 hb e))).1
   refine noErr (thn (ht cl Hp2.objs.size s2 H2 fp _ s6 _ H6 _ I6 stp) fun okb s7 ⟨H7,I7,q7⟩=> ?_);have pl7:=(I7.pin _ (Qah _ (Qat _ Qai)));have I7o:Inv (cxC X xs Nb scope cl Hp2.objs.size s2 H2 fp) po (pre'++σ) H7 s7:=I7.pins_of fun p hp=>I7.pin p (Qah _ (Qah _ hp))
   cases okb with
   |false=>
    rw[if_neg QaI] at q7⊢;obtain⟨m',hm,w7⟩:=hNN _ _ q7;exact again l6 I7o ⟨nn,pl7.1⟩ pl7.2.1 rv hz hm w7
   |true=>
    rw[if_pos rfl] at q7⊢;refine noErr (thn (hi2 cl Hp2.objs.size s2 H2 fp _ s7 _ H7 _ I7 q7) fun x s8 h8=>noErr (thn h8 fun itv s9 h9=> ?_));obtain⟨it2,fp2,tn2,J2,H9,e9,I9,T2,st9,f9,W2,⟨m2,w2⟩,turn2⟩:=h9;subst e9;have pl9:=(I9.pin _ (Qah _ (Qat _ Qai)));have I9o:Inv (cxC X xs Nb scope cl Hp2.objs.size s2 H2 fp) po (pre'++σ) H9 s9:=I9.pins_of fun p hp=>I9.pin p (Qah _ (Qah _ hp));have fp2D:∀b∈fp2,b≠s2.heap.objs.size:=fun b hb z=>(f9 b hb).2.2.2.2.2 _ (Qah _ (Qat _ Qai)) z.symm
    have inner:codeAny (model X.prog X.w) X.A (.compLoop (e2 elt tg qe ifs tg2 qf qp scope pos) 1 (.ref it2) (.ref s2.heap.objs.size) (compEnvC scope cl Hp2.objs.size X.env)) (fun r s'=>match r with| .ok _=>∃m,m<n∧∃i σv H' ys its,σv.length=xs.length∧Inv (cxC X xs Nb scope cl Hp2.objs.size s2 H2 fp) [] (σv++σ) H' s'∧tn i s'.heap∧(∀b∈fp,H' b=none)∧ZaR ys its∧ys.length≤sizeLine∧s'.heap.PlainList s2.heap.objs.size its.toArray∧H' s2.heap.objs.size=none∧W i m ys H'| .error _=>False) s9:=by
     refine Zj0 rfl (fun n' s'=>∃(j:Nat) (pv:St) (H':Hp) (zs:List V) (ws:List Value),pv.length=xs.length∧Inv (cxC X xs Nb scope cl Hp2.objs.size s2 H2 fp) po (pv++σ) H' s'∧tn2 j s'.heap∧(∀b∈fp2,H' b=none)∧ZaR zs ws∧zs.length≤sizeLine∧s'.heap.PlainList s2.heap.objs.size ws.toArray∧H' s2.heap.objs.size=none∧W2 j n' zs (pv++σ) H') ?_ m2 ⟨0,pre',H9,ys,its,l6,I9o,st9,fun b hb=>(f9 b hb).1,rv,hz,⟨nn,pl9.1⟩,pl9.2.1,w2⟩;rintro n' t0 ⟨j,pv,K0,zs,ws,lpv,J0,tst,tfr,rz,hzz,⟨nz,plz⟩,KD,ww⟩
     have J0p:Inv (cxC X xs Nb scope cl Hp2.objs.size s2 H2 fp) ([((s2.heap.objs.size:Addr),({cls:=.type "list",data:=.seq ws.toArray nz }:Obj))]++po) (pv++σ) K0 t0:=J0.pins_of fun p hp=>by
      rcases Qaq.mp hp with hp|hp
      ·rw[Qaj] at hp;subst hp;exact⟨plz,KD,hDC,fun hm=>absurd (frSub _ hm) (Qba _),fun v z=>by cases z⟩
      ·exact J0.pin p (Qah _ hp)
     have fpI:∀{K':Hp},(∀b∈fp2,K' b=none)→∀b∈fp2,Zi7 (cxC X xs Nb scope cl Hp2.objs.size s2 H2 fp) ([((s2.heap.objs.size:Addr),({cls:=.type "list",data:=.seq ws.toArray nz }:Obj))]++po) K' b:=fun{K'} hn b hb=>by
      obtain⟨_,a1,a2,a3,a4,a5⟩:=f9 b hb;refine⟨hn b hb,a1,a2,a3,a4,fun p hp=> ?_⟩;have hp:p∈[((s2.heap.objs.size:Addr),({cls:=.type "list",data:=.seq ws.toArray nz }:Obj))]++po:=hp;rcases Qaq.mp hp with hp|hp
      ·rw[Qaj] at hp;subst hp;exact fun z=>fp2D b hb z.symm
      ·exact a5 p (Qah _ (Qah _ hp))
     rcases turn2 j n' zs _ K0 ww with⟨stop2,qn2⟩|⟨go2,hlt2,N2,hN2,step2⟩
     ·refine noErr (thn (T2.done (cxC X xs Nb scope cl Hp2.objs.size s2 H2 fp) rfl rfl rfl hc j _ t0 _ K0 (fun _ _=>False) J0p (fpI tfr) tst stop2) fun r t1 ⟨hr,J1⟩=> ?_);subst hr;obtain⟨m',hm,w7⟩:=hNN _ _ qn2;have p1:=J1.pin _ (Qah _ (Qat _ Qai));exact again lpv (J1.pins_of fun p hp=>J1.pin p (Qah _ (Qah _ hp))) ⟨nz,p1.1⟩ p1.2.1 rz hzz hm w7
     ·refine noErr (thn (T2.item (cxC X xs Nb scope cl Hp2.objs.size s2 H2 fp) rfl rfl rfl hc j _ t0 _ K0 (fun _ _=>False) J0p (fpI tfr) tst go2) fun r t1 ⟨u2,hr,h4⟩=> ?_);subst hr;refine noErr (thn h4 fun _ t2 ⟨v2,K2,J2',r2,y2,ts2,tf2⟩=> ?_);have J2p:=J2'.pinned (fpI tf2) (T2.obj _ _ ts2);have stp2:=step2 v2 K2 y2;refine noErr (thn (hg2 cl Hp2.objs.size s2 H2 fp _ t2 _ K2 v2 u2 _ J2p r2 stp2) fun _ t3 ⟨σ7,K3,J3,⟨pv',e7,l7⟩,stp2⟩=> ?_);subst e7
      have again2:∀{t7 t8:Shared} {K7:Hp} {zs':List V} {ws':List Value} {m':Nat},Inv (cxC X xs Nb scope cl Hp2.objs.size s2 H2 fp) (([((s2.heap.objs.size:Addr),({cls:=.type "list",data:=.seq ws.toArray nz }:Obj))]++po)++Zdf fp2 t2.heap) (pv'++σ) K7 t7→
        (∃h',t8={t7 with heap:=h' }∧(∀b o,b≠s2.heap.objs.size→t7.heap.get? b=some o→h'.get? b=some o)∧h'.PlainList s2.heap.objs.size ws'.toArray)→ZaR zs' ws'→zs'.length≤sizeLine→m'<n'→W2 (j+1) m' zs' (pv'++σ) K7→
        ∃m,m<n'∧∃(j:Nat) (pv:St) (H':Hp) (zs:List V) (ws:List Value),pv.length=xs.length∧Inv (cxC X xs Nb scope cl Hp2.objs.size s2 H2 fp) po (pv++σ) H' t8∧tn2 j t8.heap∧(∀b∈fp2,H' b=none)∧ZaR zs ws∧zs.length≤sizeLine∧t8.heap.PlainList s2.heap.objs.size ws.toArray∧H' s2.heap.objs.size=none∧W2 j m zs (pv++σ) H':=by
       rintro t7 t8 K7 zs' ws' m' J7 ⟨h',rfl,up,plw⟩ rz' hzz' hm w7;have KD7:K7 s2.heap.objs.size=none:=(J7.pin _ (Qah _ (Qat _ (Qat _ Qai)))).2.1
       have p2:∀b∈fp2,∃o,t2.heap.get? b=some o∧t7.heap.get? b=some o∧K7 b=none:=fun b hb=>by
        obtain⟨o,e,d⟩:=T2.obj _ _ ts2 b hb
        have:=J7.pin (b,o) (Qah _ (Qah _ (Za0 hb e)));exact⟨o,e,this.1,this.2.1⟩
       have J7':Inv (cxC X xs Nb scope cl Hp2.objs.size s2 H2 fp) po (pv'++σ) K7 t7:=J7.pins_of fun p hp=>J7.pin p (Qah _ (Qat _ (Qah _ hp)));refine⟨m',hm,j+1,pv',K7,zs',ws',l7,?_,?_,fun b hb=>(p2 b hb).choose_spec.2.2,rz',hzz',plw,KD7,w7⟩
       ·have:=J7'.turned (it:=s2.heap.objs.size) (h':=h') (t':=t7.toks) up KD7 hDC (.inr (Qak _)) (fun y c h1 h2=>absurd (cellLt y c h1) (by rw[h2];exact Qba _)) (fun p hp=>poD p hp);exact this
       ·refine T2.keep _ _ _ ts2 fun b hb o e=>up b o (fp2D b hb) ?_;obtain⟨o',e1,e2,_⟩:=p2 b hb;rw[e] at e1;cases e1;exact e2
      refine noErr (thn (ht2 cl Hp2.objs.size s2 H2 fp _ t3 _ K3 _ J3 stp2) fun okb t7 ⟨K7,J7,q7⟩=> ?_);have pl7:=(J7.pin _ (Qah _ (Qat _ (Qat _ Qai)))).1
      cases okb with
      |false=>
       rw[if_neg QaI] at q7⊢;obtain⟨m',hm,w7⟩:=hN2 _ _ _ q7;exact again2 J7 ⟨t7.heap,rfl,fun _ _ _ e=>e,nz,pl7⟩ rz hzz hm w7
      |true=>
       rw[if_pos rfl] at q7⊢;refine noErr (thn (he cl Hp2.objs.size s2 H2 fp _ t7 _ K7 _ J7 q7) fun w' t8 ⟨y,K8,J8,r8,q8⟩=> ?_);obtain⟨m',hm,w8⟩:=hN2 _ _ _ q8;have pl8:=(J8.pin _ (Qah _ (Qat _ (Qat _ Qai)))).1;refine QeD (hsz:=by have:=rz.length;simp only[QaD];omega) ⟨nz,pl8⟩ fun h9 pl9 sb9=> ?_;refine again2 J8 ⟨h9,rfl,fun b o hb e=>sb9.extBut b o hb e,?_⟩ (rz.append (.cons r8 .nil)) (by rw[Qag,Qb4];omega) hm w8;have e9:ws.toArray.push w'=(ws++ [w']).toArray:=by simp
       rw[←e9];exact pl9
    exact ZiI inner (T2.self _ 0 _ _ _ st9 inner)
 refine QeT (loop _ _ rfl) (noErr (T.self _ 0 _ _ _ (T.keep _ _ _ st2 fun b _ o e=>old b o e) (loop _ _ rfl)))
theorem Zl0 {xs:List Str}{pos:PySem.Pos}
  (hc:X.calm=true) (hi:PI X tg qe wi) (hlen:Nb.length=X.N.length) (hNb:∀p∈Nb.zip X.N,p.1=p.2∨scope.names.lookup p.1=none) (hxN:∀y∈Nb,scope.names.lookup y≠some .local)
  (hg:InB X xs Nb scope fun Y=>PG Y tg g) (ht:InB X xs Nb scope fun Y=>PIf Y ifs tt) (hi2:InB X xs Nb scope fun Y=>PI Y tg2 qf wi2) (hg2:InB X xs Nb scope fun Y=>PG Y tg2 g2) (ht2:InB X xs Nb scope fun Y=>PIf Y qp tt2) (he:InB X xs Nb scope fun Y=>PE Y elt te)
  (qj:∀y∈scope.names,y.2≠ .cell) (qo:scope.kind= .function) (qt:∀y∈scope.names,y.2= .local→scope.names.lookup y.1=some .local)
  (qr:∀y∈scope.names,y.2= .free→X.env.kindOf y.1=some .cell)
  (hs:∀x,foldedSetIterable qe X.env x=pure x:=by intro _;rfl) (hs2:∀env x,foldedSetIterable qf env x=pure x:=by intro _ _;rfl):
  PE X (.ListComp elt [⟨tg,qe,ifs,0⟩,⟨tg2,qf,qp,0⟩] scope pos) (Zj2 xs.length wi g tt wi2 g2 tt2 te):=by
 intro qc s σ H Q I h;rw[eval_ListComp];exact ZiJ (use:=none) (QQ:=EP X qc σ Q) hc hi hlen hNb hxN hg ht hi2 hg2 ht2 hs2 he qj qo qt qr hs I h fun s2 s4 H2 H4 C D m4 _ _ hn _ IX q=>⟨m4,hn,fun h' sb=>⟨.ref D,H4,IX h' sb,rfl,q⟩⟩
theorem Zog {K:PySem.W.Frag}{k:Nat}{xs:List V}{Q:VK}(Pv:Nat→List V→Hp→Prop)(h0:Pv 0 [] H)(hl:∀i ys H,i≤xs.length→Pv i ys H→SqL K H a xs)
  (hs:∀i x ys H (pre:St),pre.length=k→xs[i]?=some x→Pv i ys H→g x (pre++σ) H fun σ' H2=>(∃pre':St,σ'=pre'++σ∧pre'.length=k)∧tt σ' H2 fun ok H3=>if ok=true then wi2 σ' H3 fun J2 H4=>CGi k J2 g2 tt2 te (Pv (i+1)) σ ys σ' H4 else Pv (i+1) ys H3)
  (hd:∀ys H,Pv xs.length ys H→∀D,H D=none→Q (.ref D) (upd H D (.lst ys))):ZrL k (Itl K a) g tt wi2 g2 tt2 te Q σ H:=by
 refine⟨fun i m ys H=>m=xs.length-i∧i≤xs.length∧Pv i ys H,⟨xs.length,by simp,QaU _,h0⟩,?_⟩;rintro i m ys H ⟨rfl,hi,p⟩;have q:=hl i ys H hi p;by_cases hlt:i<xs.length
 ·refine .inr ⟨⟨xs,xs[i],q,by simp[hlt]⟩,Pv (i+1),fun zs H' p'=>⟨xs.length-(i+1),by omega,rfl,hlt,p'⟩,fun x H' pre hp y=> ?_⟩;obtain⟨e,y⟩:=y;subst e;exact hs i x ys _ pre hp (y xs q) p
 ·have e:i=xs.length:=by omega
  subst e;exact .inl ⟨⟨xs,q,Qak _⟩,hd ys H p⟩
section
variable {κ:Type} [DecidableEq κ]
def Zdm (kvs:List (κ×V))(k:κ):Option V:=(kvs.find? fun kv=>decide (kv.1=k)).map (·.2)
def Zet (kvs:List (κ×V))(k:κ)(v:V):List (κ×V):=
 if(kvs.any fun kv=>decide (kv.1=k))=true then kvs.map (fun kv=>if kv.1=k then(kv.1,v) else kv) else kvs++ [(k,v)]
theorem Zba {p:κ×V}{r:List (κ×V)}{k:κ}(e:p.1=k):Zdm (p::r) k=some p.2:=by simp[Zdm,Qch,e]
theorem Zbb {p:κ×V}{r:List (κ×V)}{k:κ}(e:¬p.1=k):Zdm (p::r) k=Zdm r k:=by simp[Zdm,Qch,e]
theorem Zdt (k:κ):∀kvs:List (κ×V),(kvs.any fun kv=>decide (kv.1=k))=(Zdm kvs k).isSome
 | []=>rfl
 |p::r=>by
  rw[Qcy];by_cases e:p.1=k
  ·simp only[Zba e,QaK e,Bool.true_or,Option.isSome_some]
  ·rw[Zbb e,QaC e,Bool.false_or];exact Zdt k r
theorem ZhT (k j:κ)(y:V):∀kvs:List (κ×V),Zdm (kvs.map fun kv=>if kv.1=k then(kv.1,y) else kv) j=(Zdm kvs j).map fun x=>if j=k then y else x
 | []=>rfl
 |p::r=>by
  have ih:=ZhT k j y r;rw[QaV];by_cases h:p.1=k
  ·rw[if_pos h];by_cases e:p.1=j
   ·rw[Zba (p:=(p.1,y)) e,Zba e,Qd4,if_pos (e.symm.trans h)]
   ·rw[Zbb (p:=(p.1,y)) e,Zbb e,ih]
  ·rw[if_neg h];by_cases e:p.1=j
   ·rw[Zba (p:=p) e,Zba e,Qd4,if_neg (fun z=>h (e.trans z))]
   ·rw[Zbb (p:=p) e,Zbb e,ih]
theorem ZfP (k j:κ)(y:V):∀kvs:List (κ×V),Zdm kvs k=none→Zdm (kvs++ [(k,y)]) j=if j=k then some y else Zdm kvs j
 | [],_=>by
  by_cases e:k=j
  ·rw[if_pos e.symm];exact Zba (p:=(k,y)) e
  ·rw[if_neg (fun z=>e z.symm)];exact Zbb (p:=(k,y)) e
 |p::r,hn=>by
  rw[List.cons_append];have hk:¬p.1=k:=fun z=>by rw[Zba z] at hn;cases hn
  rw[Zbb hk] at hn;have ih:=ZfP k j y r hn;by_cases e:p.1=j
  ·rw[Zba e,Zba e,if_neg (fun z=>hk (e.trans z))]
  ·rw[Zbb e,Zbb e,ih]
theorem ZhU (kvs:List (κ×V))(k j:κ)(y:V):Zdm (Zet kvs k y) j=if j=k then some y else Zdm kvs j:=by
 unfold Zet;by_cases a:(kvs.any fun kv=>decide (kv.1=k))=true
 ·rw[if_pos a,ZhT];rw[Zdt] at a;by_cases e:j=k
  ·obtain⟨x,hx⟩:=Qbz.mp a;rw[if_pos e,e,hx,Qd4,if_pos rfl]
  ·rw[if_neg e]
   cases Zdm kvs j with
   |none=>rfl
   |some x=>rw[Qd4,if_neg e]
 ·rw[if_neg a];refine ZfP k j y kvs ?_;rw[Zdt] at a
  cases q:Zdm kvs k with
  |none=>rfl
  |some x=>rw[q] at a;exact(a rfl).elim
theorem ZdR (kvs:List (κ×V))(k:κ)(v:V):(Zet kvs k v).length≤kvs.length+1:=by
 unfold Zet;split
 ·rw[Qac];omega
 ·rw[Qag,QaM,QbM];omega
theorem Zi5.isSome_eq {o:Option V}{u:Option Value}(r:Zi5 o u):o.isSome=u.isSome:=by
 cases o with
 |none=>cases u with
  |none=>rfl
  |some _=>exact(show False from r).elim
 |some _=>cases u with
  |none=>exact(show False from r).elim
  |some _=>rfl
theorem Zi5.getD {o:Option V}{u:Option Value}{d:V}{d':Value}(r:Zi5 o u)(rd:ZaY d d'):ZaY (o.getD d) (u.getD d'):=by
 cases o with
 |none=>cases u with
  |none=>exact rd
  |some _=>exact(show False from r).elim
 |some _=>cases u with
  |none=>exact(show False from r).elim
  |some _=>exact r
theorem KV.val {kvs:List (κ×V)}{vs:List (κ×Value)}(r:KV kvs vs)(k:κ):Zi5 (Zdm kvs k) (valueAt vs k):=by
 unfold KV at r
 induction r with
 |nil=>exact QfD
 | @cons p q ps qs h t ih=>
  obtain⟨h1,h2⟩:=h;by_cases e:p.1=k
  ·have e':q.1=k:=h1.symm.trans e;have b:valueAt (q::qs) k=some q.2:=by simp[valueAt,Qch,e']
   rw[Zba e,b];exact h2
  ·have e':¬q.1=k:=fun z=>e (h1.trans z);have b:valueAt (q::qs) k=valueAt qs k:=by simp[valueAt,Qch,e']
   rw[Zbb e,b];exact ih
theorem KV.any {kvs:List (κ×V)}{vs:List (κ×Value)}(r:KV kvs vs)(k:κ):(kvs.any fun kv=>decide (kv.1=k))=vs.any fun kv=>decide (kv.1=k):=by
 unfold KV at r
 induction r with
 |nil=>rfl
 |cons h t ih=>rw[Qcy,Qcy,ih,h.1]
theorem KV.repl {kvs:List (κ×V)}{vs:List (κ×Value)}(r:KV kvs vs)(k:κ){y:V}(ry:ZaY y u):
  KV (kvs.map fun kv=>if kv.1=k then(kv.1,y) else kv) (vs.map fun kv=>if kv.1=k then(kv.1,u) else kv):=by
 unfold KV at r⊢
 induction r with
 |nil=>exact .nil
 | @cons p q ps qs h t ih=>
  rw[QaV,QaV];refine .cons ?_ ih;obtain⟨h1,h2⟩:=h;by_cases e:p.1=k
  ·rw[if_pos e,if_pos (h1.symm.trans e)];exact⟨h1,ry⟩
  ·rw[if_neg e,if_neg (fun z=>e (h1.trans z))];exact⟨h1,h2⟩
theorem KV.put {kvs:List (κ×V)}{vs:List (κ×Value)}(r:KV kvs vs)(k:κ){y:V}(ry:ZaY y u):KV (Zet kvs k y) (stored vs k u):=by
 unfold Zet stored;rw[r.any k];by_cases e:(vs.any fun kv=>decide (kv.1=k))=true
 ·rw[if_pos e,if_pos e];exact r.repl k ry
 ·rw[if_neg e,if_neg e];exact Paired.snoc r ⟨rfl,ry⟩
theorem KV.length {kvs:List (κ×V)}{vs:List (κ×Value)}(r:KV kvs vs):kvs.length=vs.length:=QeA r
end
theorem Zl1 {k:Key}(r:ZaY (kV k) u):(Za2 P w).is k u=true:=by
 cases k with
 |inl i=>obtain⟨t,e⟩:=(show∃t,u=Value.int i t from r);subst e;exact Zgq P w i t
 |inr x=>obtain⟨t,e⟩:=(show∃t,u=Value.str x t from r);subst e;exact Zgr P w x t
theorem ZfQ {P:Program}{w:World}:∀{ks:List Key} {us:List Value},ZaR (ks.map kV) us→ItemsAre (Za2 P w) ks us
 | [],_,r=>by rw[QfF] at r;cases r;exact .nil
 |k::ks,_,r=>by
  rw[QaV] at r
  cases r with
  |cons h t=>exact .cons (Zl1 h) (ZfQ t)
abbrev KT (H:Hp):List (List Key×V)→List (List Key×Addr×Value)→Prop:=Paired fun p q=>p.1=q.1∧H q.2.1=some (.tup (p.1.map kV))∧ZaY p.2 q.2.2
theorem KT.val {kvs:List (List Key×V)}{xs:List (List Key×Addr×Value)}(r:KT H kvs xs)(k:List Key):Zi5 (Zdm kvs k) ((atKey xs k).map (·.2)):=by
 induction r with
 |nil=>exact QfD
 | @cons p q ps qs h t ih=>
  obtain⟨h1,_,h2⟩:=h;by_cases e:p.1=k
  ·have e':q.1=k:=h1.symm.trans e;have b:atKey (q::qs) k=some q.2:=by simp[atKey,Qch,e']
   rw[Zba e,b];exact h2
  ·have e':¬q.1=k:=fun z=>e (h1.trans z);have b:atKey (q::qs) k=atKey qs k:=by simp[atKey,Qch,e']
   rw[Zbb e,b];exact ih
theorem KT.repl {kvs:List (List Key×V)}{xs:List (List Key×Addr×Value)}(r:KT H kvs xs)(k:List Key){y:V}(ry:ZaY y u):
  KT H (kvs.map fun kv=>if kv.1=k then(kv.1,y) else kv) (xs.map (putAt k u)):=by
 induction r with
 |nil=>exact .nil
 | @cons p q ps qs h t ih=>
  rw[QaV,QaV];refine .cons ?_ ih;obtain⟨h1,h2,h3⟩:=h;unfold putAt;by_cases e:p.1=k
  ·rw[if_pos e,if_pos (h1.symm.trans e)];exact⟨h1,h2,ry⟩
  ·rw[if_neg e,if_neg (fun z=>e (h1.trans z))];exact⟨h1,h2,h3⟩
theorem KT.put {kvs:List (List Key×V)}{xs:List (List Key×Addr×Value)}(r:KT H kvs xs)(k:List Key){y:V}(hb:H b=some (.tup (k.map kV)))(ry:ZaY y u):
  KT H (Zet kvs k y) (storedH xs k b u):=by
 have e:(kvs.any fun kv=>decide (kv.1=k))=(atKey xs k).isSome:=by
  rw[Zdt,(r.val k).isSome_eq,Option.isSome_map]
 unfold Zet storedH;rw[e];by_cases q:(atKey xs k).isSome=true
 ·rw[if_pos q,if_pos q];exact r.repl k ry
 ·rw[if_neg q,if_neg q];exact Paired.snoc r ⟨rfl,hb,ry⟩
theorem KT.keeps {kvs:List (List Key×V)}{xs:List (List Key×Addr×Value)}(r:KT H kvs xs)(ht:∀b ys,H b=some (.tup ys)→H' b=some (.tup ys)):KT H' kvs xs:=
 Paired.mapP r fun _ _ z=>⟨z.1,ht _ _ z.2.1,z.2.2⟩
theorem ZpR {u:HO}(ok:HOk P w H h)(e:Rd H a u):Zbm P w H h a u:=e.ok ok
theorem Zj3 {kvs:List (Key×V)}(ok:HOk P w H h)(e:Rd H a (.dK kvs)):kvs.length≤sizeLine∧(a==sysModules)=false∧∃vs,KV kvs vs∧h.DictOf (Za2 P w) a vs:=
 show Zbm P w H h a (.dK kvs) from ZpR ok e
theorem Zrh {kvs:List (Key×V)}(ok:HOk P w H h)(e:H a=some (.dK kvs)):kvs.length≤sizeLine∧(a==sysModules)=false∧∃vs,KV kvs vs∧h.DictOf (Za2 P w) a vs:=Zj3 ok (.inl e)
theorem ZhV {ks:List Key}(ok:HOk P w H h)(e:H a=some (.tup (ks.map kV))):(tupleKind (Za2 P w)).is h ks a:=by
 obtain⟨_,its,r,o,h1,h2,n,h3⟩:=(show Zbm P w H h a (.tup (ks.map kV)) from ok a _ e);exact⟨o,its.toArray,n,h1,h2,h3,by simpa using ZfQ r⟩
theorem Zj4 {kvs:List (List Key×V)}(ok:HOk P w H h)(e:Rd H a (.dT kvs)):kvs.length≤sizeLine∧(a==sysModules)=false∧
  ∃xs,KT H kvs xs∧h.DictOfH (tupleKind (Za2 P w)) a xs:=by
 obtain⟨z,y,xs,r,o,es,ep,h1,h2,h3,h4,h5⟩:=(show Zbm P w H h a (.dT kvs) from ZpR ok e);refine⟨z,y,xs,r,o,es,ep,h1,h2,h3,h4,fun x hx=> ?_,h5⟩
 have all:∀{l:List (List Key×V)} {m:List (List Key×Addr×Value)},KT H l m→∀x∈m,(tupleKind (Za2 P w)).is h x.1 x.2.1:=by
  intro l m q
  induction q with
  |nil=>intro x hx;exact nomatch hx
  | @cons p q ps qs hq t ih=>
   intro x hx;rcases Qaz.mp hx with e|hx
   ·subst e;exact ZhV ok (by rw[←hq.1];exact hq.2.1)
   ·exact ih x hx
 exact all r x hx
theorem Zri {kvs:List (List Key×V)}(ok:HOk P w H h)(e:H a=some (.dT kvs)):kvs.length≤sizeLine∧(a==sysModules)=false∧
  ∃xs,KT H kvs xs∧h.DictOfH (tupleKind (Za2 P w)) a xs:=Zj4 ok (.inl e)
def Zi9 (H:Hp)(a:Addr)(y:V)(r:Option V):Prop:=
 (∃kvs k,Rd H a (.dK kvs)∧y=kV k∧r=Zdm kvs k)∨∃kvs k b,Rd H a (.dT kvs)∧y= .ref b∧H b=some (.tup (k.map kV))∧r=Zdm kvs k
def Zni (H:Hp)(a:Addr)(y v:V)(H':Hp):Prop:=
 (∃kvs k,H a=some (.dK kvs)∧y=kV k∧kvs.length<sizeLine∧H'=upd H a (.dK (Zet kvs k v)))∨
 ∃kvs k b,H a=some (.dT kvs)∧y= .ref b∧H b=some (.tup (k.map kV))∧kvs.length<sizeLine∧H'=upd H a (.dT (Zet kvs k v))
theorem Zi9.k {H:Hp}{a:Addr}{kvs:List (Key×V)}{k:Key}(e:H a=some (.dK kvs)):Zi9 H a (kV k) (Zdm kvs k):=.inl ⟨kvs,k,.inl e,rfl,rfl⟩
theorem Zi9.t {kvs:List (List Key×V)}{k:List Key}(e:H a=some (.dT kvs))(eb:H b=some (.tup (k.map kV))):Zi9 H a (.ref b) (Zdm kvs k):=.inr ⟨kvs,k,b,.inl e,rfl,eb,rfl⟩
theorem Zni.k {H:Hp}{a:Addr}{kvs:List (Key×V)}{k:Key}{v:V}(e:H a=some (.dK kvs))(hl:kvs.length<sizeLine):Zni H a (kV k) v (upd H a (.dK (Zet kvs k v))):=.inl ⟨kvs,k,e,rfl,hl,rfl⟩
theorem Zni.t {kvs:List (List Key×V)}{k:List Key}{v:V}(e:H a=some (.dT kvs))(eb:H b=some (.tup (k.map kV)))(hl:kvs.length<sizeLine):
  Zni H a (.ref b) v (upd H a (.dT (Zet kvs k v))):=.inr ⟨kvs,k,b,e,rfl,eb,hl,rfl⟩
section
variable {y v:V}{o:Option V}
theorem Inv.big (I:Inv X qc σ H s):sysModules<s.heap.objs.size:=by
 have h:mainGlobals<s.heap.objs.size:=(I.mod.glob.keeps I.bk).lt;exact QcW (by decide) h
theorem Zj5 (hu:A.units+1<cLine)(I:Inv X qc σ H s)(g:Zi9 H a y (some v))(ry:ZaY y u)(h:∀w' s',Inv X qc σ H s'→ZaY v w'→Q w' s'):
  wpAny (model X.prog X.w) A (getItem (.ref a) u) Q E s:=by
 rcases g with⟨kvs,k,e,ey,l⟩|⟨kvs,k,b,e,ey,eb,l⟩
 ·subst ey;obtain⟨z,hd,vs,rel,dd⟩:=Zj3 I.hok e;obtain⟨w',hw,rw'⟩:=Zi5.some_of (v:=v) (o:=valueAt vs k) (by rw[l];exact rel.val k);exact wpAny_getItem_of (Zl1 ry) dd.mapOf hw (h w' _ (I.tok _) rw')
 ·subst ey;cases(show u=Value.ref b from ry);obtain⟨z,hd,xs,rel,dd⟩:=Zj4 I.hok e;obtain⟨w',hw,rw'⟩:=Zi5.some_of (v:=v) (o:=(atKey xs k).map (·.2)) (by rw[l];exact rel.val k);obtain⟨p,hp,hp2⟩:=Option.map_eq_some_iff.mp hw;refine wpAny_getItem_heap (Qee hu) (ZhV I.hok eb) dd hp ?_;rw[hp2];exact h w' _ (I.tok _) rw'
theorem Zj6 {t':Nat}{ob:HO}(I:Inv X qc σ H s)(mu:Mut (H a))(hs:Heap.SameBut a s.heap h')(he:∃q,h'.get? a=some q)(new:Zbm X.prog X.w (upd H a ob) h' a ob):
  Inv X qc σ (upd H a ob) {s with heap:=h',toks:=t' }:=
 I.write (x:=a) (e:=a) mu (.inl rfl) (fun b q hb z=>(hs.2 b hb).trans z) he new
theorem ZpS {kvs:List (Key×V)}{vs:List (Key×Value)}(z:kvs.length≤sizeLine)(hd:(a==sysModules)=false)(rel:KV kvs vs)(dd:h'.DictOf (Za2 P w) a vs):
  Zbm P w H' h' a (.dK kvs):=⟨z,hd,vs,rel,dd⟩
theorem Zj7 {Q:Unit→Shared→Prop}(hu:A.units+1<cLine)(I:Inv X qc σ H s)(g:Zni H a y v H')(ry:ZaY y u)(rv:ZaY v r)(h:∀s',Inv X qc σ H' s'→Q () s'):
  wpAny (model X.prog X.w) A (setItem (.ref a) u r) Q E s:=by
 rcases g with⟨kvs,k,e,ey,l,eH⟩|⟨kvs,k,b,e,ey,eb,l,eH⟩
 ·subst ey eH;obtain⟨z,hd,vs,rel,dd⟩:=Zrh I.hok e;have hz:vs.length≤sizeLine:=by rw[←rel.length];exact z
  have hl:(Zet kvs k v).length≤sizeLine:=by have:=ZdR kvs k v;omega
  refine wpAny_setItem_pairs (hsz:=hz) (Zl1 ry) dd fun h' dd' hs=>h _ ?_;have he:∃q,h'.get? a=some q:=let⟨q,_,_,hq,_⟩:=dd';⟨q,hq⟩;exact Zj6 I (by rw[e];exact QfD) hs he (ZpS hl hd (rel.put k rv) dd')
 ·subst ey eH;cases(show u=Value.ref b from ry);obtain⟨z,hd,xs,rel,dd⟩:=Zri I.hok e;have hz:xs.length≤sizeLine:=by rw[←QeA rel];exact z
  have hl:(Zet kvs k v).length≤sizeLine:=by have:=ZdR kvs k v;omega
  refine wpAny_setItem_heap (hsz:=hz) (Qee hu) (ZhV I.hok eb) dd fun h' dd' hs=>h _ ?_;obtain⟨q,es,ep,hq,h2,h3,h4,_,h5⟩:=dd';refine Zj6 I (by rw[e];exact QfD) hs ⟨q,hq⟩ ⟨hl,hd,_,(rel.put k eb rv).keeps fun c ys ec=> ?_,q,es,ep,hq,h2,h3,h4,h5⟩;rw[Zak (Zq1 ec e (fun z=>nomatch z))];exact ec
end
def ZrM (i:Expr):Prop:=∀ov iv,subscripted i false ov iv=operate [ov,iv] (getItem ov iv)
theorem Zoh {qx:Expr}{pos:PySem.Pos}{T id:String}
  (hl:typeLookup (.type T) "__getitem__" =pure (some (.builtin id))) (hs:ZrM qx)
  (h:wpAny (model prog w) A (eval value env) (fun o s₁=>wpAny (model prog w) A (eval qx env) (fun i s₂=>s₂.TypeIs o T∧wpAny (model prog w) A (getItem o i) Q E s₂) E s₁) E s):
  wpAny (model prog w) A (eval (.Subscript value qx pos) env) Q E s:=by
 refine Subscript_ (QaZ h (fun o s₁ h₁=>QaZ h₁ (fun i s₂ h₂=> ?_) fun _ _ x=>x) fun _ _ x=>x);obtain⟨hT,h₂⟩:=h₂;unfold subscriptTail;refine Qaa ?_;rw[getitemInPython_of_ne hT.not_modules];refine Qaa (Qe6 hT hl ?_)
 have fin:wpAny (model prog w) A (subscripted qx false o i) (fun r s₃=>wpAny (model prog w) A (letTemporaryGo value o r>>=fun _=>pure r) Q E s₃) E s₂:=by
  rw[hs o i];exact wpAny_operating (QaZ h₂ (fun r s₃ h₃=>Qaa (wpAny_letTemporaryGo (Qae h₃))) fun _ _ x=>x)
 first
  |exact Qae (Qaa fin)
  |exact Qaa (Qae (Qaa fin))
  |exact Qaa fin
theorem ZgF {y:V}{o:Option V}(I:Inv X qc σ H s)(g:Zi9 H a y o):s.TypeIs (.ref a) "dict" :=by
 rcases g with⟨kvs,k,e,_,_⟩|⟨kvs,k,b,e,_,_,_⟩
 ·obtain⟨_,_,vs,_,dd⟩:=Zj3 I.hok e;exact dd.typeIs
 ·obtain⟨_,_,xs,_,dd⟩:=Zj4 I.hok e;exact dd.typeIs
def ZpT (td ty:TE):TE:=fun σ H Q=>td σ H fun x H1=>ty σ H1 fun y H2=>∃a v,x= .ref a∧Zi9 H2 a y (some v)∧Q v H2
def Zoi (td ty tv:TE):TS:=fun D σ H=>tv σ H fun v H1=>td σ H1 fun x H2=>ty σ H2 fun y H3=>∃a H4,x= .ref a∧Zni H3 a y v H4∧D.nx σ H4
section
variable {i e:Expr}{pos pos':PySem.Pos}{tv:TE}
theorem Zoj (hu:X.A.units+1<cLine)(ho:PE X o td)(hi:PE X i ty)(hs:ZrM i):PE X (.Subscript o i pos) (ZpT td ty):=by
 intro qc s σ H Q I h;refine Zoh PySem.F.slot_dict_getitem.lookup hs (thn (ho qc s σ H _ I h) fun u s1 ⟨x,H1,I1,rx,q1⟩=>thn (hi qc s1 σ H1 _ I1 q1) fun iv s2 ⟨y,H2,I2,ry,a,v,ex,g,q2⟩=> ?_);subst ex;obtain rfl:u=Value.ref a:=rx;exact⟨ZgF I2 g,Zj5 hu I2 g ry fun w' s3 I3 rw'=>⟨v,H2,I3,rw',q2⟩⟩
theorem Zj8 (hu:X.A.units+1<cLine)(ho:PE X o td)(hi:PE X i ty)(hv:PE X value tv)(hs:swapsWith value (some (.Subscript o i pos')) pos.line X.env=pure false):
  PS X (.Assign [.Subscript o i pos'] value pos) (Zoi td ty tv):=by
 intro qc s σ H D I h;refine wpAny_Assign_Subscript (thn (hv qc s σ H _ I h) fun r s1 ⟨v,H1,I1,rv,q1⟩=>thn (ho qc s1 σ H1 _ I1 q1) fun u s2 ⟨x,H2,I2,rx,q2⟩=>thn (hi qc s2 σ H2 _ I2 q2) fun iv s3 ⟨y,H3,I3,ry,a,H4,ex,g,q3⟩=> ?_) hs;subst ex;obtain rfl:u=Value.ref a:=rx;exact Zj7 hu I3 g ry rv fun s4 I4=>⟨σ,H4,I4,q3⟩
end
theorem Zl2 (h:Heap)(hb:sysModules<h.objs.size):Zbm P w H (h.push {cls:=.type "dict",data:=.dict #[] }) h.objs.size (.dK []):=
 ⟨QaU _,Qdc.mpr (Ne.symm (QaJ hb)),[],.nil,Heap.DictOf.new h⟩
theorem Zl3 (h:Heap)(hb:sysModules<h.objs.size):Zbm P w H (h.push {cls:=.type "dict",data:=.dict #[] }) h.objs.size (.dT []):=
 ⟨QaU _,Qdc.mpr (Ne.symm (QaJ hb)),[],.nil,_,#[],0,Qaw _ rfl,⟨rfl,rfl,rfl⟩,rfl,rfl,QdC⟩
def Znj:TE:=fun _ H Q=>∀p,H p=none→Q (.ref p) (upd H p (.dK []))
def Znk:TE:=fun _ H Q=>∀p,H p=none→Q (.ref p) (upd H p (.dT []))
section
variable {pos:PySem.Pos}
theorem Zl4:PE X (.Dict [] [] pos) Znj:=fun qc s σ H Q I h=>
 wpAny_Dict_empty ⟨.ref s.heap.objs.size,_,I.laid (a:=s.heap.objs.size) (o:=.dK []) (t':=s.toks) (fun _ _ q=>Qad _ q) (Qak _) (Zl2 s.heap I.big),rfl,h _ (I.hok.fresh (Qak _))⟩
theorem Zl5:PE X (.Dict [] [] pos) Znk:=fun qc s σ H Q I h=>
 wpAny_Dict_empty ⟨.ref s.heap.objs.size,_,I.laid (a:=s.heap.objs.size) (o:=.dT []) (t':=s.toks) (fun _ _ q=>Qad _ q) (Qak _) (Zl3 s.heap I.big),rfl,h _ (I.hok.fresh (Qak _))⟩
end
structure M2 (X:Cx)(o:Expr)(m:Str)(qz:PySem.Pos)(e f:Expr)(qu:PySem.Pos):Prop where
 base:attributeBase o m X.env (eval o X.env)=eval o X.env
 few:((backTo qu (starEach [e,f] X.env)).all (fun x=> !x.1) && (backToKw qu (keywordEach [] X.env)).all (fun x=>x.1.isSome)
  && decide (([e,f]:List Expr).length+([]:List Keyword).length+(if([]:List Keyword).isEmpty then 0 else 1)<30))=true
 line:(qz.endLine==qu.line)=true
 trees:backTo qu (starEach [e,f] X.env)=[(false,eval e X.env),(false,eval f X.env)]
def IsD (H:Hp)(a:Addr):Prop:=(∃kvs,Rd H a (.dK kvs))∨∃kvs,Rd H a (.dT kvs)
theorem Znl (I:Inv X qc σ H s)(d:IsD H a):
  s.TypeIs (.ref a) "dict" ∧(∀b,Value.ref a= .ref b→∃ob,s.heap.get? b=some ob∧ob.dict=none)∧(a==sysModules)=false:=by
 rcases d with⟨kvs,e⟩|⟨kvs,e⟩
 ·obtain⟨_,hd,vs,_,dd⟩:=Zj3 I.hok e;refine⟨dd.typeIs,fun b q=> ?_,hd⟩;cases q;obtain⟨ob,_,_,h1,h2,_⟩:=dd;exact⟨ob,h1,h2.2.1⟩
 ·obtain⟨_,hd,xs,_,dd⟩:=Zj4 I.hok e;refine⟨dd.typeIs,fun b q=> ?_,hd⟩;cases q;obtain⟨ob,_,_,h1,h2,_⟩:=dd;exact⟨ob,h1,h2.2.1⟩
section
variable {y d:V}{o:Option V}
theorem ZpU (hu:A.units+1<cLine)(I:Inv X qc σ H s)(g:Zi9 H a y o)(ry:ZaY y u)(rd:ZaY d r)(h:∀w' s',Inv X qc σ H s'→ZaY (o.getD d) w'→Q w' s'):
  wpAny (model X.prog X.w) A (call (.builtin "dict.get") [.ref a,u,r]) Q E s:=by
 rcases g with⟨kvs,k,e,ey,l⟩|⟨kvs,k,b,e,ey,eb,l⟩
 ·subst ey;obtain⟨z,hd,vs,rel,dd⟩:=Zj3 I.hok e;refine QfI QdH dd.typeIs QeW (QeI _ _ _) (meets_dict_get_default (Za2 X.prog X.w) a (Zl1 ry) hd r) ⟨_,dd.mapOf,h _ _ (I.tok _) ?_⟩;rw[l];exact(rel.val k).getD rd
 ·subst ey;cases(show u=Value.ref b from ry);obtain⟨z,hd,xs,rel,dd⟩:=Zj4 I.hok e;refine QfI QdH dd.typeIs QeW (QeI _ _ _) (meetsH_dict_get_default (tupleKind (Za2 X.prog X.w)) a b hd r) ⟨Qee hu,k,xs,ZhV I.hok eb,dd,h _ _ (I.tok _) ?_⟩;rw[l];exact(rel.val k).getD rd
end
def Znm (td ty tx:TE):TE:=fun σ H Q=>td σ H fun x H1=>∃a,x= .ref a∧IsD H1 a∧ty σ H1 fun y H2=>tx σ H2 fun z H3=>∃o,Zi9 H3 a y o∧Q (o.getD z) H3
section
variable {e f:Expr}{qz qu:PySem.Pos}{tx:TE}
theorem Zl6 (hu:X.A.units+1<cLine)(ho:PE X o td)(he:PE X e ty)(hf:PE X f tx)(m:M2 X o "get" qz e f qu):PE X (.Call (.Attribute o "get" qz) [e,f] [] qu) (Znm td ty tx):=by
 intro qc s σ H Q I h;refine wpAny_Call_method m.base m.few m.line QeJ QdH PySem.F.type_dict_get (thn (ho qc s σ H _ I h) fun u s1 ⟨x,H1,I1,rx,a,ex,d,q1⟩=> ?_);subst ex;obtain rfl:u=Value.ref a:=rx;obtain⟨t1,t2,_⟩:=Znl I1 d;refine⟨t1,t2,?_⟩;rw[m.trees]
 refine QcP rfl (Calls.evalArgs_plain (QbK (thn (he qc s1 σ H1 _ I1 q1) fun iv s2 ⟨y,H2,I2,ry,q2⟩=>
  QbK (thn (hf qc s2 σ H2 _ I2 q2) fun fv s3 ⟨z,H3,I3,rz,ov,g,q3⟩=>Qb3 ?_))))
 exact ZpU hu I3 g ry rz fun w' s4 I4 rw'=>⟨_,H3,I4,rw',q3⟩
end
def Ite (K:PySem.W.Frag)(a:Addr):It:=
 ⟨fun i H=>∃xs x,SqL K H a xs∧xs[i]?=some x,
  fun i H v H'=>∃p x,v= .ref p∧H p=none∧H'=upd H p (.tup [.int (i:Int),x])∧∀xs,SqL K H a xs→xs[i]?=some x,
  fun i H=>∃xs,SqL K H a xs∧xs[i]?=none⟩
def ZpV (e it a:Addr)(i:Nat)(h:Heap):Prop:=(∃old,IsEnum h e it (i:Int) old)∧h.IsListIter it a i
theorem Zj9 {K:PySem.W.Frag}{k:Nat}{pos:PySem.Pos}(a e it:Addr)(hei:e≠it)(hle:a≠e)(hli:a≠it):Zpf P w K (.Tuple es k pos) (Ite K a) [e,it] e (ZpV e it a) where
 mem:=by simp
 obj:=fun i h st c hc=>by
  obtain⟨⟨old,he⟩,⟨o1,e1,c1,d1⟩⟩:=st;simp only[Qaz,Qbg,QcJ] at hc;rcases hc with rfl|rfl
  ·exact⟨_,he,fun v q=>by cases q⟩
  ·exact⟨o1,e1,fun v q=>by rw[d1] at q;cases q⟩
 keep:=fun i h h' st q=>by
  obtain⟨⟨old,he⟩,l1⟩:=st;exact⟨⟨old,q _ (by simp) _ he⟩,l1.at fun o x=>q _ (by simp) o x⟩
 item:=by
  intro X hP hw hK hc i qc s σ H E I hf st hg;subst hP hw hK;obtain⟨xs,x,hq1,hx⟩:=hg;obtain⟨⟨old,he⟩,l1⟩:=st;obtain⟨its1,rv1,p1,_⟩:=I.list hq1;obtain⟨ux,hux,rux⟩:=rv1.get hx;refine wpAny_pyNext_enum_item he l1 p1.isList (x:=ux) (by simpa using hux) hei fun h' z1 j1 T1 sz kp=> ?_;refine⟨_,rfl,wpAny_letOwnedTupleGo_enum z1 fun h2 z2 sb=> ?_⟩;have helt:e<s.heap.objs.size:=Qar he;have hpe:s.heap.objs.size≠e:=Qbc helt;have T2:=sb.extBut _ _ hpe T1
  have kp2:∀c o,c∉ [e,it]→s.heap.get? c=some o→h2.get? c=some o:=fun c o hc x=>by
   simp only[Qaz,Qbg,QcJ,not_or] at hc;exact sb.extBut _ _ hc.1 (kp c o hc.1 hc.2 x)
  have I2:Inv X qc σ (upd H s.heap.objs.size (.tup [.int (i:Int),x])) {s with heap:=h2,toks:=s.toks+1 }:=I.turnedNew kp2 hf (Qak _) ⟨by show 2≤sizeLine;decide,[.int (i:Int) s.toks,ux],.cons ⟨_,rfl⟩ (.cons rux .nil),⟨_,T2,rfl,_,rfl⟩⟩;refine⟨.ref s.heap.objs.size,_,I2,rfl,⟨_,x,rfl,I.hok.fresh (Qak _),rfl,fun xs' h=> ?_⟩,⟨⟨ux,by simpa using z2⟩,?_⟩,fun c hc=> ?_⟩
  ·rw[I.list_inj h hq1];exact hx
  ·exact j1.at fun o x=>sb.extBut _ _ (Ne.symm hei) x
  ·have hlt:c<s.heap.objs.size:=by
    simp only[Qaz,Qbg,QcJ] at hc;rcases hc with rfl|rfl
    ·exact helt
    ·obtain⟨_,x,_⟩:=l1;exact Qar x
   rw[Zak (QaJ hlt)];exact(hf c hc).1
 done:=by
  intro X hP hw hK hc i qc s σ H E I hf st hg;subst hP hw hK;obtain⟨xs,hq1,hend⟩:=hg;obtain⟨⟨old,he⟩,l1⟩:=st;obtain⟨its1,rv1,p1,_⟩:=I.list hq1;have e1:=rv1.length;rw[Qbh] at hend;refine wpAny_pyNext_enum_end (I.ok.hd hc) he l1 p1.isList (by simp;omega) fun h' kp=>⟨rfl,I.turnedL (t':=s.toks) (ch:=[e,it]) (fun c o hc x=> ?_) hf⟩;simp only[Qaz,Qbg,QcJ,not_or] at hc;exact kp c o hc.2 x
 self:=fun _ _ _ _ _ st h=>by
  obtain⟨⟨old,he⟩,_⟩:=st;exact wpAny_pyIter_enum he h
theorem Zeg:bootBuiltins "enumerate" =some (.type "enumerate"):=by decide +kernel
def ZpW (K:PySem.W.Frag)(ta:TA):TI:=fun σ H R=>ta σ H fun vs H1=>∃a,vs=[.ref a]∧(∃xs,SqL K H1 a xs)∧R (Ite K a) H1
theorem Zok {pos:PySem.Pos}{a:Expr}(hg:Gl X "enumerate")(hm:X.mg "enumerate" =none)(ha:PA X [a] ta)
  (hs:starEach [a] X.env=[(false,eval a X.env)]:=by rfl):PI X (.Tuple tes tk tpos) (.Call (.Name "enumerate" p) [a] [] pos) (ZpW X.K ta):=by
 intro qc s σ H R I h;refine Qbu (ZbS I hg hm Zeg ?_);refine Qbk (rest:=[]) (thn (ha pos qc s σ H _ I h) fun us s1 ⟨vs,H1,I1,r1,l1,e,⟨xs,hx⟩,q⟩=> ?_) hs rfl;subst e;obtain⟨u1,rfl,rfl⟩:=ZcZ r1;obtain⟨its1,rv1,p1,_⟩:=I1.list hx;have a1:l1<s1.heap.objs.size:=by obtain⟨_,e,_⟩:=p1.isList;exact Qar e
 refine call_enumerate_list p1.isList fun h' he hit sz kp=> ?_;refine wpAny_pyIter_enum he ?_;refine⟨_,[_,_],_,_,H1,rfl,I1.kept (t':=s1.toks) kp,Zj9 l1 _ _ (Nat.succ_ne_self _) (QaJ (Qbs a1)) (QaJ a1),⟨⟨_,he⟩,hit⟩,fun c hc=> ?_,q⟩
 have hge:s1.heap.objs.size≤c:=by
  simp only[Qaz,Qbg,QcJ] at hc;rcases hc with rfl|rfl
  ·exact Qdy _
  ·exact Qak _
 exact I1.fpOk hge (I1.hok.fresh hge)
theorem Zl7 {K:PySem.W.Frag}{xs:List V}{tb:TS}{D:Zi6}(Pv:Nat→St→Hp→Prop)(h0:Pv 0 σ H)(hl:∀i σ H,i≤xs.length→Pv i σ H→SqL K H a xs)
  (hs:∀i x σ H (p:Addr),xs[i]?=some x→Pv i σ H→H p=none→g (.ref p) σ (upd H p (.tup [.int (i:Int),x])) fun σ2 H2=>tb {D with nx:=Pv (i+1),ct:=Pv (i+1),bk:=D.nx } σ2 H2) (hd:∀σ H,Pv xs.length σ H→D.nx σ H):
  ∃W:Nat→Nat→St→Hp→Prop,(∃m,W 0 m σ H)∧∀i m σ H,W i m σ H→
   ((Ite K a).stop i H∧D.nx σ H)∨((Ite K a).go i H∧∃N:St→Hp→Prop,(∀σ' H',N σ' H'→∃m',m'<m∧W (i+1) m' σ' H')∧∀x H',(Ite K a).yld i H x H'→g x σ H' fun σ2 H2=>tb {D with nx:=N,ct:=N,bk:=D.nx } σ2 H2):=by
 refine⟨fun i m σ H=>m=xs.length-i∧i≤xs.length∧Pv i σ H,⟨xs.length,by simp,QaU _,h0⟩,?_⟩;rintro i m σ H ⟨rfl,hi,p⟩;have q1:=hl i σ H hi p;by_cases hlt:i<xs.length
 ·refine .inr ⟨⟨xs,xs[i],q1,by simp[hlt]⟩,Pv (i+1),fun σ' H' p'=>⟨xs.length-(i+1),by omega,rfl,hlt,p'⟩,fun x H' y=> ?_⟩;obtain⟨q,x1,rfl,hq,rfl,e1⟩:=y;exact hs i x1 σ _ q (e1 xs q1) p hq
 ·have e:i=xs.length:=by omega
  subst e;exact .inl ⟨⟨xs,q1,QaW (Qak _)⟩,hd σ H p⟩
def ZpX (i j:Int):Prop:=i.natAbs<2^9000∧j.natAbs<2^9000
theorem Zka {i:Int}(h:i.natAbs<2^9000):Builtin.Int.intBits i≤2^20:=by
 unfold Builtin.Int.intBits;split
 ·exact QaU _
 ·rename_i hz;have hz:i.natAbs≠0:=by simpa using hz
  have:=(Nat.log2_lt hz).mpr h;exact QaE (Nat.succ_le_of_lt this) (by decide)
theorem Zol:OpR X (binaryOp .Mult) (rI ZpX fun i j=> .int (i*j)):=opI fun _ _ _ _ _ _ _ hc q=>mul_int q (IntMulOk.of_bits (Zka hc.1) (Zka hc.2))
def RK (rk:Value→Int)(xs:Array Keyed)(i:Nat):Int:=match xs[i]? with
 |some p=>rk p.1
 |none=>0
theorem Zkb {xs ys:Array Keyed}(h:xs[i]?=ys[j]?):RK rk xs i=RK rk ys j:=by unfold RK;rw[h]
theorem RK_bub {xs:Array Keyed}{a d:Nat}(ha:a<xs.size)(hd:d≤a)(k:Nat):RK rk (bubble xs a d) k=if k=a-d then RK rk xs a else if a-d<k∧k≤a then RK rk xs (k-1) else RK rk xs k:=by
 have z:=getElem?_bubble ha d hd k;split
 ·rename_i h;rw[if_pos h] at z;exact Zkb z
 ·rename_i h;rw[if_neg h] at z;split
  ·rename_i g;rw[if_pos g] at z;exact Zkb z
  ·rename_i g;rw[if_neg g] at z;exact Zkb z
theorem RK_mir {xs:Array Keyed}{a b:Nat}(hb:b≤xs.size)(k:Nat):RK rk (mirror xs a b ((b-a)/2)) k=if a≤k∧k<b then RK rk xs (a+b-1-k) else RK rk xs k:=by
 have z:=getElem?_mirror_all (i:=a) hb k;split
 ·rename_i h;rw[if_pos h] at z;exact Zkb z
 ·rename_i h;rw[if_neg h] at z;exact Zkb z
structure SB (k0:SortKind)(a0:Array Keyed)(st:SortSt):Prop where
 pm:(arrOf st).Perm a0
 kd:kindOf st=k0
 fl:failedOf st=none
 pn:pendingOf st= #[]
def ZrN (prog:Program)(w:World)(A:Around)(s:Shared)(k0:SortKind)(a0:Array Keyed)(rk:Value→Int):Prop:=
 ∀(E:Value→Shared→Prop) (x y:Keyed) (Q:Bool→Shared→Prop),x∈a0.toList→y∈a0.toList→Q (decide (rk x.1<rk y.1)) s→wpAny (model prog w) A (keyLt' k0 x.1 y.1) Q E s
section
variable {k0:SortKind}{a0:Array Keyed}
theorem mir_same {xs:Array Keyed}{a b:Nat}(hb:b≤xs.size)(e:∀i,a≤i→i<b→RK rk xs i=RK rk xs (b-1))(k:Nat):RK rk (mirror xs a b ((b-a)/2)) k=RK rk xs k:=by
 rw[RK_mir hb];split
 ·rename_i h;rw[e k h.1 h.2];exact e _ (by omega) (by omega)
 ·rfl
end
def ZbR:List Int→List Int→Bool
 | [],[]=>false
 | [],_::_=>true
 |_::_,[]=>false
 |a::x,b::y=>if a=b then ZbR x y else decide (a<b)
theorem ZeY:∀x:List Int,ZbR x x=false
 | []=>rfl
 |a::x=>by unfold ZbR;rw[if_pos rfl];exact ZeY x
theorem Zeu:∀{x y z:List Int},ZbR x y=true→ZbR y z=true→ZbR x z=true
 | [],[],_,h,_=>by cases h
 | [],_::_,[],_,h=>by cases h
 | [],_::_,_::_,_,_=>rfl
 |_::_,[],_,h,_=>by cases h
 |_::_,_::_,[],_,h=>by cases h
 |a::x,b::y,c::z,h1,h2=>by
  unfold ZbR at h1 h2⊢;by_cases e1:a=b
  ·subst e1;rw[if_pos rfl] at h1;by_cases e2:a=c
   ·rw[if_pos e2] at h2⊢;exact Zeu h1 h2
   ·rw[if_neg e2] at h2⊢;exact h2
  ·rw[if_neg e1] at h1;have l1:=QaQ h1;by_cases e2:b=c
   ·subst e2;rw[if_neg e1];exact h1
   ·rw[if_neg e2] at h2;have l2:=QaQ h2;rw[if_neg (by omega)];exact QaK (by omega)
theorem Zdu:∀{x y:List Int},ZbR x y=false→ZbR y x=false→x=y
 | [],[],_,_=>rfl
 | [],_::_,h,_=>by cases h
 |_::_,[],_,h=>by cases h
 |a::x,b::y,h1,h2=>by
  unfold ZbR at h1 h2;by_cases e:a=b
  ·subst e;rw[if_pos rfl] at h1 h2;rw[Zdu h1 h2]
  ·rw[if_neg e] at h1;rw[if_neg (Ne.symm e)] at h2;have l1:=Qa5 h1;have l2:=Qa5 h2;omega
theorem Zdh {α:Type}{p q:α→Bool}:∀{l:List α},(∀z∈l,p z=true→q z=true)→(l.filter p).length≤(l.filter q).length
 | [],_=>Qak _
 |a::l,h=>by
  have ih:=Zdh (l:=l) fun z hz=>h z (Qao _ hz);have ha:=h a Qai
  cases hp:p a with
  |true=>rw[QbS hp,QbS (ha hp)];simp only[QaM];omega
  |false=>
   rw[Qcp (by simp[hp])]
   cases hq:q a with
   |true=>rw[QbS hq];simp only[QaM];omega
   |false=>rw[Qcp (by simp[hq])];exact ih
theorem ZdS {α:Type}{p q:α→Bool}:∀{l:List α} {x:α},(∀z∈l,p z=true→q z=true)→x∈l→q x=true→p x=false→(l.filter p).length<(l.filter q).length
 | [],x,_,hx,_,_=>by cases hx
 |a::l,x,h,hx,q1,p1=>by
  have hl:∀z∈l,p z=true→q z=true:=fun z hz=>h z (Qao _ hz);rcases Qaz.mp hx with rfl|hx
  ·rw[Qcp (by simp[p1]),QbS q1]
   have:=Zdh hl;simp only[QaM];omega
  ·have ih:=ZdS hl hx q1 p1;have ha:=h a Qai
   cases hp:p a with
   |true=>rw[QbS hp,QbS (ha hp)];simp only[QaM];omega
   |false=>
    rw[Qcp (by simp[hp])]
    cases hq:q a with
    |true=>rw[QbS hq];simp only[QaM];omega
    |false=>rw[Qcp (by simp[hq])];exact ih
def rnk (ks:List (List Int))(u:List Int):Int:=((ks.filter fun z=>ZbR z u).length:Nat)
theorem Znn {x y:List Int}(hx:x∈ks)(h:ZbR x y=true):rnk ks x<rnk ks y:=by
 have:=ZdS (p:=fun z=>ZbR z x) (q:=fun z=>ZbR z y) (fun z _ hz=>Zeu hz h) hx h (ZeY x);unfold rnk;omega
theorem ZhW {x y:List Int}(hx:x∈ks)(hy:y∈ks):decide (rnk ks x<rnk ks y)=ZbR x y:=by
 cases h:ZbR x y with
 |true=>exact QaK (Znn hx h)
 |false=>
  refine QaC fun z=> ?_
  cases g:ZbR y x with
  |true=>have:=Znn hy g;omega
  |false=>rw[Zdu h g] at z;omega
def Zrj:Value→Int
 | .int n _=>n
 |_=>0
theorem ZhX:∀{vs:List Value} {u:List Int},IntsAre vs u→vs.map Zrj=u
 |_,_,.nil=>rfl
 |_,_,.cons n t h=>by rw[QaV,ZhX h];rfl
def kfI (h:Heap)(v:Value):List Int:=match v with
 | .ref a=>match h.get? a with
  |some o=>match o.data with
   | .seq its _=>its.toList.map Zrj
   |_=>[]
  |none=>[]
 |_=>[]
def Zcf (h:Heap)(v:Value)(u:List Int):Prop:=∃a o its n,v= .ref a∧h.get? a=some o∧o.cls= .type "tuple" ∧o.data= .seq its n∧IntsAre its.toList u
theorem Zcf.kf {u:List Int}(t:Zcf h v u):kfI h v=u:=by
 obtain⟨a,o,its,n,rfl,e,c,d,i⟩:=t;unfold kfI;dsimp only;rw[e];dsimp only;rw[d];exact ZhX i
theorem Zcf.keep' {u:List Int}(t:Zcf h v u)(k:∀(b:Addr) (o:Obj),o.cls= .type "tuple" →h.get? b=some o→h'.get? b=some o):Zcf h' v u:=by
 obtain⟨a,o,its,n,rfl,e,c,r⟩:=t;exact⟨a,o,its,n,rfl,k a o c e,c,r⟩
theorem ZgG (b:Bool)(x y:Value):keyLt' (tuples' b) x y=(do
  let xs←Builtin.List.listItems x
  let ys←Builtin.List.listItems y
  for ((p,q),i) in (xs.toList.zip ys.toList).zipIdx do
   if !(←eqBool p q) then return←oneLt' (b && i==0) p q
  return decide (xs.size<ys.size)):=rfl
theorem Zom (b:Bool){i j:Int}{t u:Tok}{Q:Bool→Shared→Prop}(h:Q (decide (i<j)) s):wpAny (model prog w) A (oneLt' b (.int i t) (.int j u)) Q E s:=by
 cases b with
 |true=>exact oneLt_int h
 |false=>
  rw[oneLt'_eq,if_neg (by simp)];have q:wpAny (model prog w) A (richCompare .Lt (.int i t) (.int j u)) (fun v s'=>wpAny (model prog w) A (truthOfDropped v) Q E s') E s:=PyProof.Rows.lt_int (Qca h);exact Qaa q
abbrev Zon (b:Bool)(z:(Value×Value)×Nat)(r:Option Bool×Unit):Sem (ForInStep (Option Bool×Unit)):=do
 if !(←eqBool z.1.1 z.1.2) then
  let v←oneLt' (b && z.2==0) z.1.1 z.1.2
  pure (ForInStep.done (some v,()))
 else pure (ForInStep.yield (none,()))
theorem ZhY (b:Bool):∀{xs ys:List Value} {u v:List Int} (i:Nat) {Q:Option Bool×Unit→Shared→Prop},IntsAre xs u→IntsAre ys v→(∀r,(r=(some (ZbR u v),())∨(r=(none,())∧ZbR u v=decide (u.length<v.length)))→Q r s)→
  wpAny (model prog w) A (forIn ((xs.zip ys).zipIdx i) ((none,()):Option Bool×Unit) (Zon b)) Q E s
 |_,ys,_,v,i,Q,.nil,hy,h=>by
  rw[List.zip_nil_left,Qd3,Qeo];refine Qae (h _ (.inr ⟨rfl,?_⟩));cases hy<;>rfl
 |_,_,_,_,i,Q,.cons a t hx,.nil,h=>by
  rw[List.zip_nil_right,Qd3,Qeo];refine Qae (h _ (.inr ⟨rfl,?_⟩));rfl
 |_,_,_,_,i,Q,.cons (ns:=u) a t hx,.cons (ns:=v) c t' hy,h=>by
  rw[Qec,QdM,Qdm];refine Qaa (Qaa ((intKind prog w).eqBool (a:=a) (b:=c) (Qdj _ _ _ _) (Qdj _ _ _ _) ?_));by_cases e:a=c
  ·rw[QaK e];refine Qae ?_;refine ZhY b (i+1) hx hy fun r hr=>h r ?_
   have l1:ZbR (a::u) (c::v)=ZbR u v:=by
    conv=>lhs;unfold ZbR
    rw[if_pos e]
   rw[l1];rcases hr with z|⟨z,y⟩
   ·exact .inl z
   ·refine .inr ⟨z,?_⟩;rw[y];simp only[QaM,Nat.add_lt_add_iff_right]
  ·rw[QaC e];refine Qaa (Zom _ ?_);refine Qae (Qae (h _ (.inl ?_)))
   have l1:ZbR (a::u) (c::v)=decide (a<c):=by
    conv=>lhs;unfold ZbR
    rw[if_neg e]
   rw[l1]
theorem Zoo (b:Bool){u v:List Int}{Q:Bool→Shared→Prop}(hx:Zcf s.heap x u)(hy:Zcf s.heap y v)(h:Q (ZbR u v) s):wpAny (model prog w) A (keyLt' (tuples' b) x y) Q E s:=by
 obtain⟨a,o,its,n,rfl,e,c,d,i⟩:=hx;obtain⟨a',o',its',n',rfl,e',c',d',i'⟩:=hy;rw[ZgG];refine Qaa (Qfa e d (Qaa (Qfa e' d' ?_)));refine Qaa (ZhY b 0 i i' fun r hr=> ?_);rcases hr with rfl|⟨rfl,z⟩
 ·exact Qae h
 ·rw[z,←i.length,←i'.length,Qal,Qal] at h;exact Qae h
theorem Zkc {α β:Type}{f:α→Sem β}(R:α→β→Prop):∀{l:List α} {Q:List β→Shared→Prop},(∀x∈l,∀Q':β→Shared→Prop,(∀y,R x y→Q' y s)→wpAny (model prog w) A (f x) Q' E s)→(∀ys,Paired R l ys→Q ys s)→wpAny (model prog w) A (l.mapM f) Q E s
 | [],Q,_,h=>by rw[List.mapM_nil];exact Qae (h [] .nil)
 |x::l,Q,hf,h=>by
  rw[List.mapM_cons];refine Qaa (hf x Qai _ fun y hy=>Qaa (Zkc R (fun z hz=>hf z (Qao _ hz)) fun ys hys=>Qae (h _ (.cons hy hys))))
theorem Zkd (v:Value):firstOfTuple' v=(do
  if(←typeOf v) != .type "tuple" then return none
  return(←Builtin.List.listItems v)[0]?):=rfl
theorem Zke {u:List Int}{Q:Option Value→Shared→Prop}(t:Zcf s.heap x u)(hu:u≠ [])(h:∀y,(∃a tk,y=some (Value.int a tk))→Q y s):wpAny (model prog w) A (firstOfTuple' x) Q E s:=by
 obtain⟨a,o,its,n,rfl,e,c,d,i⟩:=t;rw[Zkd];refine Qaa (QdF (T:= "tuple") ⟨o,e,c⟩ ?_);rw[if_neg (by decide)];refine Qaa (Qfa e d (Qae (h _ ?_)))
 cases hi:its.toList with
 |nil=>rw[hi] at i;cases i;exact absurd rfl hu
 |cons z zs=>
  rw[hi] at i
  cases i with
  |cons m t hr=>
   refine⟨m,t,?_⟩;rw[←Qan,hi];rfl
theorem ZdT:∀{vs:List Value} {ys:List (Option Value)},Paired (fun _ y=>∃a tk,y=some (Value.int a tk)) vs ys→∃zs:List Value,ys=zs.map some∧zs.length=vs.length∧∀z∈zs,∃a tk,z=Value.int a tk
 |_,_,.nil=>⟨[],rfl,rfl,fun z hz=>by cases hz⟩
 |_,_,.cons ⟨a,tk,e⟩ t=>by
  obtain⟨zs,e1,e2,e3⟩:=ZdT t;refine⟨.int a tk::zs,by rw[e,e1];rfl,by simp[e2],fun z hz=> ?_⟩;rcases Qaz.mp hz with rfl|hz
  ·exact⟨a,tk,rfl⟩
  ·exact e3 z hz
theorem ZfR:∀{zs:List Value},(∀z∈zs,∃a tk,z=Value.int a tk)→zs.mapM typeOf=(pure (zs.map fun _=>Value.type "int"):Sem (List Value))
 | [],_=>by rw[List.mapM_nil];rfl
 |z::zs,h=>by
  obtain⟨a,tk,rfl⟩:=h z Qai;rw[List.mapM_cons,ZfR fun y hy=>h y (Qao _ hy)];rfl
theorem Zkf {vs:List Value}(hv:∀v∈vs,∃u,Zcf s.heap v u∧u≠ [])(h1:vs≠ []){Q:SortKind→Shared→Prop}(h:Q (tuples' true) s):wpAny (model prog w) A (keyKind' vs.toArray) Q E s:=by
 rw[keyKind'_eq,List.mapM_toArray];refine Qaa ?_
 have step:wpAny (model prog w) A (vs.mapM firstOfTuple') (fun ys s'=>wpAny (model prog w) A (pure ys.toArray) (fun firsts s'=>wpAny (model prog w) A (do
   if(firsts.all fun x=>x.isSome)=true then
    rule "list.sort.keys-are-tuples"
    let __do_lift←oneTypeOnly' (firsts.filterMap id)
    pure (tuples' (__do_lift.any fun x=>x !=Value.type "tuple"))
   else
    if(firsts[0]?.bind id).isSome=true then pure general'
    else do
     let __do_lift←oneTypeOnly' vs.toArray
     pure (if __do_lift.isSome=true then oneType' else general')) Q E s') E s') E s:=by
  refine Zkc (fun _ y=>∃a tk,y=some (Value.int a tk)) (fun x hx Q' hq=> ?_) fun ys hys=> ?_
  ·obtain⟨u,t,hu⟩:=hv x hx;exact Zke t hu hq
  ·obtain⟨zs,e1,e2,e3⟩:=ZdT hys;subst e1;refine Qae ?_;rw[if_pos (by simp)];refine Qaa (QbQ ?_)
   have ef:(zs.map some).toArray.filterMap id=zs.toArray:=by
    rw[List.filterMap_toArray];congr 1
    induction zs with
    |nil=>rfl
    |cons z zs ih=>simp
   rw[ef,oneTypeOnly'_eq,List.mapM_toArray,ZfR e3]
   have z0:∃z zs',zs=z::zs':=by
    cases zs with
    |nil=>rw[QbM] at e2;exact absurd (Qcm e2.symm) h1
    |cons z zs'=>exact⟨z,zs',rfl⟩
   obtain⟨z,zs',rfl⟩:=z0;simp only[map_pure,pure_bind];have g0:(List.map (fun _=>Value.type "int") (z::zs')).toArray[0]?=some (Value.type "int"):=by simp
   have ga:((List.map (fun _=>Value.type "int") (z::zs')).toArray.all fun x=>x==Value.type "int")=true:=by
    rw[List.all_toArray,QfH,QeQ];intro _ _;rfl
   rw[g0];dsimp only;rw[ga,if_pos rfl];exact Qaa (Qae (Qae h))
 exact Qaa step
abbrev Pb:=SetTable.Probe
def adv (m:Nat)(p:Pb):Pb:=if p.more>0 then{p with j:=p.j+1,more:=p.more-1 } else{p with j:=(p.i*5+1+p.perturb/32) %(m+1),more:=SetTable.runEnd m ((p.i*5+1+p.perturb/32) %(m+1))-(p.i*5+1+p.perturb/32) %(m+1),i:=(p.i*5+1+p.perturb/32) %(m+1),perturb:=p.perturb/32 }
def itP (m:Nat)(p:Pb):Nat→Pb
 |0=>p
 |k+1=>adv m (itP m p k)
theorem ZgH (m:Nat)(p:Pb)(a b:Nat):itP m p (a+b)=itP m (itP m p a) b:=by
 induction b with
 |zero=>rfl
 |succ b ih=>show adv m (itP m p (a+b))=adv m _;rw[ih]
theorem Zkg (m:Nat)(p:Pb):(adv m p).dummy=p.dummy:=by unfold adv;split<;>rfl
theorem ZfS (m:Nat)(p:Pb):∀k,(itP m p k).dummy=p.dummy
 |0=>rfl
 |k+1=>by show(adv m _).dummy=_;rw[Zkg,ZfS m p k]
def lp (m:Nat)(p:Pb):Pb:={p with j:=(p.i*5+1+p.perturb/32) %(m+1),more:=SetTable.runEnd m ((p.i*5+1+p.perturb/32) %(m+1))-(p.i*5+1+p.perturb/32) %(m+1),i:=(p.i*5+1+p.perturb/32) %(m+1),perturb:=p.perturb/32 }
theorem ZdU (m:Nat):∀(k:Nat) (p:Pb),k≤p.more→itP m p k={p with j:=p.j+k,more:=p.more-k }
 |0,p,_=>rfl
 |k+1,p,h=>by
  show adv m (itP m p k)=_;rw[ZdU m k p (by omega)];unfold adv;rw[if_pos (show p.more-k>0 by omega)];show({p with j:=p.j+k+1,more:=p.more-k-1 }:Pb)=_;rw[QdT,Nat.sub_sub]
theorem Zkh (m:Nat)(p:Pb):itP m p (p.more+1)=lp m p:=by
 show adv m (itP m p p.more)=_;rw[ZdU m p.more p (Qak _)];unfold adv;rw[if_neg (show ¬p.more-p.more>0 by omega)];rfl
def lpN (m:Nat)(p:Pb):Nat→Pb
 |0=>p
 |n+1=>lp m (lpN m p n)
theorem Zop (m:Nat)(p:Pb):(lp m p).more≤9:=by
 show SetTable.runEnd m _-_≤9;unfold SetTable.runEnd;split<;>omega
theorem Zl8 {p:Pb}(h:p.more≤9):∀n,(lpN m p n).more≤9
 |0=>h
 |n+1=>Zop m _
theorem Zno {m:Nat}{p:Pb}(h:p.more≤9):∀n,∃k,k≤10*n∧itP m p k=lpN m p n
 |0=>⟨0,Qak _,rfl⟩
 |n+1=>by
  obtain⟨k,hk,e⟩:=Zno h n;refine⟨k+((lpN m p n).more+1),by have:=Zl8 (m:=m) h n;omega,?_⟩;rw[ZgH,e,Zkh];rfl
theorem ZdV {m:Nat}{p:Pb}:∀n,(lpN m p n).perturb=p.perturb/32^n
 |0=>by rw[Nat.pow_zero,Nat.div_one];rfl
 |n+1=>by
  show(lpN m p n).perturb/32=_;rw[ZdV n,Nat.div_div_eq_div_mul,Nat.pow_succ]
def fLc (m i:Nat):Nat:=(i*5+1) %(m+1)
def fIt (m i:Nat):Nat→Nat
 |0=>i
 |n+1=>fLc m (fIt m i n)
theorem ZeZ (m i:Nat)(a b:Nat):fIt m i (a+b)=fIt m (fIt m i a) b:=by
 induction b with
 |zero=>rfl
 |succ b ih=>show fLc m (fIt m i (a+b))=fLc m _;rw[ih]
theorem ZhZ {m:Nat}{p:Pb}(h:p.perturb<2^64):∀n,(lpN m p (13+n)).i=fIt m (lpN m p 13).i n∧(lpN m p (13+n)).perturb=0
 |0=>⟨rfl,by rw[ZdV];exact Nat.div_eq_of_lt (QcW h (by decide))⟩
 |n+1=>by
  obtain⟨e1,e2⟩:=ZhZ h n;constructor
  ·show((lpN m p (13+n)).i*5+1+(lpN m p (13+n)).perturb/32) %(m+1)=fLc m (fIt m _ n);rw[e1,e2];rfl
  ·show(lpN m p (13+n)).perturb/32=0;rw[e2]
def OkM (m:Nat):Prop:=m=7∨m=31∨m=127∨m=511
def ZgI (m:Nat):Nat→Nat→List Nat
 |0,_=>[]
 |k+1,i=>i::ZgI m k (fLc m i)
theorem ZfT (m:Nat):∀(k i n:Nat) (x:Nat),(ZgI m k i)[n]?=some x→n<k∧x=fIt m i n
 |0,i,n,x,h=>by cases h
 |k+1,i,0,x,h=>by cases h;exact⟨QdI _,rfl⟩
 |k+1,i,n+1,x,h=>by
  obtain⟨a,b⟩:=ZfT m k (fLc m i) n x h;refine⟨by omega,?_⟩;rw[b,Nat.add_comm n 1,ZeZ];rfl
theorem Znp:(List.range 8).all (fun e=>(ZgI 7 8 0).contains e)=true∧fIt 7 0 8=0:=by decide
theorem Zki:(List.range 32).all (fun e=>(ZgI 31 32 0).contains e)=true∧fIt 31 0 32=0:=by decide +kernel
theorem Zh0:(List.range 128).all (fun e=>(ZgI 127 128 0).contains e)=true∧fIt 127 0 128=0:=by decide +kernel
theorem Zh1:(List.range 512).all (fun e=>(ZgI 511 512 0).contains e)=true∧fIt 511 0 512=0:=by decide +kernel
theorem Zoq (h:OkM m):(∀e,e≤m→∃n,n≤m∧fIt m 0 n=e)∧fIt m 0 (m+1)=0:=by
 have key:∀m,(List.range (m+1)).all (fun e=>(ZgI m (m+1) 0).contains e)=true→∀e,e≤m→∃n,n≤m∧fIt m 0 n=e:=fun m h e he=>by
  have:=QeQ.mp h e (Qa1.mpr (by omega));obtain⟨n,hn⟩:=Qay.mp (List.contains_iff_mem.mp this);obtain⟨a,b⟩:=ZfT m _ _ _ _ hn;exact⟨n,by omega,b.symm⟩
 rcases h with rfl|rfl|rfl|rfl
 ·exact⟨key 7 Znp.1,Znp.2⟩
 ·exact⟨key 31 Zki.1,Zki.2⟩
 ·exact⟨key 127 Zh0.1,Zh0.2⟩
 ·exact⟨key 511 Zh1.1,Zh1.2⟩
theorem Zl9 (h:OkM m)(hi:i≤m)(he:e≤m):∃n,n≤m∧fIt m i n=e:=by
 obtain⟨f1,f2⟩:=Zoq h;obtain⟨a,ha,ea⟩:=f1 i hi;obtain⟨b,hb,eb⟩:=f1 e he;by_cases z:a≤b
 ·refine⟨b-a,by omega,?_⟩;rw[←ea,←ZeZ,show a+(b-a)=b by omega];exact eb
 ·refine⟨b+(m+1)-a,by omega,?_⟩;rw[←ea,←ZeZ,show a+(b+(m+1)-a)=(m+1)+b by omega,ZeZ,f2];exact eb
theorem Zrk {p:Pb}(hi:p.i≤m):∀n,(lpN m p n).i≤m
 |0=>hi
 |n+1=>by
  exact Qct (QdV ((lpN m p n).i*5+1+(lpN m p n).perturb/32) (QdI m))
theorem ZpY (h:OkM m){p:Pb}(hp:p.perturb<2^64)(hm:p.more≤9)(hi:p.i≤m)(he:e≤m):∃n,n≤13+m∧13≤n∧(lpN m p n).j=e∧(lpN m p n).i=e:=by
 obtain⟨n,hn,en⟩:=Zl9 h (Zrk (m:=m) hi 13) he;have z:=(ZhZ (m:=m) hp n).1;rw[en] at z;refine⟨13+n,by omega,by omega,?_,z⟩;rw[←z];rw[show 13+n=(12+n)+1 by omega];rfl
theorem Zma (h:OkM m){p:Pb}(hp:p.perturb<2^64)(hm:p.more≤9)(hi:p.i≤m)(he:e≤m):∃k,k<10*SetTable.turns m∧(itP m p k).j=e:=by
 obtain⟨n,hn,_,ej,_⟩:=ZpY h hp hm hi he;obtain⟨k,hk,ek⟩:=Zno (m:=m) hm n;refine⟨k,by unfold SetTable.turns;omega,?_⟩;rw[ek];exact ej
def Occ (t:SetTable)(j:Nat):Prop:=∃i:Nat,t.place[i]?=some j
theorem ZbD {xs:Array Nat}(h:xs.toList.Pairwise (· < ·))(hi:xs[i]?=some j):SetTable.below xs j=i:=by
 obtain⟨b1,b2,b3⟩:=Zds h j;obtain⟨hl,hg⟩:=Qa7.mp hi;have gd:∀k,k<xs.size→xs.getD k 0=xs[k]!:=fun k hk=>by simp[Array.getD,hk]
 have lt:∀a b,a<b→(hb:b<xs.size)→∀(ha:a<xs.size),xs[a]<xs[b]:=fun a b hab hb ha=>by
  have:=Qbb.mp h a b (by simpa using ha) (by simpa using hb) hab;simpa using this
 rcases Qeu (SetTable.below xs j) i with z|z|z
 ·have hb:SetTable.below xs j<xs.size:=by omega
  have q:=b3 _ (Qak _) hb;rw[QaB,Qas hb] at q;have q:j≤xs[SetTable.below xs j]:=q
  have:=lt _ _ z hl hb;omega
 ·exact z
 ·have q:=b2 i z;rw[QaB,hi] at q;have q:j<j:=q;omega
theorem ZdW {t:SetTable}(h:TB t led)(hi:t.place[i]?=some j):t.slot j= .live i:=by
 unfold SetTable.slot;dsimp only;rw[ZbD h.up hi,hi];simp
theorem Zev {t:SetTable}(h:TB t led)(hj:¬Occ t j):t.slot j= .empty:=by
 unfold SetTable.slot;dsimp only;have ne:¬(t.place[SetTable.below t.place j]?==some j)=true:=fun z=>hj ⟨_,by simpa using z⟩;rw[if_neg ne];have e:SetTable.has t.dummies j=false:=by rw[h.dum];rfl
 rw[e];rfl
theorem ZiK {t:SetTable}{p:Pb}(h:∃k,k<n∧¬Occ t (itP t.mask p k).j):∃k,k<n∧¬Occ t (itP t.mask p k).j∧∀k',k'<k→Occ t (itP t.mask p k').j:=by
 obtain⟨k,hk,hf⟩:=h
 induction k using Nat.strongRecOn with
 |_ k ih=>
  by_cases z:∃k',k'<k∧¬Occ t (itP t.mask p k').j
  ·obtain⟨k',hk',hf'⟩:=z;exact ih k' hk' (by omega) hf'
  ·exact⟨k,hk,hf,fun k' hk'=>QbJ fun q=>z ⟨k',hk',q⟩⟩
theorem Zew {t:SetTable}{led:Bool}(tb:TB t led){f:Nat→Int}{h:Int}{p:Pb}(hd:p.dummy=none):∀(qk k:Nat),¬Occ t (itP t.mask p k).j→(∀k',k'<k→Occ t (itP t.mask p k').j)→∀c,c≤k→k<c+qk→
  (∃n i,c≤n∧n<k∧t.place[i]?=some (itP t.mask p n).j∧f i=h∧(∀n' i',c≤n'→n'<n→t.place[i']?=some (itP t.mask p n').j→f i'≠h)∧SetTable.probe.go t f h qk (itP t.mask p c)=some (.candidate (itP t.mask p n).j i (itP t.mask p (n+1))))∨
  ((∀n i,c≤n→n<k→t.place[i]?=some (itP t.mask p n).j→f i≠h)∧SetTable.probe.go t f h qk (itP t.mask p c)=some (.empty (itP t.mask p k).j none))
 |0,k,_,_,c,ck,kf=>by omega
 |qk+1,k,hf,ho,c,ck,kf=>by
  by_cases e:c=k
  ·subst e;refine .inr ⟨fun n i h1 h2=>by omega,?_⟩;unfold SetTable.probe.go;rw[Zev tb hf];dsimp only;rw[ZfS,hd]
  ·obtain⟨i,hi⟩:=ho c (by omega);have sl:=ZdW tb hi;by_cases z:f i=h
   ·refine .inl ⟨c,i,Qak _,by omega,hi,z,fun n' i' h1 h2=>by omega,?_⟩;unfold SetTable.probe.go;rw[sl];dsimp only;rw[if_pos (by simpa using z)];rfl
   ·have step:SetTable.probe.go t f h (qk+1) (itP t.mask p c)=SetTable.probe.go t f h qk (itP t.mask p (c+1)):=by
     conv=>lhs;unfold SetTable.probe.go
     rw[sl];dsimp only;rw[if_neg (by simpa using z)];rfl
    rw[step];rcases Zew tb hd qk k hf ho (c+1) (by omega) (by omega) with⟨n,i',h1,h2,h3,h4,h6,h5⟩|⟨h1,h2⟩
    ·refine .inl ⟨n,i',by omega,h2,h3,h4,fun n' i2 a b d=> ?_,h5⟩;rcases Qcz a with q|q
     ·exact h6 n' i2 q b d
     ·subst q
      have:i=i2:=by rw[←ZbD tb.up hi,←ZbD tb.up d]
      rw[←this];exact z
    ·refine .inr ⟨fun n i' a b d=> ?_,h2⟩;rcases Qcz a with q|q
     ·exact h1 n i' q b d
     ·subst q
      have:i=i':=by rw[←ZbD tb.up hi,←ZbD tb.up d]
      rw[←this];exact z
abbrev Own:=Array (Option Nat)
def ZaE (m:Nat)(h:Int):Pb:={j:=SetTable.bits h%(m+1),more:=SetTable.runEnd m (SetTable.bits h%(m+1))-SetTable.bits h%(m+1),i:=SetTable.bits h%(m+1),perturb:=SetTable.bits h,dummy:=none }
theorem Zkj (h:Int):SetTable.bits h<2^64:=by
 unfold SetTable.bits;have a:=Qdr h (by decide:(2^64:Int)≠0);have b:=QcS h (by decide:(0:Int)<2^64);omega
theorem Znq (m i:Nat):SetTable.runEnd m i-i≤9:=by unfold SetTable.runEnd;split<;>omega
theorem Zkk {m:Nat}{ow:Own}:∀(qk:Nat) (p:Pb),p.j=p.i→p.more=SetTable.runEnd m p.i-p.i→∀{j:Nat},SetTable.layClean.free m ow qk p.i p.perturb=some j→
  ∃k,(itP m p k).j=j∧ow.getD j (some 0)=none∧∀k',k'<k→ow.getD (itP m p k').j (some 0)≠none
 |0,p,_,_,j,h=>by unfold SetTable.layClean.free at h;cases h
 |qk+1,p,hj,hm,j,h=>by
  have le:p.i≤SetTable.runEnd m p.i:=by unfold SetTable.runEnd;split<;>omega
  have len:SetTable.runEnd m p.i+1-p.i=p.more+1:=by omega
  unfold SetTable.layClean.free at h;rw[len] at h
  cases z:(List.range (p.more+1)).find? (fun k=>(ow.getD (p.i+k) (some 0)).isNone) with
  |some k=>
   rw[z] at h;dsimp only at h;cases h;obtain⟨q1,as,bs,q2,q3⟩:=List.find?_eq_some_iff_append.mp z;have kr:k∈List.range (p.more+1):=by rw[q2];simp
   have kl:=Qa1.mp kr;refine⟨k,by rw[ZdU m k p (by omega)];show p.j+k=_;rw[hj],by simpa using q1,fun k' hk'=> ?_⟩;rw[ZdU m k' p (by omega)];show ow.getD (p.j+k') (some 0)≠none;rw[hj]
   have mem:k'∈as:=by
    have i1:(List.range (p.more+1))[k']?=some k':=by rw[QcL (by omega)]
    have i2:(List.range (p.more+1))[k]?=some k:=by rw[QcL (by omega)]
    rw[q2] at i1 i2;by_cases la:k'<as.length
    ·rw[QaF la] at i1;exact Qap i1
    ·exfalso
     have ea:as.length=k:=by
      have i3:(as++k::bs)[as.length]?=some k:=by rw[Qav (Qak _),QcV];rfl
      rw[←q2] at i3;by_cases l2:as.length<p.more+1
      ·rw[QcL l2] at i3;cases i3;rfl
      ·rw[QaW (by rw[QbB];omega)] at i3;cases i3
     omega
   have q4:=q3 k' mem;intro q5;rw[q5] at q4;cases q4
  |none=>
   rw[z] at h;dsimp only at h;have al:=Qef.mp z;have rc:=Zkk qk (lp m p) rfl rfl (j:=j) h;obtain⟨k,e1,e2,e3⟩:=rc;refine⟨p.more+1+k,by rw[ZgH,Zkh];exact e1,e2,fun k' hk'=> ?_⟩;by_cases l:k'<p.more+1
   ·rw[ZdU m k' p (by omega)];show ow.getD (p.j+k') (some 0)≠none;rw[hj]
    have:=al k' (Qa1.mpr l);simpa using this
   ·have e:k'=p.more+1+(k'-(p.more+1)):=by omega
    rw[e,ZgH,Zkh];exact e3 _ (by omega)
theorem ZfU {m:Nat}{ow:Own}:∀(qk:Nat) (p:Pb),p.j=p.i→p.more=SetTable.runEnd m p.i-p.i→(∃n,n<qk∧ow.getD (lpN m p n).j (some 0)=none)→∃j,SetTable.layClean.free m ow qk p.i p.perturb=some j
 |0,p,_,_,⟨n,h,_⟩=>by omega
 |qk+1,p,hj,hm,⟨n,hn,he⟩=>by
  unfold SetTable.layClean.free
  cases z:(List.range (SetTable.runEnd m p.i+1-p.i)).find? (fun k=>(ow.getD (p.i+k) (some 0)).isNone) with
  |some k=>exact⟨p.i+k,rfl⟩
  |none=>
   dsimp only;have le:p.i≤SetTable.runEnd m p.i:=by unfold SetTable.runEnd;split<;>omega
   cases n with
   |zero=>
    exfalso
    have:=Qef.mp z 0 (Qa1.mpr (by omega));have he:ow.getD p.j (some 0)=none:=he;rw[hj] at he;rw[Qfb,he] at this;exact this rfl
   |succ n=>
    refine ZfU qk (lp m p) rfl rfl ⟨n,by omega,?_⟩
    have e:∀n,lpN m (lp m p) n=lpN m p (n+1):=fun n=>by
     induction n with
     |zero=>rfl
     |succ n ih=>show lp m (lpN m (lp m p) n)=lp m (lpN m p (n+1));rw[ih]
    rw[e];exact he
structure LC (m:Nat)(ow:Own)(hs:List Int):Prop where
 size:ow.size=m+1
 at':∀(k:Nat) (h:Int),hs[k]?=some h→∃j:Nat,ow[j]?=some (some k)∧∃n,(itP m (ZaE m h) n).j=j∧∀n',n'<n→ow.getD (itP m (ZaE m h) n').j (some 0)≠none
 few:∀(j k:Nat),ow[j]?=some (some k)→k<hs.length
 one:∀(j j' k:Nat),ow[j]?=some (some k)→ow[j']?=some (some k)→j=j'
theorem Zcl:∀{l m:List Nat},l.Nodup→(∀x∈l,x∈m)→l.length≤m.length
 | [],m,_,_=>QaU _
 |a::l,m,h,hm=>by
  rw[Qcu] at h;have ha:=hm a Qai;have q:=Zcl (m:=m.erase a) h.2 fun x hx=>(List.mem_erase_of_ne (fun z:x=a=>h.1 (by rw[←z];exact hx))).mpr (hm x (Qao _ hx));rw[List.length_erase_of_mem ha] at q
  have:=List.length_pos_of_mem ha;simp only[QaM];omega
theorem LC.room {ow:Own}(c:LC m ow hs)(hl:hs.length≤m):∃e,e≤m∧ow.getD e (some 0)=none:=by
 refine QbJ fun z=> ?_
 have al:∀e,e≤m→∃k,ow[e]?=some (some k):=fun e he=>by
  have hlt:e<ow.size:=by rw[c.size];omega
  cases q:ow[e] with
  |none=>exact absurd ⟨e,he,by rw[QaB,Qas hlt,q];rfl⟩ z
  |some k=>exact⟨k,by rw[Qas hlt,q]⟩
 let g:Nat→Nat:=fun e=>(ow.getD e none).getD 0
 have gk:∀e,e≤m→ow[e]?=some (some (g e)):=fun e he=>by
  obtain⟨k,hk⟩:=al e he
  have:g e=k:=by show(ow.getD e none).getD 0=k;rw[QaB,hk];rfl
  rw[this];exact hk
 have nd:((List.range (m+1)).map g).Nodup:=by
  rw[Qc3,Qb5];refine Qc3.mp Qcw|>.imp_of_mem ?_
  intro a b ha hb ne e;have ha:=Qa1.mp ha;have hb:=Qa1.mp hb;have h1:=gk a (by omega);have h2:=gk b (by omega);rw[e] at h1;exact ne (c.one _ _ _ h1 h2)
 have:=Zcl (m:=List.range hs.length) nd fun x hx=>by
  obtain⟨e,he,rfl⟩:=QaS.mp hx;exact Qa1.mpr (c.few _ _ (gk e (by have:=Qa1.mp he;omega)))
 rw[Qac,QbB,QbB] at this;omega
theorem LC.step (hm:OkM m){ow:Own}(c:LC m ow hs)(hl:hs.length≤m)(h:Int):∃j,SetTable.layClean.free m ow (SetTable.turns m) (SetTable.bits h%(m+1)) (SetTable.bits h)=some j∧LC m (ow.setIfInBounds j (some hs.length)) (hs++ [h]):=by
 obtain⟨e,he,hf⟩:=c.room hl;have ib:SetTable.bits h%(m+1)≤m:=Qct (QdV _ (QdI m));obtain⟨n,n1,_,n2,_⟩:=ZpY hm (p:=ZaE m h) (Zkj h) (Znq m _) ib he;obtain⟨j,hj⟩:=ZfU (m:=m) (ow:=ow) (SetTable.turns m) (ZaE m h) rfl rfl ⟨n,by unfold SetTable.turns;omega,by rw[n2];exact hf⟩;have hj':SetTable.layClean.free m ow (SetTable.turns m) (SetTable.bits h%(m+1)) (SetTable.bits h)=some j:=hj;refine⟨j,hj',?_⟩;obtain⟨k,k1,k2,k3⟩:=Zkk (SetTable.turns m) (ZaE m h) rfl rfl hj
 have jl:j<ow.size:=by
  refine QbJ fun z=> ?_;rw[QaB,Qdu (by omega)] at k2;cases k2
 have jn:ow[j]?=some none:=by
  rw[QaB,Qas jl] at k2;rw[Qas jl];exact congrArg some k2
 have gs:∀x,(ow.setIfInBounds j (some hs.length))[x]?=if j=x then some (some hs.length) else ow[x]?:=fun x=>by
  rw[Array.getElem?_setIfInBounds];by_cases q:j=x
  ·subst q;simp[jl]
  ·simp[q]
 have occ:∀x,ow.getD x (some 0)≠none→(ow.setIfInBounds j (some hs.length)).getD x (some 0)≠none:=fun x hx=>by
  rw[QaB,gs];split
  ·intro q;cases q
  ·rw[←QaB];exact hx
 refine⟨by rw[Qdk];exact c.size,fun x y hx=> ?_,fun x y hx=> ?_,fun x x' y hx hx'=> ?_⟩
 ·by_cases z:x<hs.length
  ·rw[QaF z] at hx;obtain⟨i,i1,nn,i2,i3⟩:=c.at' x y hx;refine⟨i,?_,nn,i2,fun n' hn'=>occ _ (i3 n' hn')⟩;rw[gs,if_neg (fun q=>by rw[←q,jn] at i1;cases i1)];exact i1
  ·have e:x=hs.length:=by
    have:=(Qaf.mp hx).1;rw[Qag] at this;simp at this;omega
   subst e;rw[Qav (Qak _),QcV] at hx;cases hx;refine⟨j,by rw[gs,if_pos rfl],k,k1,fun n' hn'=>occ _ (k3 n' hn')⟩
 ·rw[gs] at hx;rw[Qag];split at hx
  ·cases hx;simp
  ·have:=c.few x y hx;simp;omega
 ·rw[gs] at hx hx';split at hx
  ·rename_i q;cases hx;split at hx'
   ·rename_i q';rw[←q,←q']
   ·exact absurd (c.few _ _ hx') (Qba _)
  ·split at hx'
   ·cases hx';exact absurd (c.few _ _ hx) (Qba _)
   ·exact c.one _ _ _ hx hx'
theorem ZgJ (hm:OkM m){hs:Array Int}(hl:hs.size≤m+1):∃ow,SetTable.layClean m hs=some ow∧LC m ow hs.toList:=by
 have key:∀(l done:List Int) (ow:Own),done.length+l.length≤m+1→LC m ow done→∃ow',l.foldl (fun(acc:Option (Own×Nat)) h=>do
   let(owner,k) ←acc
   let j←SetTable.layClean.free m owner (SetTable.turns m) (SetTable.bits h%(m+1)) (SetTable.bits h)
   pure (owner.setIfInBounds j (some k),k+1)) (some (ow,done.length))=some (ow',(done++l).length)∧LC m ow' (done++l):=by
  intro l
  induction l with
  |nil=>intro done ow _ c;exact⟨ow,by rw[Qbl];rfl,by rw[Qbl];exact c⟩
  |cons h l ih=>
   intro done ow hle c;simp only[QaM] at hle;obtain⟨j,hj,c2⟩:=c.step hm (by omega) h;obtain⟨ow',e,c3⟩:=ih (done++ [h]) (ow.setIfInBounds j (some done.length)) (by rw[Qag];simp;omega) c2;refine⟨ow',?_,by rw[QaP] at c3;exact c3⟩;rw[QbX];rw[QaP] at e;rw[←List.singleton_append,←e];congr 1
   show(do
    let j←SetTable.layClean.free m ow (SetTable.turns m) (SetTable.bits h%(m+1)) (SetTable.bits h)
    pure (ow.setIfInBounds j (some done.length),done.length+1))=_
   rw[hj,Qag];rfl
 have c0:LC m (Array.replicate (m+1) none) []:=by
  have no:∀(j k:Nat),(Array.replicate (m+1) (none:Option Nat))[j]?≠some (some k):=fun j k z=>by
   rw[Array.getElem?_replicate] at z;split at z<;>cases z
  exact⟨by simp,fun k h hk=>(by cases hk),fun j k h=>absurd h (no j k),fun j j' k h=>absurd h (no j k)⟩
 obtain⟨ow,e,c⟩:=key hs.toList [] _ (by simpa using hl) c0;refine⟨ow,?_,by simpa using c⟩;unfold SetTable.layClean;rw[←Array.foldl_toList];have e':=e;simp only[Qdl,QbM] at e';rw[e'];rfl
theorem Zrl {p:Pb}(h:p.j+p.more≤m):(adv m p).j+(adv m p).more≤m:=by
 unfold adv;split
 ·show p.j+1+(p.more-1)≤m;omega
 ·have q:(p.i*5+1+p.perturb/32) %(m+1)≤m:=Qct (QdV _ (QdI m));show _%(m+1)+(SetTable.runEnd m _-_)≤m;unfold SetTable.runEnd;split<;>omega
theorem ZpZ {m:Nat}{p:Pb}(h:p.j+p.more≤m):∀k,(itP m p k).j+(itP m p k).more≤m
 |0=>h
 |k+1=>Zrl (ZpZ h k)
theorem Zor (m:Nat)(h:Int):(ZaE m h).j+(ZaE m h).more≤m:=by
 have q:SetTable.bits h%(m+1)≤m:=Qct (QdV _ (QdI m));show _%(m+1)+(SetTable.runEnd m _-_)≤m;unfold SetTable.runEnd;split<;>omega
theorem Zh2 (m:Nat)(h:Int)(k:Nat):(itP m (ZaE m h) k).j≤m:=by have:=ZpZ (Zor m h) k;omega
structure ZcU (t:SetTable)(led:Bool)(hs:List Int):Prop where
 tb:TB t led
 m:(t.mask=7∧hs.length≤4)∨(t.mask=31∧hs.length≤18)∨(t.mask=127∧hs.length≤76)∨(t.mask=511∧hs.length≤306)
 sz:t.place.size=hs.length
 le:∀(i j:Nat),t.place[i]?=some j→j≤t.mask
 rch:∀(i:Nat) (h:Int),hs[i]?=some h→∃j:Nat,t.place[i]?=some j∧∃n,(itP t.mask (ZaE t.mask h) n).j=j∧∀n',n'<n→Occ t (itP t.mask (ZaE t.mask h) n').j
theorem ZcU.okm {t:SetTable}(k:ZcU t led hs):OkM t.mask:=by
 rcases k.m with h|h|h|h
 ·exact .inl h.1
 ·exact .inr (.inl h.1)
 ·exact .inr (.inr (.inl h.1))
 ·exact .inr (.inr (.inr h.1))
theorem ZcU.few {t:SetTable}(k:ZcU t led hs):hs.length+1≤t.mask:=by rcases k.m with h|h|h|h<;>omega
theorem ZcU.fits {t:SetTable}{led:Bool}{hs:List Int}(k:ZcU t led hs):t.fits hs.length=true:=by
 unfold SetTable.fits SetTable.fill;rw[k.sz,k.tb.dum]
 have:=k.few;simp;omega
theorem ZcU.room {t:SetTable}(k:ZcU t led hs):∃e,e≤t.mask∧¬Occ t e:=by
 refine QbJ fun z=> ?_
 have al:∀e,e≤t.mask→e∈t.place.toList:=fun e he=>by
  refine QbJ fun q=>z ⟨e,he,fun⟨i,hi⟩=>q ?_⟩;rw[←Qan] at hi;exact Qap hi
 have:=Zcl (l:=List.range (t.mask+1)) (m:=t.place.toList) Qcw fun x hx=>al x (by have:=Qa1.mp hx;omega);rw[QbB,Qal,k.sz] at this
 have:=k.few;omega
theorem Zb4 {ow:Own}(hsz:ow.size=m+1){k:Nat}:(j,k)∈((List.range (m+1)).filterMap fun j=>(ow.getD j none).map (j,·))↔ow[j]?=some (some k):=by
 rw[Qeb];constructor
 ·rintro⟨x,hx,e⟩
  cases q:ow.getD x none with
  |none=>rw[q] at e;cases e
  |some y=>
   rw[q] at e;cases e
   have:=Qa1.mp hx;rw[QaB,Qas (by omega)] at q;rw[Qas (by omega)];exact congrArg some q
 ·intro h;have hl:=(Qa7.mp h).1;refine⟨j,Qa1.mpr (by omega),?_⟩;rw[QaB,h];rfl
theorem Zkl {t:SetTable}(tb:TB t led){hs:Array Int}{want:Nat}(hm:OkM (SetTable.sizeAbove want-1))(hl:hs.size≤SetTable.sizeAbove want-1)
  (hb:((SetTable.sizeAbove want-1)=7∧hs.size≤4)∨((SetTable.sizeAbove want-1)=31∧hs.size≤18)∨((SetTable.sizeAbove want-1)=127∧hs.size≤76)∨((SetTable.sizeAbove want-1)=511∧hs.size≤306)):
  ∃t' order,t.relaid hs want=some (t',order)∧order.toList.Perm (List.range hs.size)∧∀hs':List Int,hs'.length=hs.size→(∀(i k:Nat),order[i]?=some k→hs'[i]?=hs[k]?)→ZcU t' led hs':=by
 generalize hmm:SetTable.sizeAbove want-1=m at*;obtain⟨ow,e,c⟩:=ZgJ hm (hs:=hs) (by omega);have cl:hs.toList.length=hs.size:=Qal
 let live:=(List.range (m+1)).filterMap fun j=>(ow.getD j none).map (j,·)
 have hr:t.relaid hs want=some ({mask:=m,place:=(live.map (·.1)).toArray,dummies:=#[],finger:=t.finger,led:=t.led,moves:=t.movedTo m,plain:=t.plain },(live.map (·.2)).toArray):=by
  unfold SetTable.relaid SetTable.laid;rw[hmm,e];rfl
 have pw:(live.map (·.1)).Pairwise (· < ·):=by
  rw[Zct (fun j=>ow.getD j none)];exact List.pairwise_lt_range.sublist List.filter_sublist
 have pw2:live.Pairwise (fun a b=>a.1<b.1):=Qb5.mp pw
 have nd:(live.map (·.2)).Nodup:=by
  rw[Qc3,Qb5];refine pw2.imp_of_mem ?_;rintro⟨a,a'⟩ ⟨b,b'⟩ ha hb lt z;have z:a'=b':=z;subst z
  have:=c.one a b a' ((Zb4 c.size).mp ha) ((Zb4 c.size).mp hb);have lt:a<b:=lt;omega
 have mem:∀k,k∈live.map (·.2)↔k<hs.size:=fun k=>by
  rw[QaS];constructor
  ·rintro⟨⟨j,k'⟩,hx,rfl⟩
   have:=c.few j k' ((Zb4 c.size).mp hx);omega
  ·intro hk;obtain⟨j,hj,_⟩:=c.at' k hs.toList[k] (Qab (by omega));exact⟨(j,k),(Zb4 c.size).mpr hj,rfl⟩
 refine⟨_,_,hr,?_,fun hs' hl' hh=> ?_⟩
 ·show(live.map (·.2)).Perm _;refine(Qd9 nd Qcw).mpr fun k=> ?_;rw[mem,Qa1]
 ·have ll:live.length=hs.size:=by
   have:=((Qd9 nd (Qcw (n:=hs.size))).mpr fun k=>by rw[mem,Qa1]).length_eq;rw[Qac,QbB] at this;exact this
  have pl:∀(i j:Nat),(live.map (·.1)).toArray[i]?=some j↔∃k,live[i]?=some (j,k):=fun i j=>by
   rw[Qfc,Qam];constructor
   ·intro z
    cases q:live[i]? with
    |none=>rw[q] at z;cases z
    |some x=>rw[q] at z;cases z;exact⟨x.2,rfl⟩
   ·rintro⟨k,q⟩;rw[q];rfl
  have oc:∀x,x≤m→ow.getD x (some 0)≠none→Occ {mask:=m,place:=(live.map (·.1)).toArray,dummies:=#[],finger:=t.finger,led:=t.led,moves:=t.movedTo m,plain:=t.plain } x:=fun x hx hn=>by
   have xl:x<ow.size:=by rw[c.size];omega
   cases q:ow[x] with
   |none=>exact absurd (by rw[QaB,Qas xl,q];rfl) hn
   |some k=>
    have:(x,k)∈live:=(Zb4 c.size).mpr (by rw[Qas xl,q]);obtain⟨i,hi⟩:=Qay.mp this;exact⟨i,(pl i x).mpr ⟨k,hi⟩⟩
  refine⟨⟨tb.led,rfl,by rw[List.toList_toArray];exact pw⟩,by rw[hl'];exact hb,by rw[QaD,Qac,ll,hl'],fun i j hij=> ?_,fun i h hih=> ?_⟩
  ·obtain⟨k,hk⟩:=(pl i j).mp hij
   have:=(Zb4 c.size).mp (Qap hk)
   have:=(Qa7.mp this).1;show j≤m
   have:=c.size;omega
  ·have il:i<live.length:=by have:=(Qaf.mp hih).1;omega
   have hk:live[i]?=some live[i]:=Qab il;have ho:(live.map (·.2)).toArray[i]?=some live[i].2:=by rw[Qfc,Qam,hk];rfl
   have e2:=hh i _ ho;rw[hih] at e2;obtain⟨j,hj,n,n1,n2⟩:=c.at' live[i].2 h (by rw[Qan];exact e2.symm);have mj:=(Zb4 c.size).mp (Qap hk);have ej:=c.one _ _ _ hj mj;refine⟨live[i].1,(pl i _).mpr ⟨_,hk⟩,n,(show(itP m (ZaE m h) n).j=_ from n1.trans ej),fun n' hn'=>oc _ (Zh2 m h n') (n2 n' hn')⟩
theorem Zex {prog:Program}{w:World}:∀{vs:List Value} {u:List Int},IntsAre vs u→ItemsAre (intKind prog w) u vs
 |_,_,.nil=> .nil
 |_,_,.cons n t h=> .cons (Qdj _ _ _ _) (Zex h)
theorem Zcf.key {u:List Int}(t:Zcf h (.ref a) u):IsTupleKey (intKind prog w) h u a:=by
 obtain⟨b,o,its,n,e,e1,c,d,i⟩:=t;cases e;exact⟨o,its,n,e1,c,d,Zex i⟩
theorem Ze0:∀{vs:List Value} {u:List Int},IntsAre vs u→∀v∈vs,∃n t,v=Value.int n t
 |_,_,.nil,v,hv=>by cases hv
 |_,_,.cons n t h,v,hv=>by
  rcases Qaz.mp hv with rfl|hv
  ·exact⟨n,t,rfl⟩
  ·exact Ze0 h v hv
theorem ZgK {u:List Int}{Q:Bool→Shared→Prop}(t:Zcf s.heap x u)(h:Q true s):wpAny (model prog w) A (hashByValue 8 x) Q E s:=by
 obtain⟨a,o,its,n,rfl,e,c,d,i⟩:=t;have hT:s.TypeIs (.ref a) "tuple" :=⟨o,e,c⟩;unfold hashByValue;refine Qaa (Qe6 hT PySem.F.slot_tuple_hash.lookup ?_);show wpAny _ _ (seqItems? (.ref a)>>=_) _ _ s;refine Qaa (Qb6 e d ?_);refine Qaa ?_;show wpAny _ _ (forIn its _ _) _ _ s;rw[←Array.forIn_toList];refine QdK _ (fun l r t=>r.1=none∧t=s∧∀v∈l,∃n t,v=Value.int n t) _ ?_ ?_ _ _ ⟨rfl,rfl,Ze0 i⟩
 ·rintro v l r t ⟨hr,rfl,al⟩;obtain⟨m,k,rfl⟩:=al v Qai;refine Qaa (Qae ?_);rw[if_neg (by simp)];exact Qae ⟨rfl,rfl,fun y hy=>al y (Qao _ hy)⟩
 ·rintro⟨r1,r2⟩ t ⟨hr,rfl,_⟩;cases(show r1=none from hr);exact Qae h
theorem ZdX {u:List Int}{Q:Bool→Shared→Prop}(t:Zcf s.heap x u)(h:Q false s):wpAny (model prog w) A (ofAClassStatement 8 x) Q E s:=by
 obtain⟨a,o,its,n,rfl,e,c,d,i⟩:=t;have hT:s.TypeIs (.ref a) "tuple" :=⟨o,e,c⟩;unfold ofAClassStatement;refine Qaa (QdF hT ?_);dsimp only;rw[if_pos (by decide)];refine Qaa (Qae ?_);rw[if_neg (by simp)];refine Qaa (Qb6 e d ?_);dsimp only;refine Qaa ?_;rw[←Array.forIn_toList];refine QdK _ (fun l r t=>r.1=none∧t=s∧∀v∈l,∃n t,v=Value.int n t) _ ?_ ?_ _ _ ⟨rfl,rfl,Ze0 i⟩
 ·rintro v l r t ⟨hr,rfl,al⟩;obtain⟨m,k,rfl⟩:=al v Qai;refine Qaa (Qae ?_);rw[if_neg (by simp)];exact Qae ⟨rfl,rfl,fun y hy=>al y (Qao _ hy)⟩
 ·rintro⟨r1,r2⟩ t ⟨hr,rfl,_⟩;cases(show r1=none from hr);exact Qae h
theorem Zos {u:List Int}{ys:List Value}{Q:Bool→Shared→Prop}(hx:Zcf s.heap x u)(ty:∀y∈ys,∃v,Zcf s.heap y v)(h:Q false s):wpAny (model prog w) A (searchCouldBeSeen x ys) Q E s:=by
 unfold searchCouldBeSeen;refine Qaa ?_;refine QdK _ (fun l r t=>r.1=none∧t=s∧∀y∈l,∃v,Zcf s.heap y v) _ ?_ ?_ _ _ ⟨rfl,rfl,ty⟩
 ·rintro y l r t ⟨hr,rfl,al⟩;obtain⟨v,hy⟩:=al y Qai;have al2:∀z∈l,∃v,Zcf t.heap z v:=fun z hz=>al z (Qao _ hz);obtain⟨a,_,_,_,rfl,_⟩:=id hx;obtain⟨b,_,_,_,rfl,_⟩:=id hy;dsimp only;split
  ·exact Qae ⟨rfl,rfl,al2⟩
  ·refine Qaa (Qfd (hx.key (prog:=prog) (w:=w)) ?_);rw[if_neg (by simp)];refine Qaa (Qfd (hy.key (prog:=prog) (w:=w)) ?_);rw[if_neg (by simp)];refine Qaa (ZdX hx ?_);rw[if_neg (by simp)];refine Qaa (ZdX hy ?_);rw[if_neg (by simp)];exact Qae ⟨rfl,rfl,al2⟩
 ·rintro⟨r1,r2⟩ t ⟨hr,rfl,_⟩;cases(show r1=none from hr);exact Qae h
def hsh (prog:Program)(w:World)(u:List Int):Int:=tupleKeyHash (intKind prog w) u
def EA (prog:Program)(w:World)(V0:Value→Prop)(hp:Heap)(es:List (Int×Value))(ks:List (List Int)):Prop:=es.length=ks.length∧∀(i:Nat) (e:Int×Value) (k:List Int),es[i]?=some e→ks[i]?=some k→Zcf hp e.2 k∧e.1=hsh prog w k∧V0 e.2
theorem Zmb {o:Obj}{es:Array (Int×Value)}{ep:Nat}{t:SetTable}{u:List Int}{Q:SetFound→Shared→Prop}(ho:s.heap.get? a=some o)(hd:o.data= .set es ep t)
  (K:ZcU t led (es.toList.map (·.1))) (ea:EA prog w V0 s.heap es.toList ks) (hx:Zcf s.heap x u) (hu:A.units<cLine) {N:Nat} (hf:¬Occ t (itP t.mask (ZaE t.mask (hsh prog w u)) N).j) (hoc:∀n,n<N→Occ t (itP t.mask (ZaE t.mask (hsh prog w u)) n).j) (hN:N<10*SetTable.turns t.mask)
  (h1:u∈ks→Q (.there none) s) (h2:u∉ks→Q (.free (itP t.mask (ZaE t.mask (hsh prog w u)) N).j false) s):
  ∀(qk c:Nat) (qF:Option Pb),qF.getD (t.probeStart (hsh prog w u))=itP t.mask (ZaE t.mask (hsh prog w u)) c→c≤N→N<c+qk→(∀(n i:Nat) (k:List Int),n<c→t.place[i]?=some (itP t.mask (ZaE t.mask (hsh prog w u)) n).j→ks[i]?=some k→k≠u)→
   wpAny (model prog w) A (setSearchFrom a x (hsh prog w u) true qk qF) Q E s:=by
 have fit:t.fits es.size=true:=by
  have:=K.fits;rw[Qac,Qal] at this;exact this
 have gave:¬t.gaveWay=true:=by
  unfold SetTable.gaveWay;rcases K.okm with h|h|h|h<;>rw[h]<;>decide
 have kl:ks.length=es.size:=by rw[←ea.1,Qal]
 intro qk
 induction qk with
 |zero=>intro c qF _ _ _;omega
 |succ qk ih=>
  intro c qF hst cN Nf acc;unfold setSearchFrom;refine Qaa (QbI ho hd fit ?_);dsimp only;rw[if_neg gave];rcases Zew K.tb (f:=fun i=>(es[i]?.map (·.1)).getD 0) (h:=hsh prog w u) (p:=ZaE t.mask (hsh prog w u)) rfl (10*SetTable.turns t.mask) N hf hoc c cN (by omega) with⟨n,i,cn,nN,hpl,hfi,hbt,hgo⟩|⟨hno,hgo⟩
  ·have hpr:t.probe (fun i=>(es[i]?.map (·.1)).getD 0) (hsh prog w u) (qF.getD (t.probeStart (hsh prog w u)))=some (.candidate (itP t.mask (ZaE t.mask (hsh prog w u)) n).j i (itP t.mask (ZaE t.mask (hsh prog w u)) (n+1))):=by rw[hst];exact hgo
   erw [hpr]
   dsimp only
   have il:i<es.size:=by
    have:=(Qa7.mp hpl).1;rw[K.sz,Qac,Qal] at this;exact this
   obtain⟨h',y,hei⟩:∃h' y,es[i]?=some (h',y):=⟨es[i].1,es[i].2,Qas il⟩;obtain⟨k,hk⟩:∃k,ks[i]?=some k:=⟨ks[i],Qab (by omega)⟩;obtain⟨ty,hh,_⟩:=ea.2 i _ k (by rw[Qan];exact hei) hk
   have seen:∀{R:Bool→Shared→Prop},R false s→wpAny (model prog w) A (searchCouldBeSeen x ((es.filter (·.1==hsh prog w u)).toList.map (·.2))) R E s:=fun{R} hR=>by
    refine Zos hx (fun y hy=> ?_) hR;obtain⟨e,he,rfl⟩:=QaS.mp hy;rw[Array.toList_filter] at he;obtain⟨m,hm⟩:=Qay.mp (QeX.mp he).1;have ml:=(Qaf.mp hm).1;have ml2:m<ks.length:=by rw[←ea.1];exact ml
    exact⟨ks[m],(ea.2 m e _ hm (Qab ml2)).1⟩
   have sm:t.sameMemory t.moves t.mask=some true:=by unfold SetTable.sameMemory;simp
   obtain⟨b,_,_,_,eb,_⟩:=id ty;have eb:y= .ref b:=eb;subst eb;obtain⟨c',_,_,_,ec,_⟩:=id hx;subst ec;by_cases hl:t.led=true
   ·rw[if_neg (by simp[hl])];rw[hei];dsimp only;refine Qaa (Qbd (Qeg hu (ty.key (prog:=prog) (w:=w)) (hx.key (prog:=prog) (w:=w)) ?_));refine Qaa (QbI ho hd fit ?_);dsimp only;by_cases e:k=u
    ·rw[QaK e,if_pos (by rfl)];exact Qae (h1 (e ▸ Qap hk))
    ·rw[QaC e,if_neg (by simp),sm];dsimp only;rw[if_pos rfl,ZdW K.tb hpl];dsimp only;rw[hei];dsimp only;refine Qaa (Qfe ?_);rw[if_pos rfl];refine Qaa (Qae ?_);dsimp only;rw[if_neg (by simp)];refine ih (n+1) (some _) rfl (by omega) (by omega) fun n' i' k' h3 h4 h5=> ?_;by_cases z:n'<c
     ·exact acc n' i' k' z h4 h5
     ·rcases Qcz (Qct h3) with q|q
      ·intro ek;refine hbt n' i' (by omega) q h4 ?_;have l5:=(Qaf.mp h5).1;have l6:es.toList[i']?=some es.toList[i']:=Qab (by rw[ea.1];exact l5);have l7:=(ea.2 i' _ k' l6 h5).2.1;show(es[i']?.map (·.1)).getD 0=hsh prog w u;rw[←Qan,l6,←ek,←l7];rfl
      ·subst q
       have:i=i':=by rw[←ZbD K.tb.up hpl,←ZbD K.tb.up h4]
       rw[←this,hk] at h5;cases h5;exact e
   ·rw[if_pos (by simp[hl])];refine Qaa (seen ?_);rw[if_neg (by simp)];rw[hei];dsimp only;refine Qaa (Qbd (Qeg hu (ty.key (prog:=prog) (w:=w)) (hx.key (prog:=prog) (w:=w)) ?_));refine Qaa (QbI ho hd fit ?_);dsimp only;by_cases e:k=u
    ·rw[QaK e,if_pos (by rfl)];exact Qae (h1 (e ▸ Qap hk))
    ·rw[QaC e,if_neg (by simp),sm];dsimp only;rw[if_pos rfl,ZdW K.tb hpl];dsimp only;rw[hei];dsimp only;refine Qaa (Qfe ?_);rw[if_pos rfl];refine Qaa (Qae ?_);dsimp only;rw[if_neg (by simp)];refine ih (n+1) (some _) rfl (by omega) (by omega) fun n' i' k' h3 h4 h5=> ?_;by_cases z:n'<c
     ·exact acc n' i' k' z h4 h5
     ·rcases Qcz (Qct h3) with q|q
      ·intro ek;refine hbt n' i' (by omega) q h4 ?_;have l5:=(Qaf.mp h5).1;have l6:es.toList[i']?=some es.toList[i']:=Qab (by rw[ea.1];exact l5);have l7:=(ea.2 i' _ k' l6 h5).2.1;show(es[i']?.map (·.1)).getD 0=hsh prog w u;rw[←Qan,l6,←ek,←l7];rfl
      ·subst q
       have:i=i':=by rw[←ZbD K.tb.up hpl,←ZbD K.tb.up h4]
       rw[←this,hk] at h5;cases h5;exact e
  ·have hpr:t.probe (fun i=>(es[i]?.map (·.1)).getD 0) (hsh prog w u) (qF.getD (t.probeStart (hsh prog w u)))=some (.empty (itP t.mask (ZaE t.mask (hsh prog w u)) N).j none):=by rw[hst];exact hgo
   erw [hpr]
   dsimp only;refine Qae (h2 fun hin=> ?_);obtain⟨i,hi⟩:=Qay.mp hin;have il:=(Qaf.mp hi).1;have hei:es.toList[i]?=some es.toList[i]:=Qab (by rw[ea.1];exact il);obtain⟨ty,hh,_⟩:=ea.2 i _ u hei hi;obtain⟨j,hj,n,n1,n2⟩:=K.rch i (hsh prog w u) (by rw[Qam,hei,←hh];rfl)
   have nN:n<N:=by
    rcases Qeu n N with z|z|z
    ·exact z
    ·subst z;exact absurd ⟨i,by rw[n1];exact hj⟩ hf
    ·exact absurd (n2 N z) hf
   by_cases z:n<c
   ·exact acc n i u z (by rw[n1];exact hj) hi rfl
   ·refine hno n i (by omega) nN (by rw[n1];exact hj) ?_;show(es[i]?.map (·.1)).getD 0=hsh prog w u;rw[←Qan,hei,←hh];rfl
def Zey {α:Type}(l:List α)(p:Nat)(x:α):List α:=l.take p++x::l.drop p
theorem Zcu {α:Type}{l:List α}{p:Nat}{x:α}(hp:p≤l.length):(Zey l p x).length=l.length+1:=by
 unfold Zey;rw[Qag,QaR,QaM,Qbp];omega
theorem Zdv {α:Type}{l:List α}{p:Nat}{x:α}(hp:p≤l.length)(i:Nat):(Zey l p x)[i]?=if i<p then l[i]? else if i=p then some x else l[i-1]?:=by
 unfold Zey;have tl:(l.take p).length=p:=by rw[QaR];omega
 by_cases h:i<p
 ·rw[if_pos h,QaF (by omega),QbC,if_pos h]
 ·rw[if_neg h,Qav (by omega),tl];by_cases e:i=p
  ·rw[if_pos e,e,QcV];rfl
  ·rw[if_neg e];obtain⟨d,hd⟩:∃d,i-p=d+1:=⟨i-p-1,by omega⟩;rw[hd,QeK,Qbv];congr 1;omega
theorem Zkm {α:Type}(l:List α)(p:Nat)(x:α):(Zey l p x).Perm (l++ [x]):=by
 unfold Zey;refine(List.perm_middle).trans ?_;rw[QaX];exact(List.perm_append_singleton x l).symm
theorem Zmc {α β:Type}(f:α→β)(l:List α)(p:Nat)(x:α):(Zey l p x).map f=Zey (l.map f) p (f x):=by
 unfold Zey;rw[QaG,QaV,List.map_take,Qfz]
theorem Zp0 {t:SetTable}(K:ZcU t led hs){h:Int}{N:Nat}(hf:¬Occ t (itP t.mask (ZaE t.mask h) N).j)(hoc:∀n,n<N→Occ t (itP t.mask (ZaE t.mask h) n).j):
  TB (t.put (itP t.mask (ZaE t.mask h) N).j).1 led∧SetTable.below t.place (itP t.mask (ZaE t.mask h) N).j≤hs.length∧(t.put (itP t.mask (ZaE t.mask h) N).j).1.place.size=hs.length+1∧
  (((t.mask=7∧hs.length+1≤4)∨(t.mask=31∧hs.length+1≤18)∨(t.mask=127∧hs.length+1≤76)∨(t.mask=511∧hs.length+1≤306))→ZcU (t.put (itP t.mask (ZaE t.mask h) N).j).1 led (Zey hs (SetTable.below t.place (itP t.mask (ZaE t.mask h) N).j) h)):=by
 generalize hj:(itP t.mask (ZaE t.mask h) N).j=j at*;obtain⟨b1,_,_⟩:=Zds K.tb.up j;have jm:j≤t.mask:=by rw[←hj];exact Zh2 _ _ _
 have tb:=Znf K.tb (Zev K.tb hf);have pl:(t.put j).1.place.toList=Zey t.place.toList (SetTable.below t.place j) j:=Qdi _ _ _;have ple:SetTable.below t.place j≤t.place.toList.length:=by rw[Qal];exact b1
 have hp:SetTable.below t.place j≤hs.length:=by rw[←K.sz];exact b1
 have sz:(t.put j).1.place.size=hs.length+1:=by rw[←Qal,pl,Zcu ple,Qal,K.sz]
 refine⟨tb,hp,sz,fun hm=> ?_⟩
 have gp:∀i:Nat,(t.put j).1.place[i]?=if i<SetTable.below t.place j then t.place[i]? else if i=SetTable.below t.place j then some j else t.place[i-1]?:=fun i=>by
  rw[←Qan,pl,Zdv ple,Qan,Qan]
 have oc:∀x,Occ t x→Occ (t.put j).1 x:=fun x ⟨i,hi⟩=>by
  by_cases z:i<SetTable.below t.place j
  ·exact⟨i,by rw[gp,if_pos z];exact hi⟩
  ·exact⟨i+1,by rw[gp,if_neg (by omega),if_neg (by omega),Nat.add_sub_cancel];exact hi⟩
 refine⟨tb,by rw[Zcu hp];exact hm,by rw[sz,Zcu hp],fun i x hx=> ?_,fun i y hy=> ?_⟩
 ·show x≤t.mask;rw[gp] at hx;split at hx
  ·exact K.le _ _ hx
  ·split at hx
   ·cases hx;exact jm
   ·exact K.le _ _ hx
 ·show∃x:Nat,(t.put j).1.place[i]?=some x∧∃n,(itP t.mask (ZaE t.mask y) n).j=x∧∀n',n'<n→Occ (t.put j).1 (itP t.mask (ZaE t.mask y) n').j;rw[Zdv hp] at hy;rw[gp];split at hy
  ·rename_i z;rw[if_pos z];obtain⟨x,e,n,n1,n2⟩:=K.rch i y hy;exact⟨x,e,n,n1,fun n' hn'=>oc _ (n2 n' hn')⟩
  ·rename_i z;rw[if_neg z];split at hy
   ·rename_i z2;rw[if_pos z2];cases hy;exact⟨j,rfl,N,hj,fun n' hn'=>oc _ (hoc n' hn')⟩
   ·rename_i z2;rw[if_neg z2];obtain⟨x,e,n,n1,n2⟩:=K.rch (i-1) y hy;exact⟨x,e,n,n1,fun n' hn'=>oc _ (n2 n' hn')⟩
def Zmd {α:Type}(l:List α)(ord:List Nat):List α:=ord.filterMap fun i=>l[i]?
theorem Zdw {α:Type}{l:List α}:∀{ord:List Nat},(∀k∈ord,k<l.length)→∀i:Nat,(Zmd l ord)[i]?=(ord[i]?).bind fun k=>l[k]?
 | [],_,i=>rfl
 |k::ord,h,i=>by
  have hk:=h k Qai;have e:Zmd l (k::ord)=l[k]::Zmd l ord:=by unfold Zmd;rw[Qev (b:=l[k]) (Qab hk)]
  rw[e]
  cases i with
  |zero=>show some l[k]=l[k]?;rw[Qab hk]
  |succ i=>exact Zdw (fun x hx=>h x (Qao _ hx)) i
theorem Zc5 {α:Type}{l:List α}{ord:List Nat}(h:ord.Perm (List.range l.length)):(Zmd l ord).Perm l:=by
 have e:(List.range l.length).filterMap (fun i=>l[i]?)=l:=List.filterMap_getElem?_range_length l
 have:=h.filterMap (fun i=>l[i]?);rw[e] at this;exact this
def ZgL (prog:Program)(w:World)(V0:Value→Prop)(hp:Heap)(a:Addr)(us:List (List Int)):Prop:=
 ∃o es ep t ks,hp.get? a=some o∧o.ExactSet∧o.data= .set es ep t∧EA prog w V0 hp es.toList ks∧ks.Perm us∧ZcU t (!w.params.followText "set-order") (es.toList.map (·.1))
theorem EA.keep {es:List (Int×Value)}(x:EA prog w V0 h es ks)(k:∀(b:Addr) (o:Obj),o.cls= .type "tuple" →h.get? b=some o→h'.get? b=some o):EA prog w V0 h' es ks:=
 ⟨x.1,fun i e u h1 h2=>⟨(x.2 i e u h1 h2).1.keep' k,(x.2 i e u h1 h2).2⟩⟩
theorem Zkn {o:Obj}(ho:h.get? a=some o)(hx:o.ExactSet)(sb:Heap.SameBut a h h')(b:Addr)(ob:Obj)(hc:ob.cls= .type "tuple")(hb:h.get? b=some ob):h'.get? b=some ob:=by
 refine sb.extBut b ob (fun z=> ?_) hb;rw[z,ho] at hb;cases hb;rw[hx.1] at hc;exact absurd hc (by decide)
theorem Zme {u:List Int}{Q:Bool→Shared→Prop}(hS:ZgL prog w V0 s.heap a us)(hx:Zcf s.heap x u)(hV:V0 x)(hu:A.units<cLine)(few:us.length+1≤301)
  (h:∀h':Heap,Heap.SameBut a s.heap h'→ZgL prog w V0 h' a (if u∈us then us else us++ [u])→Q (!decide (u∈us)) {s with heap:=h' }):wpAny (model prog w) A (setAddHashed a x (hsh prog w u)) Q E s:=by
 obtain⟨o,es,ep,t,ks,ho,hex,hd,ea,pm,K⟩:=hS;have kl:es.size=us.length:=by rw[←Qal,ea.1,pm.length_eq]
 have fit:t.fits es.size=true:=by
  have:=K.fits;rw[Qac,Qal] at this;exact this
 have hlen:(es.toList.map (·.1)).length=es.size:=by rw[Qac,Qal]
 obtain⟨e,em,ef⟩:=K.room;obtain⟨N0,N1,N2⟩:=Zma K.okm (p:=ZaE t.mask (hsh prog w u)) (Zkj _) (Znq _ _) (by show SetTable.bits _%(t.mask+1)≤t.mask;exact Qct (QdV _ (QdI _))) em;obtain⟨N,hN,hf,hoc⟩:=ZiK (t:=t) (p:=ZaE t.mask (hsh prog w u)) ⟨N0,N1,by rw[N2];exact ef⟩
 have N6:N<100000:=by
  have:SetTable.turns t.mask≤526:=by unfold SetTable.turns;rcases K.okm with z|z|z|z<;>omega
  omega
 obtain⟨c,oc,itc,nc,rfl,hoc',hcc,hdc,hic⟩:=id hx;have sc:¬byScan (.ref c) es=true:=by unfold byScan Value.scannable;simp
 unfold setAddHashed;refine Qbd ?_;unfold setAddHashedIn;refine Qaa (QbI ho hd fit ?_);dsimp only;rw[if_neg sc];refine Qaa ?_;unfold setSearch;refine Zmb ho hd K ea hx hu hf hoc hN (fun hin=> ?_) (fun hno=> ?_) 100000 0 none rfl (QaU _) (by omega) (fun n i k hn=>absurd hn (Qff _))
 ·dsimp only;have hin':u∈us:=pm.mem_iff.mp hin;have z:=h s.heap (Qet ..) (by rw[if_pos hin'];exact⟨o,es,ep,t,ks,ho,hex,hd,ea,pm,K⟩);rw[QaK hin'] at z;exact Qae z
 ·dsimp only;have hno':u∉us:=fun q=>hno (pm.mem_iff.mpr q);obtain⟨tb1,ple,psz,pok⟩:=Zp0 K hf hoc;refine Qaa (QbI ho hd fit ?_);dsimp only;have hbl:(t.put (itP t.mask (ZaE t.mask (hsh prog w u)) N).j).2=SetTable.below t.place (itP t.mask (ZaE t.mask (hsh prog w u)) N).j:=rfl;have hmk:(t.put (itP t.mask (ZaE t.mask (hsh prog w u)) N).j).1.mask=t.mask:=rfl;rw[hbl];generalize(t.put (itP t.mask (ZaE t.mask (hsh prog w u)) N).j).1=t1 at*;generalize SetTable.below t.place (itP t.mask (ZaE t.mask (hsh prog w u)) N).j=p at*;rw[hlen] at ple psz pok;have ple2:p≤es.toList.length:=by rw[Qal];exact ple
  have plk:p≤ks.length:=by rw[←ea.1];exact ple2
  have es1l:(SetTable.insertAt es p (hsh prog w u,Value.ref c)).toList=Zey es.toList p (hsh prog w u,Value.ref c):=Qdi _ _ _;have es1s:(SetTable.insertAt es p (hsh prog w u,Value.ref c)).size=es.size+1:=by rw[←Qal,es1l,Zcu ple2,Qal]
  have pm1:(Zey ks p u).Perm (us++ [u]):=(Zkm ks p u).trans (pm.append_right _)
  have last:∀(h':Heap) (es2:Array (Int×Value)) (t2:SetTable) (ks2:List (List Int)) (ep2:Nat),Heap.SameBut a s.heap h'→h'.get? a=some {o with data:=.set es2 ep2 t2 }→EA prog w V0 h' es2.toList ks2→ks2.Perm (us++ [u])→ZcU t2 (!w.params.followText "set-order") (es2.toList.map (·.1))→Q true {s with heap:=h' }:=fun h' es2 t2 ks2 ep2 sb g ea2 p2 K2=>by
   have z:=h h' sb (by rw[if_neg hno'];exact⟨_,es2,ep2,t2,ks2,g,hex,rfl,ea2,p2,K2⟩);rw[QaC hno'] at z;exact z
  have fin:wpAny (model prog w) A (do
    storeSet a (SetTable.insertAt es p (hsh prog w u,Value.ref c)) t1
    if(!false && t1.tooFull)=true then do
      setRelay a (SetTable.grown (es.size+1))
      pure true
     else pure true) Q E s:=by
   have small:es.size+1≤sizeLine:=QaE (show es.size+1≤1000 by omega) (by decide);refine Qaa (Qdz ho hd ?_ (by rw[es1s];exact small));have o1:=ZcR ho hd (SetTable.insertAt es p (hsh prog w u,Value.ref c)) t1;have b1:=Qb0 s.heap a (Obj.putSet (SetTable.insertAt es p (hsh prog w u,Value.ref c)) t1);have kp1:=Zkn ho hex b1;generalize s.heap.update a (Obj.putSet (SetTable.insertAt es p (hsh prog w u,Value.ref c)) t1)=h1 at o1 b1 kp1⊢
   have ea1:EA prog w V0 h1 (SetTable.insertAt es p (hsh prog w u,Value.ref c)).toList (Zey ks p u):=by
    rw[es1l];refine⟨by rw[Zcu ple2,Zcu plk,ea.1],fun i e k h3 h4=> ?_⟩;rw[Zdv ple2] at h3;rw[Zdv plk] at h4;split at h3
    ·rename_i z;rw[if_pos z] at h4;exact⟨(ea.2 i e k h3 h4).1.keep' kp1,(ea.2 i e k h3 h4).2⟩
    ·rename_i z;rw[if_neg z] at h4;split at h3
     ·rename_i z2;rw[if_pos z2] at h4;cases h3;cases h4;exact⟨hx.keep' kp1,rfl,hV⟩
     ·rename_i z2;rw[if_neg z2] at h4;exact⟨(ea.2 _ e k h3 h4).1.keep' kp1,(ea.2 _ e k h3 h4).2⟩
   have hs1:(SetTable.insertAt es p (hsh prog w u,Value.ref c)).toList.map (·.1)=Zey (es.toList.map (·.1)) p (hsh prog w u):=by rw[es1l,Zmc]
   have tfl:t1.tooFull=decide ((es.size+1)*5≥t.mask*3):=by
    unfold SetTable.tooFull SetTable.fill;rw[psz,tb1.dum,hmk];rfl
   have mb:=K.m;rw[hlen] at mb;by_cases tf:(es.size+1)*5≥t.mask*3
   ·rw[tfl,QaK tf,if_pos (by rfl)];have two:(t.mask=7∧es.size=4)∨(t.mask=31∧es.size=18)∨(t.mask=127∧es.size=76):=by omega
    have okw:OkM (SetTable.sizeAbove (SetTable.grown (es.size+1))-1)∧SetTable.sizeAbove (SetTable.grown (es.size+1))≤512∧es.size+1≤SetTable.sizeAbove (SetTable.grown (es.size+1))-1∧((SetTable.sizeAbove (SetTable.grown (es.size+1))-1=7∧es.size+1≤4)∨(SetTable.sizeAbove (SetTable.grown (es.size+1))-1=31∧es.size+1≤18)∨(SetTable.sizeAbove (SetTable.grown (es.size+1))-1=127∧es.size+1≤76)∨(SetTable.sizeAbove (SetTable.grown (es.size+1))-1=511∧es.size+1≤306)):=by
     rcases two with⟨_,z⟩|⟨_,z⟩|⟨_,z⟩
     ·rw[z];have e1:SetTable.sizeAbove (SetTable.grown (4+1))=32:=by decide
      rw[e1];exact⟨.inr (.inl rfl),by decide,by decide,.inr (.inl ⟨rfl,by decide⟩)⟩
     ·rw[z];have e1:SetTable.sizeAbove (SetTable.grown (18+1))=128:=by decide
      rw[e1];exact⟨.inr (.inr (.inl rfl)),by decide,by decide,.inr (.inr (.inl ⟨rfl,by decide⟩))⟩
     ·rw[z];have e1:SetTable.sizeAbove (SetTable.grown (76+1))=512:=by decide
      rw[e1];exact⟨.inr (.inr (.inr rfl)),by decide,by decide,.inr (.inr (.inr ⟨rfl,by decide⟩))⟩
    generalize SetTable.grown (es.size+1)=W at okw⊢;have hs1s:((SetTable.insertAt es p (hsh prog w u,Value.ref c)).map (·.1)).size=es.size+1:=by rw[Qep,es1s]
    obtain⟨t2,ord,hr,op,K2⟩:=Zkl tb1 (hs:=(SetTable.insertAt es p (hsh prog w u,Value.ref c)).map (·.1)) (want:=W) okw.1 (by rw[hs1s];exact okw.2.2.1) (by rw[hs1s];exact okw.2.2.2);rw[hs1s] at op;generalize hes:SetTable.insertAt es p (hsh prog w u,Value.ref c)=es1 at*;have l1:es1.toList.length=es.size+1:=by rw[Qal,es1s]
    have kl1:(Zey ks p u).length=es.size+1:=by rw[←ea1.1,l1]
    have inr:∀k∈ord.toList,k<es.size+1:=fun k hk=>Qa1.mp (op.mem_iff.mp hk)
    have e2l:(ord.filterMap (es1[·]?)).toList=Zmd es1.toList ord.toList:=by
     rw[Array.toList_filterMap];unfold Zmd;congr 1
     funext i
     rw[Qan]
    have p2:(Zmd es1.toList ord.toList).Perm es1.toList:=Zc5 (by rw[l1];exact op);have e2s:(ord.filterMap (es1[·]?)).size=es1.size:=by rw[←Qal,e2l,p2.length_eq,Qal]
    have fit1:t1.fits es1.size=true:=by
     unfold SetTable.fits SetTable.fill;rw[psz,tb1.dum,hmk,es1s];simp;omega
    refine Qaa ?_;unfold setRelay;refine Qaa (QbI (s:={s with heap:=h1 }) o1 rfl fit1 ?_);dsimp only;rw[if_neg (Nat.not_lt.mpr (QaE okw.2.1 (by decide)))];rw[hr];refine Qaa ?_;change wpAny _ _ (if((ord.filterMap (es1[·]?)).size !=es1.size)=true then _ else pure (ord.filterMap (es1[·]?),t2)) _ _ _;rw[if_neg (by rw[e2s];simp)];refine Qae (Qdz (s:={s with heap:=h1 }) o1 rfl (Qae ?_) (by rw[e2s,es1s];exact small));refine last _ _ t2 (Zmd (Zey ks p u) ord.toList) _ (b1.trans (Qb0 h1 a _)) (ZcR o1 rfl _ _) ?_ ((Zc5 (by rw[kl1];exact op)).trans pm1) ?_
    ·rw[e2l];have g1:=Zdw (l:=es1.toList) (ord:=ord.toList) (fun k hk=>by rw[l1];exact inr k hk);have g2:=Zdw (l:=Zey ks p u) (ord:=ord.toList) (fun k hk=>by rw[kl1];exact inr k hk);refine⟨by rw[p2.length_eq,(Zc5 (l:=Zey ks p u) (by rw[kl1];exact op)).length_eq,ea1.1],fun i e k h3 h4=> ?_⟩;rw[g1] at h3;rw[g2] at h4
     cases zz:ord.toList[i]? with
     |none=>rw[zz] at h3;cases h3
     |some m=>
      rw[zz] at h3 h4;have q:=ea1.2 m e k h3 h4;exact⟨q.1.keep' (Zkn o1 hex (Qb0 h1 a _)),q.2⟩
    ·refine K2 _ (by rw[Qac,e2l,p2.length_eq,l1,hs1s]) fun i k hk=> ?_;have g1:=Zdw (l:=es1.toList) (ord:=ord.toList) (fun k hk=>by rw[l1];exact inr k hk) i;have hk':ord.toList[i]?=some k:=by rw[Qan];exact hk
     rw[hk'] at g1;rw[Qam,e2l,g1,Array.getElem?_map];show Option.map _ es1.toList[k]?=_;rw[Qan]
   ·rw[tfl,QaC tf,if_neg (by simp)];refine Qae (last h1 _ t1 (Zey ks p u) _ b1 o1 ea1 pm1 ?_);rw[hs1];exact pok (by omega)
  split
  ·refine Qaa (ZgK hx ?_);simp only[Qcv];exact fin
  ·refine Qaa (Qae ?_);simp only[Qcv];exact fin
def ddT (us:List (List Int)):List (List Int):=us.foldl (fun acc k=>if k∈acc then acc else acc++ [k]) []
theorem Zmf (us:List (List Int))(k:List Int):ddT (us++ [k])=if k∈ddT us then ddT us else ddT us++ [k]:=by unfold ddT;rw[Qc1];rfl
theorem Zko (us:List (List Int))(k:List Int):k∈ddT us↔k∈us:=by
 have:∀(us acc:List (List Int)),k∈us.foldl (fun acc k=>if k∈acc then acc else acc++ [k]) acc↔k∈acc∨k∈us:=by
  intro us
  induction us with
  |nil=>intro acc;simp
  |cons j us ih=>
   intro acc;rw[QbX,ih];split
   ·rename_i h;constructor
    ·rintro(z|z)
     ·exact .inl z
     ·exact .inr (Qao _ z)
    ·rintro(z|z)
     ·exact .inl z
     ·rcases Qaz.mp z with rfl|z
      ·exact .inl h
      ·exact .inr z
   ·simp[or_assoc]
 have:=this us [];unfold ddT;simpa using this
theorem Zkp (us:List (List Int)):(ddT us).Nodup:=by
 have:∀(us acc:List (List Int)),acc.Nodup→(us.foldl (fun acc k=>if k∈acc then acc else acc++ [k]) acc).Nodup:=by
  intro us
  induction us with
  |nil=>intro acc h;exact h
  |cons j us ih=>
   intro acc h;refine ih _ ?_;show(if j∈acc then acc else acc++ [j]).Nodup;split
   ·exact h
   ·rename_i hj;rw[Qcc];exact⟨h,by simp,fun a ha b hb z=>hj (by rw[←Qaj.mp hb,←z];exact ha)⟩
 exact this us [] QdC
theorem ZgM (us:List (List Int)):(ddT us).length≤us.length:=by
 have:∀(us acc:List (List Int)),(us.foldl (fun acc k=>if k∈acc then acc else acc++ [k]) acc).length≤acc.length+us.length:=by
  intro us
  induction us with
  |nil=>intro acc;exact Qak _
  |cons k us ih=>
   intro acc;have h:=ih (if k∈acc then acc else acc++ [k]);have h2:(if k∈acc then acc else acc++ [k]).length≤acc.length+1:=by split<;>simp
   rw[QbX,QaM];omega
 have:=this us [];unfold ddT;simpa using this
theorem ZgL.keep {prog:Program}{w:World}{V0:Value→Prop}{h h':Heap}{a:Addr}{us:List (List Int)}(x:ZgL prog w V0 h a us)(k:∀b o,(b=a∨o.cls= .type "tuple")→h.get? b=some o→h'.get? b=some o):ZgL prog w V0 h' a us:=by
 obtain⟨o,es,ep,t,ks,ho,hx,hd,ea,r⟩:=x;exact⟨o,es,ep,t,ks,k a o (.inl rfl) ho,hx,hd,ea.keep fun b ob c e=>k b ob (.inr c) e,r⟩
theorem ZgL.other {u:List Int}(x:ZgL prog w V0 h a us)(t:Zcf h v u)(sb:Heap.SameBut a h h'):Zcf h' v u:=by
 obtain⟨o,es,ep,tb,ks,ho,hx,_⟩:=x;exact t.keep' (Zkn ho hx sb)
section
variable {J:Addr}{fp wr:List Addr}{G:Array GenState→Array GenState→Prop}{P:Nat→Value→Prop}{St:Nat→Shared→Prop}
theorem Zmg (Wk:WalksS prog w A.in1 J fp wr G n P St)(S:Addr)(hS:S∉fp)(hu:A.in1.units<cLine)(us:List (List Int))(hns:us.length=n)(hb:n+1≤301)(hV:∀i v,P i v→V0 v)(hwt:∀(s:Shared) (i:Nat),St i s→∀b∈wr,∀o,s.heap.get? b=some o→o.cls≠ .type "tuple"):
  ∀(c i:Nat) (s:Shared),n-i=c→i≤n→St i s→ZgL prog w V0 s.heap S (ddT (us.take i))→(∀i v,P i v→Zcf s.heap v (us.getD i []))→(∀s',Moved (S::wr) G s s'→ZgL prog w V0 s'.heap S (ddT us)→R (.ok (.ret .none)) s')→
   codeAny (model prog w) A (.builtin "set.update.loop" ⟨[.ref S,.ref J],[]⟩) R s:=by
 have nw:S∉wr:=fun h=>hS (Wk.sub _ h);have sub:∀b∈wr,b∈S::wr:=fun b hb=>Qao _ hb;intro c
 induction c with
 |zero=>
  intro i s hc hi st hj hv hR;have e:i=n:=by omega
  subst e;refine QbH QbY ?_;rw[Qbo Qbi _];show wpAny _ A.in1 (pyNext (.ref J)>>=_) _ _ s;refine Qaa (Wk.done s _ _ st fun s' hm=> ?_);show wpAny _ A.in1 (ret Value.none) _ _ s';rw[←hns,Qa6] at hj
  exact Qae (hR s' (hm.mono sub) (hj.keep fun b o hb ho=>hm.heap b _ (fun z=>by
   rcases hb with rfl|q
   ·exact nw z
   ·exact hwt s _ st b z o ho q) ho))
 |succ c ih=>
  intro i s hc hi st hj hv hR;have lt:i<n:=by omega
  refine QbH QbY ?_;rw[Qbo Qbi _];show wpAny _ A.in1 (pyNext (.ref J)>>=_) _ _ s;refine Qaa (Wk.item i s _ _ lt st fun v s' hP st' hm=> ?_)
  have kp:∀b o,(b=S∨o.cls= .type "tuple")→s.heap.get? b=some o→s'.heap.get? b=some o:=fun b o hb ho=>hm.heap b _ (fun z=>by
   rcases hb with rfl|q
   ·exact nw z
   ·exact hwt s _ st b z o ho q) ho
  have hj':ZgL prog w V0 s'.heap S (ddT (us.take i)):=hj.keep kp;have hv':∀i v,P i v→Zcf s'.heap v (us.getD i []):=fun i v q=>(hv i v q).keep' fun b o c e=>kp b o (.inr c) e;have hlen:(ddT (us.take i)).length≤i:=QaE (ZgM _) (by rw[QaR];omega);have gi:us[i]?=some (us.getD i []):=by rw[QaA,Qab (by omega)];rfl
  have tv:=hv' i v hP;obtain⟨va,_,_,_,rfl,_⟩:=id tv;show wpAny _ A.in1 (holding [Value.ref va] (setAdd S (.ref va))>>=_) _ _ s';refine Qaa (Qbd ?_);unfold setAdd;refine Qbd (Qaa (wpAny_pyHash_tuple (knd:=intKind prog w) hu tv.key ?_));refine Zme (s:={s' with toks:=s'.toks+((us.getD i []).length+1) }) hj' tv (hV i _ hP) hu (by omega) fun h2 sb j2=> ?_
  have j3:ZgL prog w V0 h2 S (ddT (us.take (i+1))):=by
   rw[Zaq gi,Zmf];exact j2
  refine Qae ⟨QcA Qbi _,ih (i+1) _ (by omega) lt (Wk.frame _ s' _ _ st' (Qck _ _) fun b hb o e=> ?_) j3 (fun i v q=>hj'.other (hv' i v q) sb) fun s3 hm3 hj3=> ?_⟩
  ·rw[sb.2 b (fun z:b=S=>hS (by rw[←z];exact hb))];exact e
  ·refine hR s3 (Moved.trans Wk.gtrans ((hm.mono sub).then_heap (Qck _ _) fun b o hb e=> ?_) hm3) hj3;rw[sb.2 b (fun z:b=S=>hb (by rw[z];exact Qai))];exact e
end
theorem Zot (ho:h.get? a=some {cls:=.type "set",dict:=none,data:=.set #[] 0 (.fresh 0 0 (!w.params.followText "set-order")) }):ZgL prog w V0 h a []:=
 ⟨_,#[],0,_,[],ho,⟨rfl,rfl,rfl⟩,rfl,⟨rfl,fun i e k h1=>(by cases h1)⟩,.refl _,⟨⟨rfl,rfl,Qcs⟩,.inl ⟨rfl,QaU _⟩,rfl,fun i j h1=>(by cases h1),fun i x h1=>(by cases h1)⟩⟩
theorem ZfV {l:Addr}(hh:A.handled=none)(hl:s.heap.IsList l its)(hu:A.units+8<cLine)(hln:us.length=its.size)(hi:∀(i:Nat) (v:Value),its[i]?=some v→Zcf s.heap v (us.getD i []))(hb:its.size+1≤301)(hV:∀v∈its.toList,V0 v)
  (h:∀(h':Heap) (tk:Nat),ZgL prog w V0 h' s.heap.objs.size (ddT us)→(∀b o,b<s.heap.objs.size→s.heap.get? b=some o→h'.get? b=some o)→Q (.ref s.heap.objs.size) {s with heap:=h',toks:=tk }):
  wpAny (model prog w) A (call (.type "set") [.ref l]) Q E s:=by
 obtain⟨c,tl,hmro⟩:=PySem.F.called_set.mro;have hmade:=PySem.F.called_set.made;have hsub:=PySem.F.called_set.sub;refine wpAny_call (Qdo ?_);show wpAny _ _ (callAny (.type "set") _) _ _ _;refine Qae ⟨Code.quiet_builtin _ (by decide +kernel),QbH QeF ?_⟩;rw[Around.under_plain (Qe3 "set" [.ref l] []) rfl];have x1:=PySem.F.called_set.notType;have x2:=PySem.F.called_set.canCreate;have x3:=QeU (.ref l)
 repeat (any_goals (first|assumption|wp_step))
 refine QcT (ZfM (.ref l) (E:=E) (Q1:=fun ob s1=>ob= .ref s.heap.objs.size∧s1={s with heap:=s.heap.push {cls:=.type "set",dict:=none,data:=.set #[] 0 (.fresh 0 0 (!w.params.followText "set-order")) } }) ⟨rfl,rfl⟩) fun r s1 hr=> ?_
 cases r with
 |error e=>exact hr
 |ok fl=>
  cases fl with
  |ret ob=>
   obtain⟨rfl,rfl⟩:=hr;generalize hled:(!w.params.followText "set-order")=led;have hS:(s.heap.push {cls:=.type "set",dict:=none,data:=.set #[] 0 (.fresh 0 0 led) }).get? s.heap.objs.size=some {cls:=.type "set",dict:=none,data:=.set #[] 0 (.fresh 0 0 led) }:=Qaw _ rfl;have hT:Shared.TypeIs {s with heap:=s.heap.push {cls:=.type "set",dict:=none,data:=.set #[] 0 (.fresh 0 0 led) } } (.ref s.heap.objs.size) "set" :=⟨_,hS,rfl⟩;have y1:=PySem.F.called_set.init.lookup;have y2:=PySem.F.called_set.init.bind (.ref s.heap.objs.size)
   repeat (any_goals (first|assumption|wp_step))
   refine QcT (codeAny_call_builtin (R:=wants (fun r s2=>r= .none∧∃h' tk,s2={s with heap:=h',toks:=tk }∧ZgL prog w V0 h' s.heap.objs.size (ddT us)∧(∀b o,b<s.heap.objs.size→s.heap.get? b=some o→h'.get? b=some o)) E)
    PySem.F.called_set.init.plain QeV (check_set_init_1 hT ?_)) fun r2 s2 hr2=> ?_
   ·obtain⟨ol,hol,hcl,nl,hdl⟩:=hl;obtain⟨ocls,odict,odata,oslots⟩:=ol;simp only at hcl hdl;subst hcl;subst hdl;have hol':(s.heap.push {cls:=.type "set",dict:=none,data:=.set #[] 0 (.fresh 0 0 led) }).get? l=some {cls:=.type "list",dict:=odict,data:=.seq its nl,slots:=oslots }:=Qad _ hol;have v1:=PySem.F.sub_list_set;have v2:=Qd7;have v3:(Value.type "list" ==Value.type "dict")=false:=by decide
    have hl1:(s.heap.push {cls:=.type "set",dict:=none,data:=.set #[] 0 (.fresh 0 0 led) }).IsList l its:=⟨_,hol',rfl,nl,rfl⟩;unfold Builtin.«set.__init__» noKeywords Builtin.Frozenset.updateFrom;generalize hPI:pyIter=PI
    wp_walk
    subst hPI;refine Qc0 (l:=l) hl1 ?_;refine Qaa (m:=runValue _) (Qej ?_);have ll:l<s.heap.objs.size:=Qar hol;have h3:A.in1.in1.in1.handled=none:=by simp[hh]
    have n1:l≠(s.heap.push {cls:=.type "set",dict:=none,data:=.set #[] 0 (.fresh 0 0 led) }).objs.size:=by rw[QaY];exact QaJ (Qbs ll)
    have n2:s.heap.objs.size∉ [(s.heap.push {cls:=.type "set",dict:=none,data:=.set #[] 0 (.fresh 0 0 led) }).objs.size,l]:=by
     rw[QaY];simp only[Qaz,Qaj,Qbg,QcJ,not_or];exact⟨QaJ (QcN _),Qbc ll⟩
    have kpp:∀b o,s.heap.get? b=some o→((s.heap.push {cls:=.type "set",dict:=none,data:=.set #[] 0 (.fresh 0 0 led) }).push {cls:=.type "list_iterator",data:=.fields #[.ref l,.int 0 0] }).get? b=some o:=fun b o e=>Qad _ (Qad _ e);refine Zmg ((QfC h3 _ l n1 its).toS) s.heap.objs.size n2 (by simp;omega) us hln hb (fun i v hv=>hV v (by rw[←Qan] at hv;exact Qap hv)) ?_ (its.size-0) 0 _ (by omega) (QaU _) ⟨⟨_,Qaw _ rfl,rfl,rfl⟩,(hl1.push _)⟩ ?_ (fun i v hv=>(hi i v hv).keep' fun b o _ e=>kpp b o e) ?_
    ·rintro s' i ⟨⟨oi,ei,ci,_⟩,_⟩ b hb' o ho hc;rw[Qaj.mp hb',ei] at ho;cases ho;rw[ci] at hc;exact absurd hc (by decide)
    ·exact Zot (by rw[hled];exact Qad _ hS)
    ·intro s' hm hj;obtain⟨h',g',d',tk',os'⟩:=s';have eg:g'=s.gens:=hm.gens;have ed:d'=s.drawn:=hm.drawn;have eo:os'=s.os:=hm.os;subst eg;subst ed;subst eo;show wpAny _ _ _ _ _ _;refine Qae ?_;show wpAny _ _ (ret Value.none) _ _ _;refine Qae ⟨rfl,h',tk',rfl,hj,fun b o hb e=> ?_⟩;have b1:b≠s.heap.objs.size:=QaJ hb;have b2:b≠(s.heap.push {cls:=.type "set",dict:=none,data:=.set #[] 0 (.fresh 0 0 led) }).objs.size:=by rw[QaY];exact QaJ (Qbs hb)
     exact hm.heap b o (by simp only[Qaz,Qaj,Qbg,QcJ,not_or];exact⟨b1,b2⟩) (Qad _ (Qad _ e))
   ·cases r2 with
    |error e=>exact hr2
    |ok f2=>
     cases f2 with
     |ret r=>
      obtain⟨rfl,h',tk,rfl,hj,hk⟩:=hr2
      repeat (any_goals (first|assumption|wp_step))
      exact h _ _ hj hk
     |_=>exact hr2.elim
  |_=>exact hr.elim
end L2
namespace TimG
open PySem PySem.Spec PyProof.Rows
variable {i j nb na mg n ac bc lo ia ib base m src d qi n0 nrem:Nat}{a out b a₀ arr xs:Array Keyed}{p y q:Keyed}{prog:Program}{w:World}{A:Around}{E:Value→Shared→Prop}{s:Shared}{L o X Y l W U T:List Keyed}{Q:Option Nat→SortSt→Prop}{P:Array (Nat×Nat×Nat)}{left:Bool}{c:Prop}{Rs:List (List Keyed)}
class KO where
 rk:Value→Int
 ik:Keyed→Prop
 kd:SortKind
variable [KO]
def Zav (p:Keyed):Int:=KO.rk p.1
def Ik (p:Keyed):Prop:=KO.ik p
def IkA (a:Array Keyed):Prop:=∀p∈a.toList,Ik p
class KL (prog:Program) (w:World) (A:Around) (s:Shared):Prop where
 lt:∀{E:Value→Shared→Prop} {x y:Keyed} {st:SortSt} {Q:Option Bool→SortSt→Prop},kindOf st=KO.kd→Ik x→Ik y→Q (some (decide (Zav x<Zav y))) st→wpS (model prog w) A E s (lt' x y) Q st
def K (a:Array Keyed)(i:Nat):Int:=L2.RK KO.rk a i
theorem Zh3 (hj:j≤xs.size)(k:Nat):K (mirror xs i j ((j-i)/2)) k=if i≤k∧k<j then K xs (i+j-1-k) else K xs k:=L2.RK_mir hj k
theorem Za9 (hj:j≤xs.size)(heq:∀k,i≤k→k<j→K xs k=K xs (j-1))(k:Nat):K (mirror xs i j ((j-i)/2)) k=K xs k:=L2.mir_same hj heq k
theorem Zmh (hs:src<xs.size)(hd:d≤src)(k:Nat):K (bubble xs src d) k=if k=src-d then K xs src else if src-d<k∧k≤src then K xs (k-1) else K xs k:=L2.RK_bub hs hd k
def Zbp:Bool→Keyed→Array Keyed→Nat→Nat→Nat→StateT SortSt Sem (Option Nat):=sortPriv%PySem.Builtin.gallop
def Zdx:Array Keyed→Array Keyed→StateT SortSt Sem (Array Keyed):=sortPriv%PySem.Builtin.mergeLo
def Zdy:Array Keyed→Array Keyed→StateT SortSt Sem (Array Keyed):=sortPriv%PySem.Builtin.mergeHi
def ZaL:Nat→StateT SortSt Sem Unit:=sortPriv%PySem.Builtin.setMinGallop
abbrev Znr (st:SortSt)(g:Nat):SortSt:=SortSt.mk' (kindOf st) (arrOf st) (pendingOf st) g (failedOf st)
theorem Zbc (g:Nat):ZaL g=modify fun s=>Znr s g:=rfl
def Zb5 (left:Bool)(key:Keyed)(arr:Array Keyed)(base i:Nat):StateT SortSt Sem (Option Bool):=do
 let x←elem' arr (base+i)
 if left then lt' x key else return(←lt' key x).map (!·)
theorem ZiL (left:Bool)(key:Keyed)(arr:Array Keyed)(base n qi:Nat):Zbp left key arr base n qi=(do
 let mut lastofs:=0
 let mut ofs:=1
 let mut lo:=0
 let mut hi:=0
 let some right←Zb5 left key arr base qi|return none
 if right then
  let maxofs:=n-qi
  for _ in [0:n] do
   if ofs≥maxofs then break
   let some more←Zb5 left key arr base (qi+ofs)|return none
   if !more then break
   lastofs:=ofs
   ofs:=2*ofs+1
  lo:=qi+lastofs+1
  hi:=qi+min ofs maxofs
 else
  let maxofs:=qi+1
  for _ in [0:n] do
   if ofs≥maxofs then break
   let some found←Zb5 left key arr base (qi-ofs)|return none
   if found then break
   lastofs:=ofs
   ofs:=2*ofs+1
  lo:=qi+1-min ofs maxofs
  hi:=qi-lastofs
 for _ in [0:n] do
  if lo≥hi then break
  let m:=lo+(hi-lo)/2
  let some more←Zb5 left key arr base m|return none
  if more then lo:=m+1 else hi:=m
 return some hi):=rfl
section
variable  [KL prog w A s]
theorem ZaH {st:SortSt}{Q:Keyed→SortSt→Prop}(e:arr[i]?=some p)(h:Q p st):wpS (model prog w) A E s (elem' arr i) Q st:=by
 rw[elem'_eq,e];exact QaO h
theorem ZdY {x:Keyed}{st:SortSt}{Q:Option Bool→SortSt→Prop}(hk:kindOf st=KO.kd)(hx:Ik x)(hy:Ik y)(h:Q (some (decide (Zav x<Zav y))) st):wpS (model prog w) A E s (lt' x y) Q st:=KL.lt hk hx hy h
def ZbW (left:Bool)(key x:Keyed):Bool:=if left=true then decide (Zav x<Zav key) else !decide (Zav key<Zav x)
theorem ZiM {key:Keyed}{st:SortSt}{Q:Option Bool→SortSt→Prop}(hk:kindOf st=KO.kd)(hkey:Ik key)(e:arr[base+i]?=some p)(hp:Ik p)(h:Q (some (ZbW left key p)) st):wpS (model prog w) A E s (Zb5 left key arr base i) Q st:=by
 unfold Zb5;refine QaH (ZaH e ?_)
 cases left with
 |true=>exact ZdY hk hp hkey h
 |false=>exact QaH (ZdY hk hkey hp (QaO h))
def ZrO (left:Bool)(key:Keyed)(arr:Array Keyed)(base n lo hi:Nat):StateT SortSt Sem (Option Nat):=do
 let mut lo:=lo
 let mut hi:=hi
 for _ in [0:n] do
  if lo≥hi then break
  let m:=lo+(hi-lo)/2
  let some more←Zb5 left key arr base m|return none
  if more then lo:=m+1 else hi:=m
 return some hi
theorem Zkq {key:Keyed}{hi:Nat}{st:SortSt}{b:Nat→Bool}
  (bey:∀{i:Nat} {Q:Option Bool→SortSt→Prop},i<n→Q (some (b i)) st→wpS (model prog w) A E s (Zb5 left key arr base i) Q st) (anti:∀i j,i≤j→j<n→b j=true→b i=true)
  (hl:lo≤hi) (hn:hi≤n) (h1:∀i,i<lo→b i=true) (h2:∀i,hi≤i→i<n→b i=false)
  (h:∀k,k≤n→(∀i,i<k→b i=true)→(∀i,k≤i→i<n→b i=false)→Q (some k) st):wpS (model prog w) A E s (ZrO left key arr base n lo hi) Q st:=by
 unfold ZrO
 refine QaH (Qce (QbP (I:=fun x c st''=>st''=st∧∃l r,c=(none,l,r)∧l≤r∧r≤n∧r-l≤n-x∧(∀i,i<l→b i=true)∧(∀i,r≤i→i<n→b i=false))
  (Q:=fun c st''=>st''=st∧∃l,c=(none,l,l)∧l≤n∧(∀i,i<l→b i=true)∧(∀i,l≤i→i<n→b i=false)) ?step ?fin ⟨rfl,lo,hi,rfl,hl,hn,by omega,h1,h2⟩) ?post)
 case fin=>
  rintro c st'' ⟨rfl,l,r,rfl,a1,a2,a3,a4,a5⟩
  have:l=r:=by omega
  subst this;exact⟨rfl,l,rfl,a2,a4,a5⟩
 case step=>
  rintro x c st'' _ hx ⟨rfl,l,r,rfl,a1,a2,a3,a4,a5⟩;dsimp only;by_cases hge:l≥r
  ·rw[if_pos hge]
   have:l=r:=by omega
   subst this;exact QaO ⟨rfl,l,rfl,a2,a4,a5⟩
  ·rw[if_neg hge];refine QaH (bey (by omega) ?_);dsimp only
   cases hm:b (l+(r-l)/2) with
   |true=>
    refine QaO ⟨rfl,l+(r-l)/2+1,r,rfl,by omega,a2,by omega,fun i hi=> ?_,a5⟩;exact anti i (l+(r-l)/2) (by omega) (by omega) hm
   |false=>
    refine QaO ⟨rfl,l,l+(r-l)/2,rfl,by omega,by omega,by omega,a4,fun i hi hin=> ?_⟩
    cases z:b i with
    |false=>rfl
    |true=>rw[anti _ i hi hin z] at hm;cases hm
 case post=>
  rintro c st'' ⟨rfl,l,rfl,a2,a4,a5⟩;exact QaO (h l a2 a4 a5)
theorem ZiN {key:Keyed}{st:SortSt}{b:Nat→Bool}(hk:kindOf st=KO.kd)(hkey:Ik key)(hh:qi<n)
  (hb:∀i,i<n→∃p,arr[base+i]?=some p∧Ik p∧b i=ZbW left key p) (anti:∀i j,i≤j→j<n→b j=true→b i=true)
  (h:∀k,k≤n→(∀i,i<k→b i=true)→(∀i,k≤i→i<n→b i=false)→Q (some k) st):wpS (model prog w) A E s (Zbp left key arr base n qi) Q st:=by
 have bey:∀{i:Nat} {Q:Option Bool→SortSt→Prop},i<n→Q (some (b i)) st→wpS (model prog w) A E s (Zb5 left key arr base i) Q st:=fun{i Q} hi q=>by
  obtain⟨p,e,ip,eb⟩:=hb i hi;exact ZiM hk hkey e ip (by rw[←eb];exact q)
 rw[ZiL];refine QaH (bey hh ?_);dsimp only
 have low:∀{i j:Nat},i≤j→j<n→b i=false→b j=false:=fun{i j} hij hj hf=>by
  cases z:b j with
  |false=>rfl
  |true=>rw[anti i j hij hj z] at hf;cases hf
 cases hright:b qi with
 |true=>
  rw[if_pos rfl]
  refine QaH (Qce (QbP (I:=fun x c st''=>st''=st∧∃l o,c=(none,l,o)∧x+1≤o∧l<o∧qi+l<n∧b (qi+l)=true)
   (Q:=fun c st''=>st''=st∧∃l o,c=(none,l,o)∧l<o∧qi+l<n∧b (qi+l)=true∧(n-qi≤o∨(qi+o<n∧b (qi+o)=false))) ?_ ?_ ⟨rfl,0,1,rfl,by omega,by omega,by omega,hright⟩) ?_)
  ·rintro x c st'' _ hx ⟨rfl,l,o,rfl,a0,a1,a2,a3⟩;dsimp only;by_cases hge:o≥n-qi
   ·rw[if_pos hge];exact QaO ⟨rfl,l,o,rfl,a1,a2,a3,.inl hge⟩
   ·rw[if_neg hge];refine QaH (bey (by omega) ?_);dsimp only
    cases hm:b (qi+o) with
    |true=>exact QaO ⟨rfl,o,2*o+1,rfl,by omega,by omega,by omega,hm⟩
    |false=>exact QaO ⟨rfl,l,o,rfl,a1,a2,a3,.inr ⟨by omega,hm⟩⟩
  ·rintro c st'' ⟨rfl,l,o,rfl,a0,a1,a2,a3⟩;exact⟨rfl,l,o,rfl,a1,a2,a3,.inl (by omega)⟩
  ·rintro c st'' ⟨rfl,l,o,rfl,a1,a2,a3,a4⟩;refine Zkq (lo:=qi+l+1) (hi:=qi+min o (n-qi)) bey anti (by omega) (by omega) (fun i hi=>anti i (qi+l) (by omega) a2 a3) (fun i hi hin=> ?_) h;rcases a4 with a4|⟨a4,a5⟩
   ·omega
   ·exact low (by omega) hin a5
 |false=>
  rw[if_neg (by decide)]
  refine QaH (Qce (QbP (I:=fun x c st''=>st''=st∧∃l o,c=(none,l,o)∧x+1≤o∧l<o∧l≤qi∧b (qi-l)=false)
   (Q:=fun c st''=>st''=st∧∃l o,c=(none,l,o)∧l<o∧l≤qi∧b (qi-l)=false∧(qi+1≤o∨(o≤qi∧b (qi-o)=true))) ?_ ?_ ⟨rfl,0,1,rfl,by omega,by omega,by omega,hright⟩) ?_)
  ·rintro x c st'' _ hx ⟨rfl,l,o,rfl,a0,a1,a2,a3⟩;dsimp only;by_cases hge:o≥qi+1
   ·rw[if_pos hge];exact QaO ⟨rfl,l,o,rfl,a1,a2,a3,.inl hge⟩
   ·rw[if_neg hge];refine QaH (bey (by omega) ?_);dsimp only
    cases hm:b (qi-o) with
    |true=>exact QaO ⟨rfl,l,o,rfl,a1,a2,a3,.inr ⟨by omega,hm⟩⟩
    |false=>exact QaO ⟨rfl,o,2*o+1,rfl,by omega,by omega,by omega,hm⟩
  ·rintro c st'' ⟨rfl,l,o,rfl,a0,a1,a2,a3⟩;exact⟨rfl,l,o,rfl,a1,a2,a3,.inl (by omega)⟩
  ·rintro c st'' ⟨rfl,l,o,rfl,a1,a2,a3,a4⟩;refine Zkq (lo:=qi+1-min o (qi+1)) (hi:=qi-l) bey anti (by omega) (by omega) (fun i hi=> ?_) (fun i hi hin=>low hi hin a3) h;rcases a4 with a4|⟨a4,a5⟩
   ·omega
   ·exact anti i (qi-o) (by omega) (by omega) a5
end
variable [KO]
def Srt (l:List Keyed):Prop:=l.Pairwise fun x y=>Zav x≤Zav y
structure MI (L o X Y:List Keyed):Prop where
 perm:(o++(X++Y)).Perm L
 so:Srt o
 sx:Srt X
 sy:Srt Y
 le:∀x∈o,∀y∈X++Y,Zav x≤Zav y
theorem Zb6 {a b:List Keyed}(h1:Srt a)(h2:Srt b)(h:∀x∈a,∀y∈b,Zav x≤Zav y):Srt (a++b):=Qcn.mpr ⟨h1,h2,h⟩
theorem Zkr {a b:List Keyed}(h:Srt (a++b)):Srt a:=(Qcn.mp h).1
theorem Zks {a b:List Keyed}(h:Srt (a++b)):Srt b:=(Qcn.mp h).2.1
theorem Zez {a b:List Keyed}(h:Srt (a++b)):∀x∈a,∀y∈b,Zav x≤Zav y:=(Qcn.mp h).2.2
theorem MI.moveA {P:List Keyed}(h:MI L o (P++X) Y)(hp:∀p∈P,∀y∈Y,Zav p≤Zav y):MI L (o++P) X Y:=by
 refine⟨?_,Zb6 h.so (Zkr h.sx) fun x hx y hy=>h.le x hx y (Qat _ (Qat _ hy)),Zks h.sx,h.sy,fun x hx y hy=> ?_⟩
 ·have:=h.perm;rw[QaP] at this;rw[QaP];exact this
 ·rcases Qaq.mp hx with hx|hx
  ·refine h.le x hx y ?_;rcases Qaq.mp hy with hy|hy
   ·exact Qat _ (Qah _ hy)
   ·exact Qah _ hy
  ·rcases Qaq.mp hy with hy|hy
   ·exact Zez h.sx x hx y hy
   ·exact hp x hx y hy
theorem MI.moveB {P:List Keyed}(h:MI L o X (P++Y))(hp:∀p∈P,∀x∈X,Zav p≤Zav x):MI L (o++P) X Y:=by
 refine⟨?_,Zb6 h.so (Zkr h.sy) fun x hx y hy=>h.le x hx y (Qah _ (Qat _ hy)),h.sx,Zks h.sy,fun x hx y hy=> ?_⟩
 ·refine List.Perm.trans ?_ h.perm;rw[QaP];refine QcY o ?_;rw[←QaP,←QaP];exact QcQ Y Qfg
 ·rcases Qaq.mp hx with hx|hx
  ·refine h.le x hx y ?_;rcases Qaq.mp hy with hy|hy
   ·exact Qat _ hy
   ·exact Qah _ (Qah _ hy)
  ·rcases Qaq.mp hy with hy|hy
   ·exact hp x hx y hy
   ·exact Zez h.sy x hx y hy
def ZeA (L R:List Keyed):Prop:=R.Perm L∧Srt R
theorem MI.endA (h:MI L o X []):ZeA L (o++X):=by
 have:=h.perm;rw[Qbl] at this;exact⟨this,Zb6 h.so h.sx fun x hx y hy=>h.le x hx y (Qat _ hy)⟩
theorem MI.lastA (h:MI L o X Y)(hp:∀y∈Y,∀x∈X,Zav y≤Zav x):ZeA L (o++Y++X):=by
 have h2:MI L o X (Y++ []):=by rw[Qbl];exact h
 exact(h2.moveB hp).endA
theorem ZgN (a b:Array Keyed):Zdx a b=(do
 rule "list.sort.merge-lo"
 let total:=a.size+b.size
 let done (out:Array Keyed) (ia ib:Nat):=out++a.extract ia a.size++b.extract ib b.size
 let lastOfA (out:Array Keyed) (ia ib:Nat):=out++b.extract ib b.size++a.extract ia a.size
 let mut out:Array Keyed:=#[←elem' b 0]
 let mut ia:=0
 let mut ib:=1
 if ib==b.size then return done out ia ib
 if ia+1==a.size then return lastOfA out ia ib
 let mut minGallop:=gallopOf (←get)
 for _ in [0:total] do
  let mut acount:=0
  let mut bcount:=0
  for _ in [0:total] do
   let some bWins←lt' (←elem' b ib) (←elem' a ia)|return done out ia ib
   if bWins then
    out:=out.push (←elem' b ib);ib:=ib+1;bcount:=bcount+1;acount:=0
    if ib==b.size then return done out ia ib
    if bcount≥minGallop then break
   else
    out:=out.push (←elem' a ia);ia:=ia+1;acount:=acount+1;bcount:=0
    if ia+1==a.size then return lastOfA out ia ib
    if acount≥minGallop then break
  rule "list.sort.gallop"
  minGallop:=minGallop+1
  for _ in [0:total] do
   if minGallop>1 then minGallop:=minGallop-1
   ZaL minGallop
   let some k←Zbp false (←elem' b ib) a ia (a.size-ia) 0|return done out ia ib
   acount:=k
   if k>0 then
    out:=out++a.extract ia (ia+k);ia:=ia+k
    if ia+1==a.size then return lastOfA out ia ib
    if ia==a.size then return done out ia ib
   out:=out.push (←elem' b ib);ib:=ib+1
   if ib==b.size then return done out ia ib
   let some k←Zbp true (←elem' a ia) b ib (b.size-ib) 0|return done out ia ib
   bcount:=k
   if k>0 then
    out:=out++b.extract ib (ib+k);ib:=ib+k
    if ib==b.size then return done out ia ib
   out:=out.push (←elem' a ia);ia:=ia+1
   if ia+1==a.size then return lastOfA out ia ib
   if acount<7 && bcount<7 then break
  minGallop:=minGallop+1
  ZaL minGallop
 unsupported "internal:list.sort.merge-bound"):=rfl
theorem Zdz (a:Array Keyed)(i:Nat):(a.extract i a.size).toList=a.toList.drop i:=by
 rw[QcF,Qcf];exact QaL (by rw[Qbp,Qal];exact Qak _)
theorem Zou (a:Array Keyed)(i k:Nat):(a.extract i (i+k)).toList=(a.toList.drop i).take k:=by
 rw[QcF,Qcf,Qds]
theorem ZgO (e:a[i]?=some p):a.toList.drop i=p::a.toList.drop (i+1):=by
 have h:a.toList[i]?=some p:=by rw[Qan];exact e
 obtain⟨hi,rfl⟩:=Qaf.mp h;exact QcC hi
theorem Zb7 (h:i<a.size):∃p,a[i]?=some p∧p∈a.toList:=⟨a[i],Qas h,by simp⟩
def Zcv (st st':SortSt):Prop:=kindOf st'=kindOf st∧arrOf st'=arrOf st∧pendingOf st'=pendingOf st∧failedOf st'=failedOf st
theorem Zcv.refl (st:SortSt):Zcv st st:=⟨rfl,rfl,rfl,rfl⟩
theorem Zcv.gal {st st':SortSt}(h:Zcv st st')(g:Nat):Zcv st (Znr st' g):=⟨h.1,h.2.1,h.2.2.1,h.2.2.2⟩
structure Two (a b:Array Keyed):Prop where
 ia:∀p∈a.toList,Ik p
 ib:∀p∈b.toList,Ik p
 sa:Srt a.toList
 sb:Srt b.toList
def LoI (a b out:Array Keyed)(i j:Nat):Prop:=MI (a.toList++b.toList) out.toList (a.toList.drop i) (b.toList.drop j)
theorem LoI.pushA (h:LoI a b out i j)(e:a[i]?=some p)(hp:∀y∈b.toList.drop j,Zav p≤Zav y):LoI a b (out.push p) (i+1) j:=by
 unfold LoI at h⊢;rw[ZgO e] at h;rw[Qcb];exact MI.moveA (P:=[p]) h fun q hq y hy=>by rw[Qaj.mp hq];exact hp y hy
theorem LoI.pushB (h:LoI a b out i j)(e:b[j]?=some p)(hp:∀y∈a.toList.drop i,Zav p≤Zav y):LoI a b (out.push p) i (j+1):=by
 unfold LoI at h⊢;rw[ZgO e] at h;rw[Qcb];exact MI.moveB (P:=[p]) h fun q hq y hy=>by rw[Qaj.mp hq];exact hp y hy
theorem LoI.blockA {k:Nat}(h:LoI a b out i j)(hp:∀x∈(a.toList.drop i).take k,∀y∈b.toList.drop j,Zav x≤Zav y):LoI a b (out++a.extract i (i+k)) (i+k) j:=by
 unfold LoI at h⊢;rw[Qbn,Zou,←Qfr];rw[←QaX k (a.toList.drop i)] at h;exact h.moveA hp
theorem LoI.blockB {k:Nat}(h:LoI a b out i j)(hp:∀x∈(b.toList.drop j).take k,∀y∈a.toList.drop i,Zav x≤Zav y):LoI a b (out++b.extract j (j+k)) i (j+k):=by
 unfold LoI at h⊢;rw[Qbn,Zou,←Qfr];rw[←QaX k (b.toList.drop j)] at h;exact h.moveB hp
theorem LoI.done (h:LoI a b out i j)(hj:j=b.size):ZeA (a.toList++b.toList) (out++a.extract i a.size++b.extract j b.size).toList:=by
 unfold LoI at h;rw[Qbn,Qbn,Zdz,Zdz];rw[QcR (l:=b.toList) (by rw[Qal];omega)] at h⊢;rw[Qbl];exact h.endA
theorem LoI.last (h:LoI a b out i j)(hp:∀y∈b.toList.drop j,∀x∈a.toList.drop i,Zav y≤Zav x):ZeA (a.toList++b.toList) (out++b.extract j b.size++a.extract i a.size).toList:=by
 rw[Qbn,Qbn,Zdz,Zdz];exact MI.lastA h hp
theorem Zmi (h:Srt (p::l)):∀y∈p::l,Zav p≤Zav y:=fun y hy=>by
 rcases Qaz.mp hy with rfl|hy
 ·exact Qb8 _
 ·exact(QbL.mp h).1 y hy
theorem Zh4 (h:Srt l)(i:Nat):Srt (l.drop i):=List.Pairwise.drop h
theorem ZfW (h:Srt a.toList)(e:a[i]?=some p):∀y∈a.toList.drop i,Zav p≤Zav y:=by
 have:=Zh4 h i;rw[ZgO e] at this⊢;exact Zmi this
section
variable  [KL prog w A s]
theorem Zc6 {key:Keyed}{st:SortSt}(hk:kindOf st=KO.kd)(hkey:Ik key)(hh:qi<n)(hn:base+n≤arr.size)(hi:∀p∈arr.toList,Ik p)(hs:∀(i j:Nat) (p q:Keyed),i≤j→j<n→arr[base+i]?=some p→arr[base+j]?=some q→Zav p≤Zav q)
  (h:∀k,k≤n→(∀i p,i<k→arr[base+i]?=some p→ZbW left key p=true)→(∀i p,k≤i→i<n→arr[base+i]?=some p→ZbW left key p=false)→Q (some k) st):wpS (model prog w) A E s (Zbp left key arr base n qi) Q st:=by
 refine ZiN (b:=fun i=>match arr[base+i]? with|some p=>ZbW left key p|none=>false) hk hkey hh (fun i hi'=> ?_) (fun i j hij hj hb=> ?_) fun k hk1 hk2 hk3=>h k hk1 (fun i p hik e=> ?_) (fun i p hki hin e=> ?_)
 ·obtain⟨p,e,hp⟩:=Zb7 (a:=arr) (i:=base+i) (by omega);exact⟨p,e,hi p hp,by rw[e]⟩
 ·obtain⟨p,e,hp⟩:=Zb7 (a:=arr) (i:=base+i) (by omega);obtain⟨q,e',hq⟩:=Zb7 (a:=arr) (i:=base+j) (by omega);rw[e'] at hb;rw[e]
  have:=hs i j p q hij hj e e';show ZbW left key p=true;have hb:ZbW left key q=true:=hb;unfold ZbW at hb⊢
  cases left with
  |true=>rw[if_pos rfl] at hb⊢;exact QaK (by have:=QaQ hb;omega)
  |false=>
   rw[if_neg (by decide)] at hb⊢;rw[QaC (by intro z;rw[QaK (show Zav key<Zav q by omega)] at hb;cases hb)];rfl
 ·have:=hk2 i hik;rw[e] at this;exact this
 ·have:=hk3 i hki hin;rw[e] at this;exact this
end
variable [KO]
abbrev LoS:=Option (Array Keyed)×Array Keyed×Nat×Nat×Nat×Nat×Nat
def ZqR (a b out:Array Keyed)(ia ib mg ac bc:Nat):StateT SortSt Sem (ForInStep LoS):=do
 let p←elem' a ia
 if(ia+1+1==a.size)=true then pure (.done (some (out.push p++b.extract ib b.size++a.extract (ia+1) a.size),out.push p,ia+1,ib,mg,ac,bc))
 else if(decide (ac<7) && decide (bc<7))=true then pure (.done (none,out.push p,ia+1,ib,mg,ac,bc)) else pure (.yield (none,out.push p,ia+1,ib,mg,ac,bc))
def Zrm (a b out:Array Keyed)(ia ib mg ac bc:Nat):StateT SortSt Sem (ForInStep LoS):=
 if(ib==b.size)=true then pure (.done (some (out++a.extract ia a.size++b.extract ib b.size),out,ia,ib,mg,ac,bc))
 else do
  let p←elem' a ia
  let x←Zbp true p b ib (b.size-ib) 0
  match x with
  |some k=>
   if k>0 then
    if(ib+k==b.size)=true then pure (.done (some (out++b.extract ib (ib+k)++a.extract ia a.size++b.extract (ib+k) b.size),out++b.extract ib (ib+k),ia,ib+k,mg,ac,k))
    else ZqR a b (out++b.extract ib (ib+k)) ia (ib+k) mg ac k
   else ZqR a b out ia ib mg ac k
  |_=>pure (.done (some (out++a.extract ia a.size++b.extract ib b.size),out,ia,ib,mg,ac,bc))
def ZqS (a b out:Array Keyed)(ia ib mg ac bc:Nat):StateT SortSt Sem (ForInStep LoS):=do
 let p←elem' b ib
 Zrm a b (out.push p) ia (ib+1) mg ac bc
def ZqT (a b out:Array Keyed)(ia ib mg ac bc:Nat):StateT SortSt Sem (ForInStep LoS):=do
 ZaL mg
 let p←elem' b ib
 let x←Zbp false p a ia (a.size-ia) 0
 match x with
 |some k=>
  if k>0 then
   if(ia+k+1==a.size)=true then pure (.done (some (out++a.extract ia (ia+k)++b.extract ib b.size++a.extract (ia+k) a.size),out++a.extract ia (ia+k),ia+k,ib,mg,k,bc))
   else if(ia+k==a.size)=true then pure (.done (some (out++a.extract ia (ia+k)++a.extract (ia+k) a.size++b.extract ib b.size),out++a.extract ia (ia+k),ia+k,ib,mg,k,bc))
   else ZqS a b (out++a.extract ia (ia+k)) (ia+k) ib mg k bc
  else ZqS a b out ia ib mg k bc
 |_=>pure (.done (some (out++a.extract ia a.size++b.extract ib b.size),out,ia,ib,mg,ac,bc))
def loG (a b:Array Keyed)(s:LoS):StateT SortSt Sem (ForInStep LoS):=if s.2.2.2.2.1>1 then ZqT a b s.2.1 s.2.2.1 s.2.2.2.1 (s.2.2.2.2.1-1) s.2.2.2.2.2.1 s.2.2.2.2.2.2 else ZqT a b s.2.1 s.2.2.1 s.2.2.2.1 s.2.2.2.2.1 s.2.2.2.2.2.1 s.2.2.2.2.2.2
abbrev LoR:=Option (Array Keyed)×Array Keyed×Nat×Nat×Nat×Nat
def loP (a b:Array Keyed)(mg:Nat)(s:LoR):StateT SortSt Sem (ForInStep LoR):=do
 let p←elem' b s.2.2.2.1
 let q←elem' a s.2.2.1
 let x←lt' p q
 match x with
 |some bWins=>
  if bWins=true then do
   let p←elem' b s.2.2.2.1
   if(s.2.2.2.1+1==b.size)=true then pure (.done (some (s.2.1.push p++a.extract s.2.2.1 a.size++b.extract (s.2.2.2.1+1) b.size),s.2.1.push p,s.2.2.1,s.2.2.2.1+1,0,s.2.2.2.2.2+1))
   else if s.2.2.2.2.2+1≥mg then pure (.done (none,s.2.1.push p,s.2.2.1,s.2.2.2.1+1,0,s.2.2.2.2.2+1))
   else pure (.yield (none,s.2.1.push p,s.2.2.1,s.2.2.2.1+1,0,s.2.2.2.2.2+1))
  else do
   let p←elem' a s.2.2.1
   if(s.2.2.1+1+1==a.size)=true then pure (.done (some (s.2.1.push p++b.extract s.2.2.2.1 b.size++a.extract (s.2.2.1+1) a.size),s.2.1.push p,s.2.2.1+1,s.2.2.2.1,s.2.2.2.2.1+1,0))
   else if s.2.2.2.2.1+1≥mg then pure (.done (none,s.2.1.push p,s.2.2.1+1,s.2.2.2.1,s.2.2.2.2.1+1,0))
   else pure (.yield (none,s.2.1.push p,s.2.2.1+1,s.2.2.2.1,s.2.2.2.2.1+1,0))
 |_=>pure (.done (some (s.2.1++a.extract s.2.2.1 a.size++b.extract s.2.2.2.1 b.size),s.2.1,s.2.2.1,s.2.2.2.1,s.2.2.2.2.1,s.2.2.2.2.2))
abbrev LoO:=Option (Array Keyed)×Array Keyed×Nat×Nat×Nat
def loO (a b:Array Keyed)(s:LoO):StateT SortSt Sem (ForInStep LoO):=do
 let s1←forIn [0:a.size+b.size] ((none,s.2.1,s.2.2.1,s.2.2.2.1,0,0):LoR) fun _ s1=>loP a b s.2.2.2.2 s1
 match s1.1 with
 |some r=>pure (.done (some r,s1.2.1,s1.2.2.1,s1.2.2.2.1,s.2.2.2.2))
 |none=>do
  liftM (rule "list.sort.gallop")
  let s2←forIn [0:a.size+b.size] ((none,s1.2.1,s1.2.2.1,s1.2.2.2.1,s.2.2.2.2+1,s1.2.2.2.2.1,s1.2.2.2.2.2):LoS) fun _ s2=>loG a b s2
  match s2.1 with
  |some r=>pure (.done (some r,s2.2.1,s2.2.2.1,s2.2.2.2.1,s2.2.2.2.2.1))
  |none=>do
   ZaL (s2.2.2.2.2.1+1)
   pure (.yield (none,s2.2.1,s2.2.2.1,s2.2.2.2.1,s2.2.2.2.2.1+1))
theorem ifc {α:Type} [Decidable c]{x y z:α}(h:y=z):(if c then x else y)=(if c then x else z):=by rw[h]
theorem ifd {α:Type} [Decidable c]{x x2 y z:α}(h1:x=x2)(h:y=z):(if c then x else y)=(if c then x2 else z):=by rw[h,h1]
theorem ZfX (a b:Array Keyed):Zdx a b=(do
 liftM (rule "list.sort.merge-lo")
 let p←elem' b 0
 if(1==b.size)=true then pure (#[p]++a.extract 0 a.size++b.extract 1 b.size)
 else if(0+1==a.size)=true then pure (#[p]++b.extract 1 b.size++a.extract 0 a.size)
 else do
  let g←get
  let s1←forIn [0:a.size+b.size] ((none,#[p],0,1,gallopOf g):LoO) fun _ s1=>loO a b s1
  match s1.1 with
  |some r=>pure r
  |none=>unsupported "internal:list.sort.merge-bound"):=by
 rw[ZgN];dsimp only;refine congrArg _ (funext fun _=>congrArg _ (funext fun p=> ?_));refine ifc (ifc ?_);refine congrArg _ (funext fun g=> ?_);congr 1
 ·congr 1
  funext x s1
  unfold loO;refine congrArg _ (funext fun s2=> ?_);obtain⟨r,s2⟩:=s2
  cases r with
  |some r=>rfl
  |none=>
   dsimp only;refine congrArg _ (funext fun _=>congrArg _ (funext fun s3=> ?_));obtain⟨r,s3⟩:=s3
   cases r with
   |some r=>rfl
   |none=>rfl
 ·funext s1
  obtain⟨r,s1⟩:=s1
  cases r with
  |some r=>rfl
  |none=>rfl
variable [KO]
theorem Ze1 (h:y∈a.toList.drop j):∃i,j+i<a.size∧a[j+i]?=some y:=by
 obtain⟨i,hi⟩:=Qay.mp h;rw[Qbv,Qan] at hi;exact⟨i,(Qa7.mp hi).1,hi⟩
theorem Zh5 {k:Nat}(h:y∈(a.toList.drop j).take k):∃i,i<k∧a[j+i]?=some y:=by
 obtain⟨i,hi⟩:=Qay.mp h;rw[QbC] at hi;split at hi
 ·rw[Qbv,Qan] at hi;exact⟨i,by assumption,hi⟩
 ·cases hi
theorem srt_idx (h:Srt a.toList)(hij:i≤j)(e1:a[i]?=some p)(e2:a[j]?=some q):Zav p≤Zav q:=by
 refine ZfW h e1 q ?_;refine Qay.mpr ⟨j-i,?_⟩;rw[Qbv,Qan,show i+(j-i)=j by omega];exact e2
structure LoV (a b out:Array Keyed)(ia ib:Nat):Prop where
 mi:LoI a b out ia ib
 ha:ia+1<a.size
 hb:ib<b.size
section
variable {st st':SortSt} [KL prog w A s]
def OkN (a b:Array Keyed)(st:SortSt)(n0:Nat)(c:LoS)(st':SortSt):Prop:=Zcv st st'∧∃out ia ib mg ac bc,c=(none,out,ia,ib,mg,ac,bc)∧LoV a b out ia ib∧n0≤ia+ib
def OkF (a b:Array Keyed)(st:SortSt)(c:LoS)(st':SortSt):Prop:=Zcv st st'∧∃r rest,c=(some r,rest)∧ZeA (a.toList++b.toList) r.toList
def Zp1 (a b:Array Keyed)(st:SortSt)(n0:Nat):ForInStep LoS→SortSt→Prop:=fun r st'=>match r with
 | .done c=>OkF a b st c st'∨OkN a b st n0 c st'
 | .yield c=>OkN a b st n0 c st'
theorem ZcV (hla:∀p,a[a.size-1]?=some p→∀y∈b.toList,Zav y<Zav p)(h:LoI a b out ia ib)(hi:ia+1=a.size):ZeA (a.toList++b.toList) (out++b.extract ib b.size++a.extract ia a.size).toList:=by
 refine h.last fun y hy x hx=> ?_;obtain⟨i,hi2,e⟩:=Ze1 hx
 have:ia+i=a.size-1:=by omega
 rw[this] at e;exact Qcq (hla x e y (Qco hy))
theorem Zns (hla:∀p,a[a.size-1]?=some p→∀y∈b.toList,Zav y<Zav p)(h:LoV a b out ia ib)(hn:n0≤ia+ib)(kp:Zcv st st')(hle:∀p,a[ia]?=some p→∀y∈b.toList.drop ib,Zav p≤Zav y):wpS (model prog w) A E s (ZqR a b out ia ib mg ac bc) (Zp1 a b st n0) st':=by
 have ha:=h.ha;obtain⟨p,e,_⟩:=Zb7 (a:=a) (i:=ia) (by omega);unfold ZqR;refine QaH (ZaH e ?_);have h1:=h.mi.pushA e (hle p e);by_cases c1:(ia+1+1==a.size)=true
 ·rw[if_pos c1];exact QaO (.inl ⟨kp,_,_,rfl,ZcV hla h1 (by simpa using c1)⟩)
 ·rw[if_neg c1];have c1:ia+1+1≠a.size:=by simpa using c1
  have v:LoV a b (out.push p) (ia+1) ib:=⟨h1,by omega,h.hb⟩;split
  ·exact QaO (.inr ⟨kp,_,_,_,_,_,_,rfl,v,by omega⟩)
  ·exact QaO ⟨kp,_,_,_,_,_,_,rfl,v,by omega⟩
theorem Zp2 (T:Two a b)(hk:kindOf st=KO.kd)(hla:∀p,a[a.size-1]?=some p→∀y∈b.toList,Zav y<Zav p)(h:LoI a b out ia ib)(ha:ia+1<a.size)(hb:ib≤b.size)(hn:n0≤ia+ib)(kp:Zcv st st'):wpS (model prog w) A E s (Zrm a b out ia ib mg ac bc) (Zp1 a b st n0) st':=by
 unfold Zrm;by_cases c1:(ib==b.size)=true
 ·rw[if_pos c1];exact QaO (.inl ⟨kp,_,_,rfl,h.done (by simpa using c1)⟩)
 rw[if_neg c1];have c1:ib≠b.size:=by simpa using c1
 obtain⟨p,e,mp⟩:=Zb7 (a:=a) (i:=ia) (by omega);refine QaH (ZaH e (QaH (Zc6 (kp.1.trans hk) (T.ia p mp) (by omega) (by omega) T.ib (fun i j p q hij _ e1 e2=>srt_idx T.sb (by omega) e1 e2) fun k hk1 hlt hge=> ?_)));dsimp only
 have ge:∀y∈b.toList.drop (ib+k),Zav p≤Zav y:=fun y hy=>by
  obtain⟨i,hi,ei⟩:=Ze1 hy
  have:=hge (k+i) y (by omega) (by omega) (by rw[←QdT];exact ei);unfold ZbW at this;rw[if_pos rfl] at this
  have:=Qa5 this;omega
 by_cases c2:k>0
 ·rw[if_pos c2]
  have h2:=h.blockB (k:=k) fun x hx y hy=>by
   obtain⟨i,hi,ei⟩:=Zh5 hx
   have:=hlt i x hi ei;unfold ZbW at this;rw[if_pos rfl] at this
   have:=QaQ this
   have:=ZfW T.sa e y hy;omega
  by_cases c3:(ib+k==b.size)=true
  ·rw[if_pos c3];exact QaO (.inl ⟨kp,_,_,rfl,h2.done (by simpa using c3)⟩)
  ·rw[if_neg c3];have c3:ib+k≠b.size:=by simpa using c3
   exact Zns hla ⟨h2,ha,by omega⟩ (by omega) kp fun p' e'=>by rw[e] at e';cases e';exact ge
 ·rw[if_neg c2];have k0:k=0:=by omega
  subst k0;exact Zns hla ⟨h,ha,by omega⟩ hn kp fun p' e'=>by rw[e] at e';cases e';exact ge
theorem Znt (T:Two a b)(hk:kindOf st=KO.kd)(hla:∀p,a[a.size-1]?=some p→∀y∈b.toList,Zav y<Zav p)(h:LoV a b out ia ib)(hn:n0≤ia+ib)(kp:Zcv st st')(hle:∀p,b[ib]?=some p→∀y∈a.toList.drop ia,Zav p≤Zav y):wpS (model prog w) A E s (ZqS a b out ia ib mg ac bc) (Zp1 a b st n0) st':=by
 have hb:=h.hb;obtain⟨p,e,_⟩:=Zb7 (a:=b) (i:=ib) hb;unfold ZqS;exact QaH (ZaH e (Zp2 T hk hla (h.mi.pushB e (hle p e)) h.ha (by omega) (by omega) kp))
theorem Znu (T:Two a b)(hk:kindOf st=KO.kd)(hla:∀p,a[a.size-1]?=some p→∀y∈b.toList,Zav y<Zav p)(h:LoV a b out ia ib)(hn:n0≤ia+ib)(kp:Zcv st st'):wpS (model prog w) A E s (ZqT a b out ia ib mg ac bc) (Zp1 a b st n0) st':=by
 have hb:=h.hb;have ha:=h.ha;obtain⟨p,e,mp⟩:=Zb7 (a:=b) (i:=ib) hb;unfold ZqT;rw[Zbc];refine QaH (Qc2 ?_);have kp:=kp.gal mg;refine QaH (ZaH e (QaH (Zc6 (kp.1.trans hk) (T.ib p mp) (by omega) (by omega) T.ia (fun i j p q hij _ e1 e2=>srt_idx T.sa (by omega) e1 e2) fun k hk1 hlt hge=> ?_)));dsimp only
 have ge:∀y∈a.toList.drop (ia+k),Zav p≤Zav y:=fun y hy=>by
  obtain⟨i,hi,ei⟩:=Ze1 hy
  have:=hge (k+i) y (by omega) (by omega) (by rw[←QdT];exact ei);unfold ZbW at this;rw[if_neg (by decide)] at this
  cases z:decide (Zav p<Zav y) with
  |true=>have:=QaQ z;omega
  |false=>rw[z] at this;cases this
 have lt:∀(i:Nat) (x:Keyed),i<k→a[ia+i]?=some x→Zav x≤Zav p:=fun i x hi ei=>by
  have:=hlt i x hi ei;unfold ZbW at this;rw[if_neg (by decide)] at this
  cases z:decide (Zav p<Zav x) with
  |true=>rw[z] at this;cases this
  |false=>have:=Qa5 z;omega
 by_cases c2:k>0
 ·rw[if_pos c2]
  have h2:=h.mi.blockA (k:=k) fun x hx y hy=>by
   obtain⟨i,hi,ei⟩:=Zh5 hx
   have:=lt i x hi ei
   have:=ZfW T.sb e y hy;omega
  by_cases c3:(ia+k+1==a.size)=true
  ·rw[if_pos c3];exact QaO (.inl ⟨kp,_,_,rfl,ZcV hla h2 (by simpa using c3)⟩)
  rw[if_neg c3];have c3:ia+k+1≠a.size:=by simpa using c3
  by_cases c4:(ia+k==a.size)=true
  ·have c4:ia+k=a.size:=by simpa using c4
   exfalso;obtain⟨x,ex,_⟩:=Zb7 (a:=a) (i:=a.size-1) (by omega);have h3:=hla x ex p mp;have h4:=lt (k-1) x (by omega) (by rw[show ia+(k-1)=a.size-1 by omega];exact ex);omega
  ·rw[if_neg c4];have c4:ia+k≠a.size:=by simpa using c4
   exact Znt T hk hla ⟨h2,by omega,hb⟩ (by omega) kp fun p' e'=>by rw[e] at e';cases e';exact ge
 ·rw[if_neg c2];have k0:k=0:=by omega
  subst k0;exact Znt T hk hla h hn kp fun p' e'=>by rw[e] at e';cases e';exact ge
theorem Zrn (T:Two a b)(hk:kindOf st=KO.kd)(hla:∀p,a[a.size-1]?=some p→∀y∈b.toList,Zav y<Zav p){c:LoS}(h:OkN a b st n0 c st'):wpS (model prog w) A E s (loG a b c) (Zp1 a b st n0) st':=by
 obtain⟨kp,out,ia,ib,mg,ac,bc,rfl,v,hn⟩:=h;unfold loG;dsimp only;split
 ·exact Znu T hk hla v hn kp
 ·exact Znu T hk hla v hn kp
def OkR (a b:Array Keyed)(st:SortSt)(n0:Nat)(c:LoR)(st':SortSt):Prop:=Zcv st st'∧∃out ia ib ac bc,c=(none,out,ia,ib,ac,bc)∧LoV a b out ia ib∧n0≤ia+ib
def ZrP (a b:Array Keyed)(st:SortSt)(c:LoR)(st':SortSt):Prop:=Zcv st st'∧∃r rest,c=(some r,rest)∧ZeA (a.toList++b.toList) r.toList
theorem Zro (T:Two a b)(hk:kindOf st=KO.kd)(hla:∀p,a[a.size-1]?=some p→∀y∈b.toList,Zav y<Zav p){c:LoR}(h:OkR a b st n0 c st'):wpS (model prog w) A E s (loP a b mg c) (fun r st'=>match r with
  | .done c=>ZrP a b st c st'∨OkR a b st (n0+1) c st'
  | .yield c=>OkR a b st (n0+1) c st') st':=by
 obtain⟨kp,out,ia,ib,ac,bc,rfl,v,hn⟩:=h;have hb:=v.hb;have ha:=v.ha;obtain⟨p,e,mp⟩:=Zb7 (a:=b) (i:=ib) hb;obtain⟨q,e2,mq⟩:=Zb7 (a:=a) (i:=ia) (by omega);unfold loP;refine QaH (ZaH e (QaH (ZaH e2 (QaH (ZdY (kp.1.trans hk) (T.ib p mp) (T.ia q mq) ?_)))));dsimp only;by_cases hlt:Zav p<Zav q
 ·rw[QaK hlt,if_pos rfl];refine QaH (ZaH e ?_);have h1:=v.mi.pushB e fun y hy=>by have:=ZfW T.sa e2 y hy;omega
  by_cases c1:(ib+1==b.size)=true
  ·rw[if_pos c1];exact QaO (.inl ⟨kp,_,_,rfl,h1.done (by simpa using c1)⟩)
  rw[if_neg c1];have c1:ib+1≠b.size:=by simpa using c1
  have v1:LoV a b (out.push p) ia (ib+1):=⟨h1,ha,by omega⟩;split
  ·exact QaO (.inr ⟨kp,_,_,_,_,_,rfl,v1,by omega⟩)
  ·exact QaO ⟨kp,_,_,_,_,_,rfl,v1,by omega⟩
 ·rw[QaC hlt,if_neg (by decide)];refine QaH (ZaH e2 ?_);have h1:=v.mi.pushA e2 fun y hy=>by have:=ZfW T.sb e y hy;omega
  by_cases c1:(ia+1+1==a.size)=true
  ·rw[if_pos c1];exact QaO (.inl ⟨kp,_,_,rfl,ZcV hla h1 (by simpa using c1)⟩)
  rw[if_neg c1];have c1:ia+1+1≠a.size:=by simpa using c1
  have v1:LoV a b (out.push q) (ia+1) ib:=⟨h1,by omega,hb⟩;split
  ·exact QaO (.inr ⟨kp,_,_,_,_,_,rfl,v1,by omega⟩)
  ·exact QaO ⟨kp,_,_,_,_,_,rfl,v1,by omega⟩
theorem ZgP {Q:Array Keyed→SortSt→Prop}(T:Two a b)(hk:kindOf st=KO.kd)(a1:1≤a.size)(b1:1≤b.size)(h0:∀p,b[0]?=some p→∀x∈a.toList,Zav p≤Zav x)(hla:∀p,a[a.size-1]?=some p→∀y∈b.toList,Zav y<Zav p)
  (h:∀r st',Zcv st st'→ZeA (a.toList++b.toList) r.toList→Q r st'):wpS (model prog w) A E s (Zdx a b) Q st:=by
 rw[ZfX];refine QaH (Qfm (QbQ ⟨rfl,?_⟩));obtain⟨p,e,mp⟩:=Zb7 (a:=b) (i:=0) (by omega);refine QaH (ZaH e ?_);have st0:LoI a b #[] 0 0:=⟨by show(a.toList++b.toList).Perm _;exact List.Perm.refl _,Qcs,by rw[QcO];exact T.sa,by rw[QcO];exact T.sb,fun x hx=>by cases hx⟩;have st1:LoI a b #[p] 0 1:=st0.pushB e (h0 p e);by_cases c1:(1==b.size)=true
 ·rw[if_pos c1];exact QaO (h _ _ (Zcv.refl st) (st1.done (by simpa using c1)))
 rw[if_neg c1];have c1:1≠b.size:=by simpa using c1
 by_cases c2:(0+1==a.size)=true
 ·rw[if_pos c2];exact QaO (h _ _ (Zcv.refl st) (ZcV hla st1 (by simpa using c2)))
 rw[if_neg c2];have c2:1≠a.size:=by simpa using c2
 refine QaH (QeL ?_)
 refine QaH (Qce (QbP (I:=fun x c st'=>Zcv st st'∧∃out ia ib mg,c=(none,out,ia,ib,mg)∧LoV a b out ia ib∧x≤ia+ib)
  (Q:=fun c st'=>Zcv st st'∧∃r rest,c=(some r,rest)∧ZeA (a.toList++b.toList) r.toList) ?step ?fin ⟨Zcv.refl st,_,_,_,_,rfl,⟨st1,by omega,by omega⟩,by omega⟩) ?post)
 case post=>
  rintro c st' ⟨kp,r,rest,rfl,f⟩;exact QaO (h r st' kp f)
 case fin=>
  rintro c st' ⟨kp,out,ia,ib,mg,rfl,v,hx⟩
  have:=v.ha
  have:=v.hb;omega
 case step=>
  rintro x c st1 _ hx ⟨kp,out,ia,ib,mg,rfl,v,hn⟩;unfold loO;dsimp only;refine QaH (Qce (QbP (I:=fun y c st'=>OkR a b st (x+y) c st') (Q:=fun c st'=>ZrP a b st c st'∨OkR a b st (x+1) c st') ?_ ?_ ⟨kp,_,_,_,_,_,rfl,v,hn⟩) ?_)
  ·rintro y c st2 _ hy hR;refine Qce (Zro T hk hla hR) fun r st3 hr=> ?_
   cases r with
   |done c=>
    rcases hr with hr|⟨k3,out,ia,ib,ac,bc,e3,v3,n3⟩
    ·exact .inl hr
    ·exact .inr ⟨k3,out,ia,ib,ac,bc,e3,v3,by omega⟩
   |yield c=>exact hr
  ·rintro c st2 ⟨k3,out,ia,ib,ac,bc,e3,v3,n3⟩;exact .inr ⟨k3,out,ia,ib,ac,bc,e3,v3,by omega⟩
  ·rintro c st2 (⟨k2,r,rest,rfl,f⟩|⟨k2,out2,ia2,ib2,ac2,bc2,rfl,v2,n2⟩)
   ·exact QaO ⟨k2,_,_,rfl,f⟩
   ·dsimp only;refine QaH (Qfm (QbQ ⟨rfl,?_⟩));refine QaH (Qce (QbP (I:=fun y c st'=>OkN a b st (x+1) c st') (Q:=fun c st'=>OkF a b st c st'∨OkN a b st (x+1) c st') ?_ ?_ ⟨k2,_,_,_,_,_,_,rfl,v2,n2⟩) ?_)
    ·rintro y c st3 _ hy hR;refine Qce (Zrn T hk hla hR) fun r st4 hr=> ?_
     cases r with
     |done c=>exact hr
     |yield c=>exact hr
    ·exact fun c st3 hR=> .inr hR
    ·rintro c st3 (⟨k3,r,rest,rfl,f⟩|⟨k3,out3,ia3,ib3,mg3,ac3,bc3,rfl,v3,n3⟩)
     ·exact QaO ⟨k3,_,_,rfl,f⟩
     ·dsimp only;rw[Zbc];exact QaH (Qc2 (QaO ⟨k3.gal _,_,_,_,_,rfl,v3,by omega⟩))
end
variable [KO]
theorem ZgQ (a b:Array Keyed):Zdy a b=(do
 rule "list.sort.merge-hi"
 let total:=a.size+b.size
 let done (out:Array Keyed) (na nb:Nat):=a.extract 0 na++b.extract 0 nb++out.reverse
 let firstOfB (out:Array Keyed) (na nb:Nat):=b.extract 0 nb++a.extract 0 na++out.reverse
 let mut na:=a.size-1
 let mut nb:=b.size
 let mut out:Array Keyed:=#[←elem' a na]
 if na==0 then return done out na nb
 if nb==1 then return firstOfB out na nb
 let mut minGallop:=gallopOf (←get)
 for _ in [0:total] do
  let mut acount:=0
  let mut bcount:=0
  for _ in [0:total] do
   let some aWins←lt' (←elem' b (nb-1)) (←elem' a (na-1))|return done out na nb
   if aWins then
    na:=na-1;out:=out.push (←elem' a na);acount:=acount+1;bcount:=0
    if na==0 then return done out na nb
    if acount≥minGallop then break
   else
    nb:=nb-1;out:=out.push (←elem' b nb);bcount:=bcount+1;acount:=0
    if nb==1 then return firstOfB out na nb
    if bcount≥minGallop then break
  rule "list.sort.gallop"
  minGallop:=minGallop+1
  for _ in [0:total] do
   if minGallop>1 then minGallop:=minGallop-1
   ZaL minGallop
   let some at_←Zbp false (←elem' b (nb-1)) a 0 na (na-1)|return done out na nb
   let k:=na-at_
   acount:=k
   if k>0 then
    out:=out++(a.extract at_ na).reverse;na:=at_
    if na==0 then return done out na nb
   nb:=nb-1;out:=out.push (←elem' b nb)
   if nb==1 then return firstOfB out na nb
   let some at_←Zbp true (←elem' a (na-1)) b 0 nb (nb-1)|return done out na nb
   let k:=nb-at_
   bcount:=k
   if k>0 then
    out:=out++(b.extract at_ nb).reverse;nb:=at_
    if nb==1 then return firstOfB out na nb
    if nb==0 then return done out na nb
   na:=na-1;out:=out.push (←elem' a na)
   if na==0 then return done out na nb
   if acount<7 && bcount<7 then break
  minGallop:=minGallop+1
  ZaL minGallop
 unsupported "internal:list.sort.merge-bound"):=rfl
structure HI (L X Y o:List Keyed):Prop where
 perm:((X++Y)++o).Perm L
 so:Srt o
 sx:Srt X
 sy:Srt Y
 le:∀y∈X++Y,∀z∈o,Zav y≤Zav z
theorem HI.moveA {P:List Keyed}(h:HI L (X++P) Y o)(hp:∀p∈P,∀y∈Y,Zav y≤Zav p):HI L X Y (P++o):=by
 refine⟨?_,Zb6 (Zks h.sx) h.so fun x hx y hy=>h.le x (Qat _ (Qah _ hx)) y hy,Zkr h.sx,h.sy,fun y hy z hz=> ?_⟩
 ·refine List.Perm.trans ?_ h.perm;rw[←QaP];refine QcQ o ?_;rw[QaP,QaP];exact QcY X Qfg
 ·rcases Qaq.mp hz with hz|hz
  ·rcases Qaq.mp hy with hy|hy
   ·exact Zez h.sx y hy z hz
   ·exact hp z hz y hy
  ·refine h.le y ?_ z hz;rcases Qaq.mp hy with hy|hy
   ·exact Qat _ (Qat _ hy)
   ·exact Qah _ hy
theorem HI.moveB {P:List Keyed}(h:HI L X (Y++P) o)(hp:∀p∈P,∀x∈X,Zav x≤Zav p):HI L X Y (P++o):=by
 refine⟨?_,Zb6 (Zks h.sy) h.so fun x hx y hy=>h.le x (Qah _ (Qah _ hx)) y hy,h.sx,Zkr h.sy,fun y hy z hz=> ?_⟩
 ·have:=h.perm;rw[←QaP,QaP] at this;rw[←QaP] at this;rw[←QaP];simpa[QaP] using this
 ·rcases Qaq.mp hz with hz|hz
  ·rcases Qaq.mp hy with hy|hy
   ·exact hp z hz y hy
   ·exact Zez h.sy y hy z hz
  ·refine h.le y ?_ z hz;rcases Qaq.mp hy with hy|hy
   ·exact Qat _ hy
   ·exact Qah _ (Qat _ hy)
theorem HI.endA (h:HI L [] Y o):ZeA L (Y++o):=⟨h.perm,Zb6 h.sy h.so fun y hy z hz=>h.le y hy z hz⟩
theorem HI.firstB (h:HI L X Y o)(hp:∀p∈X,∀y∈Y,Zav y≤Zav p):ZeA L (Y++X++o):=by
 have h2:HI L ([]++X) Y o:=h;rw[QaP];exact(h2.moveA hp).endA
theorem Ze2 (a:Array Keyed)(n:Nat):(a.extract 0 n).toList=a.toList.take n:=by
 rw[QcF,Qcf,QcO,Nat.sub_zero]
theorem Zkt (a:Array Keyed)(m n:Nat):(a.extract m n).toList=(a.toList.take n).drop m:=by
 rw[QcF,Qcf,List.drop_take]
theorem Zku (e:a[i]?=some p):a.toList.take (i+1)=a.toList.take i++ [p]:=by
 have h:a.toList[i]?=some p:=by rw[Qan];exact e
 rw[Qdx,h];rfl
def HiI (a b out:Array Keyed)(na nb:Nat):Prop:=HI (a.toList++b.toList) (a.toList.take na) (b.toList.take nb) out.toList.reverse
theorem HiI.pushA (h:HiI a b out (na+1) nb)(e:a[na]?=some p)(hp:∀y∈b.toList.take nb,Zav y≤Zav p):HiI a b (out.push p) na nb:=by
 unfold HiI at h⊢;rw[Zku e] at h;rw[Qcb,Qdd];exact HI.moveA (P:=[p]) h fun q hq y hy=>by rw[Qaj.mp hq];exact hp y hy
theorem HiI.pushB (h:HiI a b out na (nb+1))(e:b[nb]?=some p)(hp:∀y∈a.toList.take na,Zav y≤Zav p):HiI a b (out.push p) na nb:=by
 unfold HiI at h⊢;rw[Zku e] at h;rw[Qcb,Qdd];exact HI.moveB (P:=[p]) h fun q hq y hy=>by rw[Qaj.mp hq];exact hp y hy
theorem HiI.blockA (h:HiI a b out na nb)(hm:m≤na)(hp:∀x∈(a.toList.take na).drop m,∀y∈b.toList.take nb,Zav y≤Zav x):HiI a b (out++(a.extract m na).reverse) m nb:=by
 unfold HiI at h⊢;rw[Qbn,Qdd,Qc5,List.reverse_reverse,Zkt];rw[←QaX m (a.toList.take na),List.take_take,Qdn hm] at h;exact h.moveA hp
theorem HiI.blockB (h:HiI a b out na nb)(hm:m≤nb)(hp:∀x∈(b.toList.take nb).drop m,∀y∈a.toList.take na,Zav y≤Zav x):HiI a b (out++(b.extract m nb).reverse) na m:=by
 unfold HiI at h⊢;rw[Qbn,Qdd,Qc5,List.reverse_reverse,Zkt];rw[←QaX m (b.toList.take nb),List.take_take,Qdn hm] at h;exact h.moveB hp
theorem HiI.done (h:HiI a b out 0 nb):ZeA (a.toList++b.toList) (a.extract 0 0++b.extract 0 nb++out.reverse).toList:=by
 unfold HiI at h;rw[Qbn,Qbn,Ze2,Ze2,Qc5];exact HI.endA h
theorem HiI.first (h:HiI a b out na nb)(hp:∀p∈a.toList.take na,∀y∈b.toList.take nb,Zav y≤Zav p):ZeA (a.toList++b.toList) (b.extract 0 nb++a.extract 0 na++out.reverse).toList:=by
 rw[Qbn,Qbn,Ze2,Ze2,Qc5];exact HI.firstB h hp
variable [KO]
abbrev HiS:=Option (Array Keyed)×Nat×Nat×Array Keyed×Nat×Nat×Nat
def ZqU (a b:Array Keyed)(na nb:Nat)(out:Array Keyed)(mg ac bc:Nat):StateT SortSt Sem (ForInStep HiS):=do
 let p←elem' a (na-1)
 if(na-1==0)=true then pure (.done (some (a.extract 0 (na-1)++b.extract 0 nb++(out.push p).reverse),na-1,nb,out.push p,mg,ac,bc))
 else if(decide (ac<7) && decide (bc<7))=true then pure (.done (none,na-1,nb,out.push p,mg,ac,bc)) else pure (.yield (none,na-1,nb,out.push p,mg,ac,bc))
def Zrp (a b:Array Keyed)(na nb:Nat)(out:Array Keyed)(mg ac bc:Nat):StateT SortSt Sem (ForInStep HiS):=
 if(nb==1)=true then pure (.done (some (b.extract 0 nb++a.extract 0 na++out.reverse),na,nb,out,mg,ac,bc))
 else do
  let p←elem' a (na-1)
  let x←Zbp true p b 0 nb (nb-1)
  match x with
  |some m=>
   if nb-m>0 then
    if(m==1)=true then pure (.done (some (b.extract 0 m++a.extract 0 na++(out++(b.extract m nb).reverse).reverse),na,m,out++(b.extract m nb).reverse,mg,ac,nb-m))
    else if(m==0)=true then pure (.done (some (a.extract 0 na++b.extract 0 m++(out++(b.extract m nb).reverse).reverse),na,m,out++(b.extract m nb).reverse,mg,ac,nb-m))
    else ZqU a b na m (out++(b.extract m nb).reverse) mg ac (nb-m)
   else ZqU a b na nb out mg ac (nb-m)
  |_=>pure (.done (some (a.extract 0 na++b.extract 0 nb++out.reverse),na,nb,out,mg,ac,bc))
def ZqV (a b:Array Keyed)(na nb:Nat)(out:Array Keyed)(mg ac bc:Nat):StateT SortSt Sem (ForInStep HiS):=do
 let p←elem' b (nb-1)
 Zrp a b na (nb-1) (out.push p) mg ac bc
def ZqW (a b:Array Keyed)(na nb:Nat)(out:Array Keyed)(mg ac bc:Nat):StateT SortSt Sem (ForInStep HiS):=do
 ZaL mg
 let p←elem' b (nb-1)
 let x←Zbp false p a 0 na (na-1)
 match x with
 |some m=>
  if na-m>0 then
   if(m==0)=true then pure (.done (some (a.extract 0 m++b.extract 0 nb++(out++(a.extract m na).reverse).reverse),m,nb,out++(a.extract m na).reverse,mg,na-m,bc))
   else ZqV a b m nb (out++(a.extract m na).reverse) mg (na-m) bc
  else ZqV a b na nb out mg (na-m) bc
 |_=>pure (.done (some (a.extract 0 na++b.extract 0 nb++out.reverse),na,nb,out,mg,ac,bc))
def hiG (a b:Array Keyed)(s:HiS):StateT SortSt Sem (ForInStep HiS):=if s.2.2.2.2.1>1 then ZqW a b s.2.1 s.2.2.1 s.2.2.2.1 (s.2.2.2.2.1-1) s.2.2.2.2.2.1 s.2.2.2.2.2.2 else ZqW a b s.2.1 s.2.2.1 s.2.2.2.1 s.2.2.2.2.1 s.2.2.2.2.2.1 s.2.2.2.2.2.2
abbrev HiR:=Option (Array Keyed)×Nat×Nat×Array Keyed×Nat×Nat
def hiP (a b:Array Keyed)(mg:Nat)(s:HiR):StateT SortSt Sem (ForInStep HiR):=do
 let p←elem' b (s.2.2.1-1)
 let q←elem' a (s.2.1-1)
 let x←lt' p q
 match x with
 |some aWins=>
  if aWins=true then do
   let p←elem' a (s.2.1-1)
   if(s.2.1-1==0)=true then pure (.done (some (a.extract 0 (s.2.1-1)++b.extract 0 s.2.2.1++(s.2.2.2.1.push p).reverse),s.2.1-1,s.2.2.1,s.2.2.2.1.push p,s.2.2.2.2.1+1,0))
   else if s.2.2.2.2.1+1≥mg then pure (.done (none,s.2.1-1,s.2.2.1,s.2.2.2.1.push p,s.2.2.2.2.1+1,0))
   else pure (.yield (none,s.2.1-1,s.2.2.1,s.2.2.2.1.push p,s.2.2.2.2.1+1,0))
  else do
   let p←elem' b (s.2.2.1-1)
   if(s.2.2.1-1==1)=true then pure (.done (some (b.extract 0 (s.2.2.1-1)++a.extract 0 s.2.1++(s.2.2.2.1.push p).reverse),s.2.1,s.2.2.1-1,s.2.2.2.1.push p,0,s.2.2.2.2.2+1))
   else if s.2.2.2.2.2+1≥mg then pure (.done (none,s.2.1,s.2.2.1-1,s.2.2.2.1.push p,0,s.2.2.2.2.2+1))
   else pure (.yield (none,s.2.1,s.2.2.1-1,s.2.2.2.1.push p,0,s.2.2.2.2.2+1))
 |_=>pure (.done (some (a.extract 0 s.2.1++b.extract 0 s.2.2.1++s.2.2.2.1.reverse),s.2.1,s.2.2.1,s.2.2.2.1,s.2.2.2.2.1,s.2.2.2.2.2))
abbrev HiO:=Option (Array Keyed)×Nat×Nat×Array Keyed×Nat
def hiO (a b:Array Keyed)(s:HiO):StateT SortSt Sem (ForInStep HiO):=do
 let s1←forIn [0:a.size+b.size] ((none,s.2.1,s.2.2.1,s.2.2.2.1,0,0):HiR) fun _ s1=>hiP a b s.2.2.2.2 s1
 match s1.1 with
 |some r=>pure (.done (some r,s1.2.1,s1.2.2.1,s1.2.2.2.1,s.2.2.2.2))
 |none=>do
  liftM (rule "list.sort.gallop")
  let s2←forIn [0:a.size+b.size] ((none,s1.2.1,s1.2.2.1,s1.2.2.2.1,s.2.2.2.2+1,s1.2.2.2.2.1,s1.2.2.2.2.2):HiS) fun _ s2=>hiG a b s2
  match s2.1 with
  |some r=>pure (.done (some r,s2.2.1,s2.2.2.1,s2.2.2.2.1,s2.2.2.2.2.1))
  |none=>do
   ZaL (s2.2.2.2.2.1+1)
   pure (.yield (none,s2.2.1,s2.2.2.1,s2.2.2.2.1,s2.2.2.2.2.1+1))
theorem ZfY (a b:Array Keyed):Zdy a b=(do
 liftM (rule "list.sort.merge-hi")
 let p←elem' a (a.size-1)
 if(a.size-1==0)=true then pure (a.extract 0 (a.size-1)++b.extract 0 b.size++ #[p].reverse)
 else if(b.size==1)=true then pure (b.extract 0 b.size++a.extract 0 (a.size-1)++ #[p].reverse)
 else do
  let g←get
  let s1←forIn [0:a.size+b.size] ((none,a.size-1,b.size,#[p],gallopOf g):HiO) fun _ s1=>hiO a b s1
  match s1.1 with
  |some r=>pure r
  |none=>unsupported "internal:list.sort.merge-bound"):=by
 rw[ZgQ];dsimp only;refine congrArg _ (funext fun _=>congrArg _ (funext fun p=> ?_));refine ifc (ifc ?_);refine congrArg _ (funext fun g=> ?_);congr 1
 ·congr 1
  funext x s1
  unfold hiO;refine congrArg _ (funext fun s2=> ?_);obtain⟨r,s2⟩:=s2
  cases r with
  |some r=>rfl
  |none=>
   dsimp only;refine congrArg _ (funext fun _=>congrArg _ (funext fun s3=> ?_));obtain⟨r,s3⟩:=s3
   cases r with
   |some r=>rfl
   |none=>rfl
 ·funext s1
  obtain⟨r,s1⟩:=s1
  cases r with
  |some r=>rfl
  |none=>rfl
variable [KO]
theorem ZgR (h:y∈(a.toList.take n).drop m):∃i,m≤i∧i<n∧a[i]?=some y:=by
 obtain⟨i,hi⟩:=Qay.mp h;rw[Qbv,QbC] at hi;split at hi
 ·rw[Qan] at hi;exact⟨m+i,by omega,by assumption,hi⟩
 ·cases hi
theorem Zc7 (h:y∈a.toList.take n):∃i,i<n∧a[i]?=some y:=by
 obtain⟨i,_,h2,h3⟩:=ZgR (m:=0) (n:=n) (a:=a) (y:=y) (by rw[QcO];exact h);exact⟨i,h2,h3⟩
theorem Ze3 (h:Srt a.toList)(e:a[n-1]?=some p):∀y∈a.toList.take n,Zav y≤Zav p:=fun y hy=>by
 obtain⟨i,hi,ei⟩:=Zc7 hy;exact srt_idx h (by omega) ei e
structure HiV (a b out:Array Keyed)(na nb:Nat):Prop where
 mi:HiI a b out na nb
 ha:0<na
 ha2:na≤a.size
 hb:1<nb
 hb2:nb≤b.size
section
variable {st st':SortSt} [KL prog w A s]
def OhN (a b:Array Keyed)(st:SortSt)(n0:Nat)(c:HiS)(st':SortSt):Prop:=Zcv st st'∧∃na nb out mg ac bc,c=(none,na,nb,out,mg,ac,bc)∧HiV a b out na nb∧na+nb+n0≤a.size+b.size
def OhF (a b:Array Keyed)(st:SortSt)(c:HiS)(st':SortSt):Prop:=Zcv st st'∧∃r rest,c=(some r,rest)∧ZeA (a.toList++b.toList) r.toList
def Zp3 (a b:Array Keyed)(st:SortSt)(n0:Nat):ForInStep HiS→SortSt→Prop:=fun r st'=>match r with
 | .done c=>OhF a b st c st'∨OhN a b st n0 c st'
 | .yield c=>OhN a b st n0 c st'
theorem Zcw (h0:∀p,b[0]?=some p→∀x∈a.toList,Zav p<Zav x)(h:HiI a b out na nb)(hi:nb=1):ZeA (a.toList++b.toList) (b.extract 0 nb++a.extract 0 na++out.reverse).toList:=by
 refine h.first fun p hp y hy=> ?_;obtain⟨i,hi2,e⟩:=Zc7 hy
 have:i=0:=by omega
 subst this;exact Qcq (h0 y e p (Qbx hp))
theorem Ze4 (h:HiI a b out na nb)(hi:na=0):ZeA (a.toList++b.toList) (a.extract 0 na++b.extract 0 nb++out.reverse).toList:=by
 subst hi;exact h.done
theorem Znv (h:HiV a b out na nb)(hn:na+nb+n0≤a.size+b.size)(kp:Zcv st st')(hle:∀p,a[na-1]?=some p→∀y∈b.toList.take nb,Zav y≤Zav p):wpS (model prog w) A E s (ZqU a b na nb out mg ac bc) (Zp3 a b st n0) st':=by
 have ha:=h.ha;have ha2:=h.ha2;obtain⟨p,e,_⟩:=Zb7 (a:=a) (i:=na-1) (by omega);unfold ZqU;refine QaH (ZaH e ?_);have h1:HiI a b (out.push p) (na-1) nb:=HiI.pushA (by rw[show na-1+1=na by omega];exact h.mi) e (hle p e);by_cases c1:(na-1==0)=true
 ·rw[if_pos c1];exact QaO (.inl ⟨kp,_,_,rfl,Ze4 h1 (by simpa using c1)⟩)
 ·rw[if_neg c1];have c1:na-1≠0:=by simpa using c1
  have v:HiV a b (out.push p) (na-1) nb:=⟨h1,by omega,by omega,h.hb,h.hb2⟩;split
  ·exact QaO (.inr ⟨kp,_,_,_,_,_,_,rfl,v,by omega⟩)
  ·exact QaO ⟨kp,_,_,_,_,_,_,rfl,v,by omega⟩
theorem Zp4 (T:Two a b)(hk:kindOf st=KO.kd)(h0:∀p,b[0]?=some p→∀x∈a.toList,Zav p<Zav x)(h:HiI a b out na nb)(ha:0<na)(ha2:na≤a.size)(hb:1≤nb)(hb2:nb≤b.size)(hn:na+nb+n0≤a.size+b.size)(kp:Zcv st st'):wpS (model prog w) A E s (Zrp a b na nb out mg ac bc) (Zp3 a b st n0) st':=by
 unfold Zrp;by_cases c1:(nb==1)=true
 ·rw[if_pos c1];exact QaO (.inl ⟨kp,_,_,rfl,Zcw h0 h (by simpa using c1)⟩)
 rw[if_neg c1];have c1:nb≠1:=by simpa using c1
 obtain⟨p,e,mp⟩:=Zb7 (a:=a) (i:=na-1) (by omega);refine QaH (ZaH e (QaH (Zc6 (kp.1.trans hk) (T.ia p mp) (by omega) (by omega) T.ib (fun i j p q hij _ e1 e2=>srt_idx T.sb (by omega) e1 e2) fun k hk1 hlt hge=> ?_)));dsimp only
 have ge:∀(i:Nat) (y:Keyed),k≤i→i<nb→b[i]?=some y→Zav p≤Zav y:=fun i y hi1 hi2 ei=>by
  have:=hge i y hi1 hi2 (by rw[QcX];exact ei);unfold ZbW at this;rw[if_pos rfl] at this
  have:=Qa5 this;omega
 have lt:∀(i:Nat) (y:Keyed),i<k→b[i]?=some y→Zav y<Zav p:=fun i y hi ei=>by
  have:=hlt i y hi (by rw[QcX];exact ei);unfold ZbW at this;rw[if_pos rfl] at this;exact QaQ this
 by_cases c2:nb-k>0
 ·rw[if_pos c2]
  have h2:=h.blockB (m:=k) (by omega) fun x hx y hy=>by
   obtain⟨i,hi1,hi2,ei⟩:=ZgR hx
   have:=ge i x hi1 hi2 ei
   have:=Ze3 T.sa e y hy;omega
  by_cases c3:(k==1)=true
  ·rw[if_pos c3];exact QaO (.inl ⟨kp,_,_,rfl,Zcw h0 h2 (by simpa using c3)⟩)
  rw[if_neg c3];have c3:k≠1:=by simpa using c3
  by_cases c4:(k==0)=true
  ·have c4:k=0:=by simpa using c4
   exfalso;obtain⟨x,ex,_⟩:=Zb7 (a:=b) (i:=0) (by omega);have h3:=h0 x ex p mp;have h4:=ge 0 x (by omega) (by omega) ex;omega
  ·rw[if_neg c4];have c4:k≠0:=by simpa using c4
   refine Znv ⟨h2,ha,ha2,by omega,by omega⟩ (by omega) kp fun p' e' y hy=> ?_;rw[e] at e';cases e';obtain⟨i,hi,ei⟩:=Zc7 hy;exact Qcq (lt i y hi ei)
 ·rw[if_neg c2];refine Znv ⟨h,ha,ha2,by omega,hb2⟩ hn kp fun p' e' y hy=> ?_;rw[e] at e';cases e';obtain⟨i,hi,ei⟩:=Zc7 hy;exact Qcq (lt i y (by omega) ei)
theorem Znw (T:Two a b)(hk:kindOf st=KO.kd)(h0:∀p,b[0]?=some p→∀x∈a.toList,Zav p<Zav x)(h:HiV a b out na nb)(hn:na+nb+n0≤a.size+b.size)(kp:Zcv st st')(hle:∀p,b[nb-1]?=some p→∀y∈a.toList.take na,Zav y≤Zav p):wpS (model prog w) A E s (ZqV a b na nb out mg ac bc) (Zp3 a b st n0) st':=by
 have hb:=h.hb;have hb2:=h.hb2;obtain⟨p,e,_⟩:=Zb7 (a:=b) (i:=nb-1) (by omega);unfold ZqV;exact QaH (ZaH e (Zp4 T hk h0 (HiI.pushB (by rw[show nb-1+1=nb by omega];exact h.mi) e (hle p e)) h.ha h.ha2 (by omega) (by omega) (by omega) kp))
theorem Znx (T:Two a b)(hk:kindOf st=KO.kd)(h0:∀p,b[0]?=some p→∀x∈a.toList,Zav p<Zav x)(h:HiV a b out na nb)(hn:na+nb+n0≤a.size+b.size)(kp:Zcv st st'):wpS (model prog w) A E s (ZqW a b na nb out mg ac bc) (Zp3 a b st n0) st':=by
 have hb:=h.hb;have hb2:=h.hb2;have ha:=h.ha;have ha2:=h.ha2;obtain⟨p,e,mp⟩:=Zb7 (a:=b) (i:=nb-1) (by omega);unfold ZqW;rw[Zbc];refine QaH (Qc2 ?_);have kp:=kp.gal mg;refine QaH (ZaH e (QaH (Zc6 (kp.1.trans hk) (T.ib p mp) (by omega) (by omega) T.ia (fun i j p q hij _ e1 e2=>srt_idx T.sa (by omega) e1 e2) fun k hk1 hlt hge=> ?_)));dsimp only
 have ge:∀(i:Nat) (y:Keyed),k≤i→i<na→a[i]?=some y→Zav p≤Zav y:=fun i y hi1 hi2 ei=>by
  have:=hge i y hi1 hi2 (by rw[QcX];exact ei);unfold ZbW at this;rw[if_neg (by decide)] at this
  cases z:decide (Zav p<Zav y) with
  |true=>have:=QaQ z;omega
  |false=>rw[z] at this;cases this
 have lt:∀(i:Nat) (x:Keyed),i<k→a[i]?=some x→Zav x≤Zav p:=fun i x hi ei=>by
  have:=hlt i x hi (by rw[QcX];exact ei);unfold ZbW at this;rw[if_neg (by decide)] at this
  cases z:decide (Zav p<Zav x) with
  |true=>rw[z] at this;cases this
  |false=>have:=Qa5 z;omega
 by_cases c2:na-k>0
 ·rw[if_pos c2]
  have h2:=h.mi.blockA (m:=k) (by omega) fun x hx y hy=>by
   obtain⟨i,hi1,hi2,ei⟩:=ZgR hx
   have:=ge i x hi1 hi2 ei
   have:=Ze3 T.sb e y hy;omega
  by_cases c3:(k==0)=true
  ·rw[if_pos c3];exact QaO (.inl ⟨kp,_,_,rfl,Ze4 h2 (by simpa using c3)⟩)
  rw[if_neg c3];have c3:k≠0:=by simpa using c3
  refine Znw T hk h0 ⟨h2,by omega,by omega,hb,hb2⟩ (by omega) kp fun p' e' y hy=> ?_;rw[e] at e';cases e';obtain⟨i,hi,ei⟩:=Zc7 hy;exact lt i y hi ei
 ·rw[if_neg c2];refine Znw T hk h0 h hn kp fun p' e' y hy=> ?_;rw[e] at e';cases e';obtain⟨i,hi,ei⟩:=Zc7 hy;exact lt i y (by omega) ei
theorem Zp5 (T:Two a b)(hk:kindOf st=KO.kd)(h0:∀p,b[0]?=some p→∀x∈a.toList,Zav p<Zav x){c:HiS}(h:OhN a b st n0 c st'):wpS (model prog w) A E s (hiG a b c) (Zp3 a b st n0) st':=by
 obtain⟨kp,na,nb,out,mg,ac,bc,rfl,v,hn⟩:=h;unfold hiG;dsimp only;split
 ·exact Znx T hk h0 v hn kp
 ·exact Znx T hk h0 v hn kp
def OhR (a b:Array Keyed)(st:SortSt)(n0:Nat)(c:HiR)(st':SortSt):Prop:=Zcv st st'∧∃na nb out ac bc,c=(none,na,nb,out,ac,bc)∧HiV a b out na nb∧na+nb+n0≤a.size+b.size
def ZrQ (a b:Array Keyed)(st:SortSt)(c:HiR)(st':SortSt):Prop:=Zcv st st'∧∃r rest,c=(some r,rest)∧ZeA (a.toList++b.toList) r.toList
theorem Zp6 (T:Two a b)(hk:kindOf st=KO.kd)(h0:∀p,b[0]?=some p→∀x∈a.toList,Zav p<Zav x){c:HiR}(h:OhR a b st n0 c st'):wpS (model prog w) A E s (hiP a b mg c) (fun r st'=>match r with
  | .done c=>ZrQ a b st c st'∨OhR a b st (n0+1) c st'
  | .yield c=>OhR a b st (n0+1) c st') st':=by
 obtain⟨kp,na,nb,out,ac,bc,rfl,v,hn⟩:=h;have hb:=v.hb;have hb2:=v.hb2;have ha:=v.ha;have ha2:=v.ha2;obtain⟨p,e,mp⟩:=Zb7 (a:=b) (i:=nb-1) (by omega);obtain⟨q,e2,mq⟩:=Zb7 (a:=a) (i:=na-1) (by omega);unfold hiP;refine QaH (ZaH e (QaH (ZaH e2 (QaH (ZdY (kp.1.trans hk) (T.ib p mp) (T.ia q mq) ?_)))));dsimp only;by_cases hlt:Zav p<Zav q
 ·rw[QaK hlt,if_pos rfl];refine QaH (ZaH e2 ?_);have h1:HiI a b (out.push q) (na-1) nb:=HiI.pushA (by rw[show na-1+1=na by omega];exact v.mi) e2 fun y hy=>by have:=Ze3 T.sb e y hy;omega
  by_cases c1:(na-1==0)=true
  ·rw[if_pos c1];exact QaO (.inl ⟨kp,_,_,rfl,Ze4 h1 (by simpa using c1)⟩)
  rw[if_neg c1];have c1:na-1≠0:=by simpa using c1
  have v1:HiV a b (out.push q) (na-1) nb:=⟨h1,by omega,by omega,hb,hb2⟩;split
  ·exact QaO (.inr ⟨kp,_,_,_,_,_,rfl,v1,by omega⟩)
  ·exact QaO ⟨kp,_,_,_,_,_,rfl,v1,by omega⟩
 ·rw[QaC hlt,if_neg (by decide)];refine QaH (ZaH e ?_);have h1:HiI a b (out.push p) na (nb-1):=HiI.pushB (by rw[show nb-1+1=nb by omega];exact v.mi) e fun y hy=>by have:=Ze3 T.sa e2 y hy;omega
  by_cases c1:(nb-1==1)=true
  ·rw[if_pos c1];exact QaO (.inl ⟨kp,_,_,rfl,Zcw h0 h1 (by simpa using c1)⟩)
  rw[if_neg c1];have c1:nb-1≠1:=by simpa using c1
  have v1:HiV a b (out.push p) na (nb-1):=⟨h1,ha,ha2,by omega,by omega⟩;split
  ·exact QaO (.inr ⟨kp,_,_,_,_,_,rfl,v1,by omega⟩)
  ·exact QaO ⟨kp,_,_,_,_,_,rfl,v1,by omega⟩
theorem ZgS {Q:Array Keyed→SortSt→Prop}(T:Two a b)(hk:kindOf st=KO.kd)(a1:1≤a.size)(b1:1≤b.size)(h0:∀p,b[0]?=some p→∀x∈a.toList,Zav p<Zav x)(hla:∀p,a[a.size-1]?=some p→∀y∈b.toList,Zav y<Zav p)
  (h:∀r st',Zcv st st'→ZeA (a.toList++b.toList) r.toList→Q r st'):wpS (model prog w) A E s (Zdy a b) Q st:=by
 rw[ZfY];refine QaH (Qfm (QbQ ⟨rfl,?_⟩));obtain⟨p,e,mp⟩:=Zb7 (a:=a) (i:=a.size-1) (by omega);refine QaH (ZaH e ?_);have ta:a.toList.take a.size=a.toList:=QaL (by rw[Qal];exact Qak _);have tb:b.toList.take b.size=b.toList:=QaL (by rw[Qal];exact Qak _)
 have st0:HiI a b #[] a.size b.size:=by
  unfold HiI;rw[ta,tb];exact⟨by show((a.toList++b.toList)++ []).Perm _;rw[Qbl],Qcs,T.sa,T.sb,fun y _ z hz=>by cases hz⟩
 have st1:HiI a b #[p] (a.size-1) b.size:=HiI.pushA (out:=#[]) (by rw[show a.size-1+1=a.size by omega];exact st0) e fun y hy=>Qcq (hla p e y (Qbx hy));by_cases c1:(a.size-1==0)=true
 ·rw[if_pos c1];exact QaO (h _ _ (Zcv.refl st) (Ze4 st1 (by simpa using c1)))
 rw[if_neg c1];have c1:a.size-1≠0:=by simpa using c1
 by_cases c2:(b.size==1)=true
 ·rw[if_pos c2];exact QaO (h _ _ (Zcv.refl st) (Zcw h0 st1 (by simpa using c2)))
 rw[if_neg c2];have c2:b.size≠1:=by simpa using c2
 refine QaH (QeL ?_)
 refine QaH (Qce (QbP (I:=fun x c st'=>Zcv st st'∧∃na nb out mg,c=(none,na,nb,out,mg)∧HiV a b out na nb∧na+nb+x≤a.size+b.size)
  (Q:=fun c st'=>Zcv st st'∧∃r rest,c=(some r,rest)∧ZeA (a.toList++b.toList) r.toList) ?step ?fin ⟨Zcv.refl st,_,_,_,_,rfl,⟨st1,by omega,by omega,by omega,Qak _⟩,by omega⟩) ?post)
 case post=>
  rintro c st' ⟨kp,r,rest,rfl,f⟩;exact QaO (h r st' kp f)
 case fin=>
  rintro c st' ⟨kp,na,nb,out,mg,rfl,v,hx⟩
  have:=v.ha
  have:=v.hb;omega
 case step=>
  rintro x c st1 _ hx ⟨kp,na,nb,out,mg,rfl,v,hn⟩;unfold hiO;dsimp only;refine QaH (Qce (QbP (I:=fun y c st'=>OhR a b st (x+y) c st') (Q:=fun c st'=>ZrQ a b st c st'∨OhR a b st (x+1) c st') ?_ ?_ ⟨kp,_,_,_,_,_,rfl,v,hn⟩) ?_)
  ·rintro y c st2 _ hy hR;refine Qce (Zp6 T hk h0 hR) fun r st3 hr=> ?_
   cases r with
   |done c=>
    rcases hr with hr|⟨k3,na,nb,out,ac,bc,e3,v3,n3⟩
    ·exact .inl hr
    ·exact .inr ⟨k3,na,nb,out,ac,bc,e3,v3,by omega⟩
   |yield c=>exact hr
  ·rintro c st2 ⟨k3,na,nb,out,ac,bc,e3,v3,n3⟩;exact .inr ⟨k3,na,nb,out,ac,bc,e3,v3,by omega⟩
  ·rintro c st2 (⟨k2,r,rest,rfl,f⟩|⟨k2,na2,nb2,out2,ac2,bc2,rfl,v2,n2⟩)
   ·exact QaO ⟨k2,_,_,rfl,f⟩
   ·dsimp only;refine QaH (Qfm (QbQ ⟨rfl,?_⟩));refine QaH (Qce (QbP (I:=fun y c st'=>OhN a b st (x+1) c st') (Q:=fun c st'=>OhF a b st c st'∨OhN a b st (x+1) c st') ?_ ?_ ⟨k2,_,_,_,_,_,_,rfl,v2,n2⟩) ?_)
    ·rintro y c st3 _ hy hR;refine Qce (Zp5 T hk h0 hR) fun r st4 hr=> ?_
     cases r with
     |done c=>exact hr
     |yield c=>exact hr
    ·exact fun c st3 hR=> .inr hR
    ·rintro c st3 (⟨k3,r,rest,rfl,f⟩|⟨k3,na3,nb3,out3,mg3,ac3,bc3,rfl,v3,n3⟩)
     ·exact QaO ⟨k3,_,_,rfl,f⟩
     ·dsimp only;rw[Zbc];exact QaH (Qc2 (QaO ⟨k3.gal _,_,_,_,_,rfl,v3,by omega⟩))
end
variable [KO]
theorem ZgT (i:Nat):mergeAt' i=(do
 let s←get
 let(some (sa,na,power),some (sb,nb,_)):=((pendingOf s)[i]?,(pendingOf s)[i+1]?)|unsupported "internal:list.sort.pending"
 set (setPending s (((pendingOf s).setIfInBounds i (sa,na+nb,power)).eraseIdxIfInBounds (i+1)))
 let some k←Zbp false (←elem' (arrOf s) sb) (arrOf s) sa na 0|return false
 let(sa,na):=(sa+k,na-k)
 if na==0 then return true
 let some nb←Zbp true (←elem' (arrOf s) (sa+na-1)) (arrOf s) sb nb (nb-1)|return false
 if nb==0 then return true
 let x:=(arrOf s).extract sa sb
 let y:=(arrOf s).extract sb (sb+nb)
 let merged←if na≤nb then Zdx x y else Zdy x y
 modify fun s=>setArr s (merged.toList.zipIdx.foldl (fun a (p,j)=>a.setIfInBounds (sa+j) p) (arrOf s))
 return(failedOf (←get)).isNone):=rfl
theorem Zkv:∀(l:List Keyed) (j o:Nat) (a:Array Keyed),o+j+l.length≤a.size→((l.zipIdx j).foldl (fun a (p:Keyed×Nat)=>a.setIfInBounds (o+p.2) p.1) a).toList=a.toList.take (o+j)++l++a.toList.drop (o+j+l.length)
 | [],j,o,a,_=>by
  show a.toList=_;rw[Qbl,QbM,Qfb,QaX]
 |x::l,j,o,a,h=>by
  rw[QaM] at h;rw[QdM,QbX];have ih:=Zkv l (j+1) o (a.setIfInBounds (o+j) x) (by rw[Qdk];omega);dsimp only;rw[ih,Qc4];have hl:o+j<a.toList.length:=by rw[Qal];omega
  have e1:(a.toList.set (o+j) x).take (o+(j+1))=a.toList.take (o+j)++ [x]:=by
   rw[show o+(j+1)=o+j+1 by omega,Qdx,List.take_set_of_le (Qak _),Qdt hl];rfl
  have e2:(a.toList.set (o+j) x).drop (o+(j+1)+l.length)=a.toList.drop (o+j+(l.length+1)):=by
   rw[List.drop_set_of_lt (by omega),show o+(j+1)+l.length=o+j+(l.length+1) by omega]
  rw[e1,e2,QaM];simp
def ZgU:Nat→List (List Keyed)→List (Nat×Nat)
 |_,[]=>[]
 |s,R::Rs=>(s,R.length)::ZgU (s+R.length) Rs
theorem ZdA:∀(s:Nat) (A B:List (List Keyed)),ZgU s (A++B)=ZgU s A++ZgU (s+A.flatten.length) B
 |s,[],B=>by simp[ZgU]
 |s,R::A,B=>by
  show(s,R.length)::ZgU (s+R.length) (A++B)=(s,R.length)::ZgU (s+R.length) A++_;rw[ZdA (s+R.length) A B,Qbq,Qag,QdT];rfl
theorem Ze5:∀(s:Nat) (A:List (List Keyed)),(ZgU s A).length=A.length
 |s,[]=>rfl
 |s,R::A=>by show(ZgU (s+R.length) A).length+1=A.length+1;rw[Ze5]
def bare (P:Array (Nat×Nat×Nat)):List (Nat×Nat):=P.toList.map fun x=>(x.1,x.2.1)
theorem ZeB (a:Array Keyed)(i j:Nat):(a.extract i j).toList=(a.toList.drop i).take (j-i):=by
 rw[QcF,Qcf]
theorem Zny {V:List Keyed}(e:a.toList=U++V++W)(hi:i<V.length):a[U.length+i]?=V[i]?:=by
 rw[←Qan,e,QaP,Qav (by omega),QaF (by omega)];congr 1;omega
theorem Ze6 (h:Srt l)(hij:i≤j)(e1:l[i]?=some p)(e2:l[j]?=some q):Zav p≤Zav q:=by
 have:=srt_idx (a:=l.toArray) (by simpa using h) hij (by simpa using e1) (by simpa using e2);exact this
section
variable {st:SortSt} [KL prog w A s]
theorem Zov {x:SortSt}{Q:PUnit→SortSt→Prop}(h:Q ⟨⟩ x):wpS (model prog w) A E s (set x:StateT SortSt Sem PUnit) Q st:=by
 unfold wpS;rw[StateT.run_set];exact Qae ⟨rfl,h⟩
theorem ZgV {Q:Bool→SortSt→Prop}{S1 S2:List Keyed}{pw pw2:Nat}(hk:kindOf st=KO.kd)(hf:failedOf st=none)(ea:(arrOf st).toList=U++S1++S2++W)(hI:∀p∈(arrOf st).toList,Ik p)(s1:Srt S1)(s2:Srt S2)(n1:1≤S1.length)(n2:1≤S2.length)
  (e1:(pendingOf st)[i]?=some (U.length,S1.length,pw)) (e2:(pendingOf st)[i+1]?=some (U.length+S1.length,S2.length,pw2))
  (h:∀(M:List Keyed) (st':SortSt),kindOf st'=KO.kd→failedOf st'=none→(arrOf st').toList=U++M++W→M.Perm (S1++S2)→Srt M→pendingOf st'=((pendingOf st).setIfInBounds i (U.length,S1.length+S2.length,pw)).eraseIdxIfInBounds (i+1)→Q true st'):
  wpS (model prog w) A E s (mergeAt' i) Q st:=by
 rw[ZgT];refine QaH (QeL ?_);rw[e1,e2];dsimp only;refine QaH (Zov ?_);have hsz:(arrOf st).size=U.length+S1.length+S2.length+W.length:=by rw[←Qal,ea,Qag,Qag,Qag]
 have ea1:(arrOf st).toList=U++S1++(S2++W):=by rw[ea];simp
 have g1:∀i,i<S1.length→(arrOf st)[U.length+i]?=S1[i]?:=fun i hi=>Zny ea1 hi
 have g2:∀i,i<S2.length→(arrOf st)[U.length+S1.length+i]?=S2[i]?:=fun i hi=>by
  have:=Zny (U:=U++S1) ea hi;rw[Qag] at this;exact this
 have i1:∀p∈S1,Ik p:=fun p hp=>hI p (by rw[ea];simp[hp]);have i2:∀p∈S2,Ik p:=fun p hp=>hI p (by rw[ea];simp[hp]);have eb0:S2[0]?=some S2[0]:=Qab n2;have mb0:S2[0]∈S2:=QbG n2;generalize S2[0]=b0 at eb0 mb0
 have sb0:∀y∈S2,Zav b0≤Zav y:=fun y hy=>by
  obtain⟨j,hj⟩:=Qay.mp hy;exact Ze6 s2 (QaU j) eb0 hj
 refine QaH (ZaH (p:=b0) (by have:=g2 0 n2;rw[Qfb] at this;rw[this];exact eb0) ?_);refine QaH (Zc6 hk (i2 b0 mb0) n1 (by omega) hI (fun i j p q hij hj x1 x2=>by rw[g1 i (by omega)] at x1;rw[g1 j hj] at x2;exact Ze6 s1 hij x1 x2) fun k hk1 hlt hge=> ?_)
 have lt1:∀(i:Nat) (x:Keyed),i<k→S1[i]?=some x→Zav x≤Zav b0:=fun i x hi ei=>by
  have:=hlt i x hi (by rw[g1 i (by omega)];exact ei);unfold ZbW at this;rw[if_neg (by decide)] at this
  cases z:decide (Zav b0<Zav x) with
  |true=>rw[z] at this;cases this
  |false=>have:=Qa5 z;omega
 have ge1:∀(i:Nat) (y:Keyed),k≤i→S1[i]?=some y→Zav b0<Zav y:=fun i y hi1 ei=>by
  have hi2:=(Qaf.mp ei).1
  have:=hge i y hi1 hi2 (by rw[g1 i hi2];exact ei);unfold ZbW at this;rw[if_neg (by decide)] at this
  cases z:decide (Zav b0<Zav y) with
  |true=>exact QaQ z
  |false=>rw[z] at this;cases this
 dsimp only;by_cases c1:(S1.length-k==0)=true
 ·rw[if_pos c1];have c1:S1.length-k=0:=by simpa using c1
  refine QaO (h (S1++S2) _ hk hf (by show(arrOf st).toList=_;rw[ea];simp) (List.Perm.refl _) (Zb6 s1 s2 fun x hx y hy=> ?_) rfl);obtain⟨j,hj⟩:=Qay.mp hx;have hj2:=(Qaf.mp hj).1;exact QdJ (lt1 j x (by omega) hj) (sb0 y hy)
 rw[if_neg c1];have c1:S1.length-k≠0:=by simpa using c1
 have el:S1[S1.length-1]?=some S1[S1.length-1]:=Qab (by omega);have ml:S1[S1.length-1]∈S1:=QbG (by omega);generalize S1[S1.length-1]=z0 at el ml
 have sz0:∀y∈S1,Zav y≤Zav z0:=fun y hy=>by
  obtain⟨j,hj⟩:=Qay.mp hy;have hj2:=(Qaf.mp hj).1;exact Ze6 s1 (by omega) hj el
 refine QaH (ZaH (p:=z0) (by rw[show U.length+k+(S1.length-k)-1=U.length+(S1.length-1) by omega,g1 _ (by omega)];exact el) ?_);refine QaH (Zc6 hk (i1 z0 ml) (by omega) (by omega) hI (fun i j p q hij hj x1 x2=>by rw[g2 i (by omega)] at x1;rw[g2 j hj] at x2;exact Ze6 s2 hij x1 x2) fun nb hnb hlt2 hge2=> ?_)
 have lt2:∀(i:Nat) (x:Keyed),i<nb→S2[i]?=some x→Zav x<Zav z0:=fun i x hi ei=>by
  have:=hlt2 i x hi (by rw[g2 i (by omega)];exact ei);unfold ZbW at this;rw[if_pos rfl] at this;exact QaQ this
 have ge2:∀(i:Nat) (y:Keyed),nb≤i→S2[i]?=some y→Zav z0≤Zav y:=fun i y hi1 ei=>by
  have hi2:=(Qaf.mp ei).1
  have:=hge2 i y hi1 hi2 (by rw[g2 i hi2];exact ei);unfold ZbW at this;rw[if_pos rfl] at this
  have:=Qa5 this;omega
 dsimp only;by_cases c2:(nb==0)=true
 ·have c2:nb=0:=by simpa using c2
  exfalso;have h1:=ge2 0 b0 (by omega) eb0;have h2:=ge1 (S1.length-1) z0 (by omega) el;omega
 rw[if_neg c2];have c2:nb≠0:=by simpa using c2
 have ex:((arrOf st).extract (U.length+k) (U.length+S1.length)).toList=S1.drop k:=by
  rw[ZeB,ea1,QaP,Qdb,QcR (by omega),Qdl,show U.length+k-U.length=k by omega,Qdb,QdN];rw[QaL (by rw[Qbp];omega),Qbp,show U.length+S1.length-(U.length+k)-(S1.length-k)=0 by omega,Qcr,Qbl]
 have ey:((arrOf st).extract (U.length+S1.length) (U.length+S1.length+nb)).toList=S2.take nb:=by
  rw[ZeB,ea,QaP,Qdb,QcR (by rw[Qag];exact Qak _),Qdl,Qag,QcV,QcO,Qds,QdN,show nb-S2.length=0 by omega,Qcr,Qbl]
 have lx:((arrOf st).extract (U.length+k) (U.length+S1.length)).size=S1.length-k:=by rw[←Qal,ex,Qbp]
 have ly:((arrOf st).extract (U.length+S1.length) (U.length+S1.length+nb)).size=nb:=by rw[←Qal,ey,QaR];omega
 generalize(arrOf st).extract (U.length+k) (U.length+S1.length)=xa at ex lx⊢;generalize(arrOf st).extract (U.length+S1.length) (U.length+S1.length+nb)=ya at ey ly⊢;have T:Two xa ya:=⟨by rw[ex];exact fun p hp=>i1 p (Qco hp),by rw[ey];exact fun p hp=>i2 p (Qbx hp),by rw[ex];exact Zh4 s1 k,by rw[ey];exact List.Pairwise.take s2⟩
 have H0:∀p,ya[0]?=some p→∀x∈xa.toList,Zav p<Zav x:=fun p ep x hx=>by
  rw[←Qan,ey,QbC,if_pos (by omega),eb0] at ep;cases ep;rw[ex] at hx;obtain⟨j,hj⟩:=Qay.mp hx;rw[Qbv] at hj;exact ge1 (k+j) x (by omega) hj
 have HL:∀p,xa[xa.size-1]?=some p→∀y∈ya.toList,Zav y<Zav p:=fun p ep y hy=>by
  rw[←Qan,ex,Qbv,lx,show k+(S1.length-k-1)=S1.length-1 by omega,el] at ep;cases ep;rw[ey] at hy;obtain⟨j,hj⟩:=Qay.mp hy;rw[QbC] at hj;split at hj
  ·exact lt2 j y (by assumption) hj
  ·cases hj
 have fin:∀(r:Array Keyed) (st3:SortSt),Zcv (setPending st (((pendingOf st).setIfInBounds i (U.length,S1.length+S2.length,pw)).eraseIdxIfInBounds (i+1))) st3→ZeA (xa.toList++ya.toList) r.toList→
   wpS (model prog w) A E s (do
    modify fun s=>setArr s (List.foldl (fun a (x:Keyed×Nat)=>a.setIfInBounds (U.length+k+x.snd) x.fst) (arrOf s) r.toList.zipIdx)
    let g←get
    pure (failedOf g).isNone) Q st3:=by
  intro r st3 ⟨q1,q2,q3,q4⟩ ⟨fp,fs⟩;rw[ex,ey] at fp;have lr:r.toList.length=(S1.length-k)+nb:=by rw[fp.length_eq,Qag,Qbp,QaR];omega
  refine QaH (Qc2 (QaH (QeL (QaO ?_))));show Q (failedOf st3).isNone _;rw[q4];show Q (failedOf st).isNone _;rw[hf];refine h (S1.take k++r.toList++S2.drop nb) _ (q1.trans hk) (q4.trans hf) ?_ ?_ ?_ q3
  ·show(List.foldl (fun a (x:Keyed×Nat)=>a.setIfInBounds (U.length+k+x.snd) x.fst) (arrOf st3) (r.toList.zipIdx 0)).toList=_;rw[Zkv r.toList 0 (U.length+k) (arrOf st3) (by rw[q2];show _≤(arrOf st).size;omega),q2];show(arrOf st).toList.take _++_++(arrOf st).toList.drop _=_
   have t1:(arrOf st).toList.take (U.length+k+0)=U++S1.take k:=by
    rw[ea1,QaP,QdN,QaL (by omega),show U.length+k+0-U.length=k by omega,QdN,show k-S1.length=0 by omega,Qcr,Qbl]
   have t2:(arrOf st).toList.drop (U.length+k+0+r.toList.length)=S2.drop nb++W:=by
    rw[ea,QaP,Qdb,QcR (by rw[Qag];omega),Qdl,Qag,lr,show U.length+k+0+(S1.length-k+nb)-(U.length+S1.length)=nb by omega,Qdb,show nb-S2.length=0 by omega,QcO]
   rw[t1,t2];simp
  ·have p1:(S1.take k++r.toList++S2.drop nb).Perm (S1.take k++(S1.drop k++S2.take nb)++S2.drop nb):=QcQ _ (QcY _ fp);refine p1.trans ?_
   have:S1.take k++(S1.drop k++S2.take nb)++S2.drop nb=S1++S2:=by
    rw[←QaP,QaX,QaP,QaX]
   rw[this]
  ·have inr:∀y∈r.toList,y∈S1.drop k∨y∈S2.take nb:=fun y hy=>Qaq.mp (fp.mem_iff.mp hy);have s1':Srt (S1.take k++S1.drop k):=by rw[QaX];exact s1
   have s2':Srt (S2.take nb++S2.drop nb):=by rw[QaX];exact s2
   refine Zb6 (Zb6 (Zkr s1') fs fun x hx y hy=> ?_) (Zks s2') fun x hx y hy=> ?_
   ·rcases inr y hy with hy|hy
    ·exact Zez s1' x hx y hy
    ·obtain⟨j,hj⟩:=Qay.mp hx;rw[QbC] at hj;split at hj
     ·exact QdJ (lt1 j x (by assumption) hj) (sb0 y (Qbx hy))
     ·cases hj
   ·have zy:Zav z0≤Zav y:=by
     obtain⟨j,hj⟩:=Qay.mp hy;rw[Qbv] at hj;exact ge2 (nb+j) y (by omega) hj
    rcases Qaq.mp hx with hx|hx
    ·exact QdJ (sz0 x (Qbx hx)) zy
    ·rcases inr x hx with hx|hx
     ·exact QdJ (sz0 x (Qco hx)) zy
     ·exact Zez s2' x hx y hy
 by_cases c3:S1.length-k≤nb
 ·rw[if_pos c3];exact QaH (ZgP T hk (by omega) (by omega) (fun p ep x hx=>Qcq (H0 p ep x hx)) HL fun r st3 kp f=>fin r st3 kp f)
 ·rw[if_neg c3];exact QaH (ZgS T hk (by omega) (by omega) H0 HL fun r st3 kp f=>fin r st3 kp f)
end
variable [KO]
def ZqX (lo a nrem:Nat):StateT SortSt Sem AscSt:=
 forIn [a:nrem] ((none,a):AscSt) fun _ c=>do
  let x←ltAt' (lo+c.2) (lo+c.2-1)
  match x with
  |some smaller=>if smaller=true then pure (.done (none,c.2)) else pure (.yield (none,c.2+1))
  |_=>pure (.done (some none,c.2))
def ZiO (lo n nrem:Nat):StateT SortSt Sem (Option Nat):=do
 reverseSlice' lo (lo+n)
 let c←ZqX lo n nrem
 match c.1 with
 |some r=>pure r
 |none=>pure (some c.2)
def Zp7 (lo n nrem:Nat):StateT SortSt Sem DescSt:=
 forIn [n:nrem] ((none,n,0):DescSt) fun _ c=>do
  let x←ltAt' (lo+c.2.1) (lo+c.2.1-1)
  match x with
  |some smaller=>
   if smaller=true then
    if c.2.2>0 then do
     reverseSlice' (lo+c.2.1-(c.2.2+1)) (lo+c.2.1)
     pure (.yield (none,c.2.1+1,0))
    else pure (.yield (none,c.2.1+1,0))
   else do
    let x←ltAt' (lo+c.2.1-1) (lo+c.2.1)
    match x with
    |some larger=>if larger=true then pure (.done (none,c.2.1,c.2.2)) else pure (.yield (none,c.2.1+1,c.2.2+1))
    |_=>pure (.done (some none,c.2.1,c.2.2))
  |_=>pure (.done (some none,c.2.1,c.2.2))
def ZiP (lo n nrem:Nat):StateT SortSt Sem (Option Nat):=do
 liftM (rule "list.sort.descending-run")
 let c←Zp7 lo (n+1) nrem
 match c.1 with
 |some r=>pure r
 |none=>
  if c.2.2>0 then do
   reverseSlice' (lo+c.2.1-(c.2.2+1)) (lo+c.2.1)
   ZiO lo c.2.1 nrem
  else ZiO lo c.2.1 nrem
theorem ZfZ (lo nrem:Nat):countRun' lo nrem=(do
  let c←ZqX lo 1 nrem
  match c.1 with
  |some r=>pure r
  |none=>
   if(c.2==nrem)=true then pure (some c.2)
   else if c.2>1 then do
    let x←ltAt' lo (lo+c.2-1)
    match x with
    |some rose=>if rose=true then pure (some c.2) else do
      reverseSlice' lo (lo+c.2)
      ZiP lo c.2 nrem
    |_=>pure none
   else ZiP lo c.2 nrem):=by
 have tl:∀n,(do
   reverseSlice' lo (lo+n)
   let mut n:=n
   for _ in [n:nrem] do
    let some smaller←ltAt' (lo+n) (lo+n-1)|return none
    if smaller then break
    n:=n+1
   return some n)=ZiO lo n nrem:=fun n=>by
  unfold ZiO;dsimp only;refine congrArg _ (funext fun _=>congrArg _ (funext fun c=> ?_));obtain⟨r,c⟩:=c;cases r<;>rfl
 have dz:∀n,(do
   rule "list.sort.descending-run"
   let mut n:=n+1
   let mut neq:=0
   for _ in [n:nrem] do
    let some smaller←ltAt' (lo+n) (lo+n-1)|return none
    if smaller then
     if neq>0 then reverseSlice' (lo+n-(neq+1)) (lo+n)
     neq:=0
    else
     let some larger←ltAt' (lo+n-1) (lo+n)|return none
     if larger then break
     neq:=neq+1
    n:=n+1
   if neq>0 then reverseSlice' (lo+n-(neq+1)) (lo+n)
   reverseSlice' lo (lo+n)
   for _ in [n:nrem] do
    let some smaller←ltAt' (lo+n) (lo+n-1)|return none
    if smaller then break
    n:=n+1
   return some n)=(ZiP lo n nrem:StateT SortSt Sem (Option Nat)):=fun n=>by
  unfold ZiP;dsimp only;refine congrArg _ (funext fun _=>congrArg _ (funext fun c=> ?_));obtain⟨r,n2,q2⟩:=c
  cases r with
  |some r=>rfl
  |none=>
   dsimp only;refine ifd (congrArg _ (funext fun _=> ?_)) ?_
   ·exact tl n2
   ·exact tl n2
 rw[countRun'_eq];dsimp only;refine congrArg _ (funext fun c=> ?_);obtain⟨r,n⟩:=c
 cases r with
 |some r=>rfl
 |none=>
  dsimp only;refine ifc (ifd (congrArg _ (funext fun x=> ?_)) ?_)
  ·cases x with
   |none=>rfl
   |some rose=>
    dsimp only;refine ifc (congrArg _ (funext fun _=> ?_));exact dz n
  ·exact dz n
variable [KO]
structure CB (a₀:Array Keyed)(lo:Nat)(P:Array (Nat×Nat×Nat))(st:SortSt):Prop where
 kind:kindOf st=KO.kd
 failed:failedOf st=none
 pend:pendingOf st=P
 perm:(arrOf st).Perm a₀
 low:∀i,i<lo→(arrOf st)[i]?=a₀[i]?
theorem CB.size {a₀:Array Keyed}{lo:Nat}{P:Array (Nat×Nat×Nat)}{st:SortSt}(h:CB a₀ lo P st):(arrOf st).size=a₀.size:=h.perm.size_eq
theorem CB.rev {st:SortSt}(h:CB a₀ lo P st)(hi:lo≤i)(hj:j≤a₀.size):CB a₀ lo P (setArr st (mirror (arrOf st) i j ((j-i)/2))):=
 ⟨h.kind,h.failed,h.pend,(mirror_perm _ _ _ _).trans h.perm,fun k hk=>by
  show(mirror (arrOf st) i j ((j-i)/2))[k]?=_
  rw[getElem?_mirror_all (by rw[h.size];exact hj),if_neg (by omega)]
  exact h.low k hk⟩
theorem CB.at {st:SortSt}(h:CB a₀ lo P st)(h0:IkA a₀)(hi:i<a₀.size):∃p,(arrOf st)[i]?=some p∧Ik p∧K (arrOf st) i=Zav p:=by
 have hi':i<(arrOf st).size:=by rw[h.size];exact hi
 have hm:(arrOf st)[i]∈a₀.toList:=(Qa8.mp h.perm).mem_iff.mp (by simp);have e:(arrOf st)[i]?=some (arrOf st)[i]:=getElem?_pos _ i hi';refine⟨_,e,h0 _ hm,?_⟩;unfold K L2.RK;rw[e];rfl
def Zja (xs:Array Keyed)(lo n:Nat):Prop:=∀i j,i≤j→j<n→K xs (lo+i)≤K xs (lo+j)
def Zp8 (xs:Array Keyed)(lo n:Nat):Prop:=∀i j,i≤j→j<n→K xs (lo+j)≤K xs (lo+i)
section
variable {st:SortSt} [KL prog w A s]
theorem ZdZ {Q:Option Bool→SortSt→Prop}(hB:CB a₀ lo P st)(h0:IkA a₀)(hi:i<a₀.size)(hj:j<a₀.size)(h:Q (some (decide (K (arrOf st) i<K (arrOf st) j))) st):wpS (model prog w) A E s (ltAt' i j) Q st:=by
 obtain⟨p,e1,i1,k1⟩:=hB.at h0 hi;obtain⟨q,e2,i2,k2⟩:=hB.at h0 hj;rw[k1,k2] at h;rw[ltAt'_eq];refine QaH (QeL ?_);dsimp only;rw[elem'_eq,elem'_eq,e1,e2];exact QaH (QaO (QaH (QaO (ZdY hB.kind i1 i2 h))))
theorem Ze7 {Q:Unit→SortSt→Prop}(h:Q () (setArr st (mirror (arrOf st) i j ((j-i)/2)))):wpS (model prog w) A E s (reverseSlice' i j) Q st:=by
 rw[reverseSlice'_eq];exact Qc2 h
theorem Zh6 {a:Nat}{Q:AscSt→SortSt→Prop}(h0:IkA a₀)(hn:lo+nrem≤a₀.size)(ha:1≤a)(han:a≤nrem)(hB:CB a₀ lo P st)(hs:Zja (arrOf st) lo a)
  (h:∀n,a≤n→n≤nrem→Zja (arrOf st) lo n→(n<nrem→K (arrOf st) (lo+n)<K (arrOf st) (lo+n-1))→Q (none,n) st):wpS (model prog w) A E s (ZqX lo a nrem) Q st:=by
 unfold ZqX;refine Qce (QbP (I:=fun x c st'=>st'=st∧c=(none,x)∧Zja (arrOf st) lo x) (Q:=fun c st'=>st'=st∧∃n,c=(none,n)∧a≤n∧n≤nrem∧Zja (arrOf st) lo n∧(n<nrem→K (arrOf st) (lo+n)<K (arrOf st) (lo+n-1))) ?_ ?_ ⟨rfl,rfl,hs⟩) ?_
 ·rintro x c st' hx hx2 ⟨rfl,rfl,hS⟩;dsimp only;refine QaH (ZdZ hB h0 (by omega) (by omega) ?_);by_cases hlt:K (arrOf st') (lo+x)<K (arrOf st') (lo+x-1)
  ·rw[QaK hlt];exact QaO ⟨rfl,x,rfl,hx,by omega,hS,fun _=>hlt⟩
  ·rw[QaC hlt];refine QaO ⟨rfl,rfl,fun i j hij hj=> ?_⟩;by_cases c:j<x
   ·exact hS i j hij c
   ·have:j=x:=by omega
    subst this;by_cases c2:i=j
    ·subst c2;exact Qb8 _
    ·have:=hS i (j-1) (by omega) (by omega);rw[show lo+(j-1)=lo+j-1 by omega] at this;omega
 ·rintro c st' ⟨rfl,rfl,hS⟩;rw[show max a nrem=nrem by omega] at hS⊢;exact⟨rfl,nrem,rfl,han,Qak _,hS,fun h=>by omega⟩
 ·rintro c st' ⟨rfl,n,rfl,q1,q2,q3,q4⟩;exact h n q1 q2 q3 q4
theorem Zf0 (h0:IkA a₀)(hn:lo+nrem≤a₀.size)(h1:1≤n)(hnn:n≤nrem)(hB:CB a₀ lo P st)(hs:Zp8 (arrOf st) lo n)
  (h:∀m st',CB a₀ lo P st'→1≤m→m≤nrem→Zja (arrOf st') lo m→Q (some m) st'):wpS (model prog w) A E s (ZiO lo n nrem) Q st:=by
 unfold ZiO;refine QaH (Ze7 ?_);have hB2:=hB.rev (i:=lo) (j:=lo+n) (Qak _) (by omega);refine QaH (Zh6 h0 hn h1 hnn hB2 (fun i j hij hj=> ?_) fun m q1 q2 q3 _=>QaO (h m _ hB2 (by omega) q2 q3));show K (mirror (arrOf st) lo (lo+n) ((lo+n-lo)/2)) (lo+i)≤K (mirror (arrOf st) lo (lo+n) ((lo+n-lo)/2)) (lo+j);rw[Zh3 (by rw[hB.size];omega),Zh3 (by rw[hB.size];omega),if_pos (by omega),if_pos (by omega)]
 have:=hs (n-1-j) (n-1-i) (by omega) (by omega);rw[show lo+(n-1-j)=lo+(lo+n)-1-(lo+j) by omega,show lo+(n-1-i)=lo+(lo+n)-1-(lo+i) by omega] at this;exact this
theorem Zf1 (h0:IkA a₀)(hn:lo+nrem≤a₀.size)(hnn:n+1≤nrem)(hB:CB a₀ lo P st)(hs:Zp8 (arrOf st) lo (n+1))
  (h:∀m st',CB a₀ lo P st'→1≤m→m≤nrem→Zja (arrOf st') lo m→Q (some m) st'):wpS (model prog w) A E s (ZiP lo n nrem) Q st:=by
 unfold ZiP Zp7;refine QaH (Qfm (QbQ ⟨rfl,?_⟩))
 refine QaH (Qce (QbP (I:=fun x c st'=>CB a₀ lo P st'∧∃q,c=(none,x,q)∧Zp8 (arrOf st') lo x∧q<x∧∀i,lo+x-(q+1)≤i→i<lo+x→K (arrOf st') i=K (arrOf st') (lo+x-1))
  (Q:=fun c st'=>CB a₀ lo P st'∧∃m q,c=(none,m,q)∧1≤m∧m≤nrem∧Zp8 (arrOf st') lo m∧q<m∧∀i,lo+m-(q+1)≤i→i<lo+m→K (arrOf st') i=K (arrOf st') (lo+m-1)) ?_ ?_ ⟨hB,0,rfl,hs,by omega,fun i h1 h2=>by rw[show i=lo+(n+1)-1 by omega]⟩) ?_)
 ·rintro x c st' hx hx2 ⟨hB',q,rfl,hD,hq,he⟩;dsimp only;refine QaH (ZdZ hB' h0 (by omega) (by omega) ?_)
  have step:∀(ys:Array Keyed),(∀i,K ys i=K (arrOf st') i)→K (arrOf st') (lo+x)≤K (arrOf st') (lo+x-1)→Zp8 ys lo (x+1):=fun ys hy hle i j hij hj=>by
   rw[hy,hy];by_cases c:j<x
   ·exact hD i j hij c
   ·have:j=x:=by omega
    subst this;by_cases c2:i=j
    ·subst c2;exact Qb8 _
    ·have:=hD i (j-1) (by omega) (by omega);rw[show lo+(j-1)=lo+j-1 by omega] at this;omega
  by_cases hlt:K (arrOf st') (lo+x)<K (arrOf st') (lo+x-1)
  ·rw[QaK hlt];dsimp only;rw[if_pos rfl];by_cases hq0:q>0
   ·rw[if_pos hq0];refine QaH (Ze7 (QaO ⟨hB'.rev (by omega) (by omega),0,rfl,?_,by omega,fun i h1 h2=>by rw[show i=lo+(x+1)-1 by omega]⟩));refine step (mirror (arrOf st') (lo+x-(q+1)) (lo+x) ((lo+x-(lo+x-(q+1)))/2)) (fun i=> ?_) (by omega);exact Za9 (by rw[hB'.size];omega) he i
   ·rw[if_neg hq0];exact QaO ⟨hB',0,rfl,step _ (fun _=>rfl) (by omega),by omega,fun i h1 h2=>by rw[show i=lo+(x+1)-1 by omega]⟩
  ·rw[QaC hlt];dsimp only;rw[if_neg (by decide)];refine QaH (ZdZ hB' h0 (by omega) (by omega) ?_);by_cases hgt:K (arrOf st') (lo+x-1)<K (arrOf st') (lo+x)
   ·rw[QaK hgt];exact QaO ⟨hB',x,q,rfl,by omega,by omega,hD,hq,he⟩
   ·rw[QaC hgt];refine QaO ⟨hB',q+1,rfl,step _ (fun _=>rfl) (by omega),by omega,fun i h1 h2=> ?_⟩;rw[show lo+(x+1)-1=lo+x by omega];by_cases c:i<lo+x
    ·rw[he i (by omega) c];omega
    ·rw[show i=lo+x by omega]
 ·rintro c st' ⟨hB',q,rfl,hD,hq,he⟩;rw[show max (n+1) nrem=nrem by omega] at hD hq he⊢;exact⟨hB',nrem,q,rfl,by omega,Qak _,hD,hq,he⟩
 ·rintro c st' ⟨hB',m,q,rfl,m1,m2,hD,hq,he⟩;dsimp only;by_cases hq0:q>0
  ·rw[if_pos hq0];refine QaH (Ze7 (Zf0 h0 hn m1 m2 (hB'.rev (by omega) (by omega)) (fun i j hij hj=> ?_) h));show K (mirror (arrOf st') (lo+m-(q+1)) (lo+m) ((lo+m-(lo+m-(q+1)))/2)) (lo+j)≤K (mirror (arrOf st') (lo+m-(q+1)) (lo+m) ((lo+m-(lo+m-(q+1)))/2)) (lo+i);rw[Za9 (by rw[hB'.size];omega) he,Za9 (by rw[hB'.size];omega) he];exact hD i j hij hj
  ·rw[if_neg hq0];exact Zf0 h0 hn m1 m2 hB' hD h
theorem Zkw (h0:IkA a₀)(hn:lo+nrem≤a₀.size)(h1:1≤nrem)(hB:CB a₀ lo P st)
  (h:∀m st',CB a₀ lo P st'→1≤m→m≤nrem→Zja (arrOf st') lo m→Q (some m) st'):wpS (model prog w) A E s (countRun' lo nrem) Q st:=by
 rw[ZfZ];refine QaH (Zh6 h0 hn (Qak 1) h1 hB (fun i j hij hj=>by rw[show i=j by omega];exact Qb8 _) fun n n1 n2 hS hlt=> ?_);dsimp only;by_cases c1:(n==nrem)=true
 ·rw[if_pos c1];exact QaO (h n st hB n1 n2 hS)
 rw[if_neg c1];have c1:n≠nrem:=by simpa using c1
 have hd:=hlt (by omega);by_cases c2:n>1
 ·rw[if_pos c2];refine QaH (ZdZ hB h0 (by omega) (by omega) ?_);by_cases hr:K (arrOf st) lo<K (arrOf st) (lo+n-1)
  ·rw[QaK hr];exact QaO (h n st hB n1 n2 hS)
  ·rw[QaC hr]
   have eqs:∀i,lo≤i→i<lo+n→K (arrOf st) i=K (arrOf st) (lo+n-1):=fun i hi1 hi2=>by
    have q1:=hS 0 (i-lo) (by omega) (by omega);have q2:=hS (i-lo) (n-1) (by omega) (by omega);rw[show lo+(i-lo)=i by omega] at q1 q2;rw[show lo+(n-1)=lo+n-1 by omega] at q2;rw[Qfb] at q1;omega
   refine QaH (Ze7 (Zf1 h0 hn (by omega) (hB.rev (Qak _) (by omega)) (fun i j hij hj=> ?_) h));show K (mirror (arrOf st) lo (lo+n) ((lo+n-lo)/2)) (lo+j)≤K (mirror (arrOf st) lo (lo+n) ((lo+n-lo)/2)) (lo+i);rw[Za9 (by rw[hB.size];omega) eqs,Za9 (by rw[hB.size];omega) eqs];by_cases ci:i<n
   ·rw[eqs (lo+i) (by omega) (by omega)];by_cases cj:j<n
    ·rw[eqs (lo+j) (by omega) (by omega)];exact Qb8 _
    ·rw[show j=n by omega];omega
   ·rw[show i=j by omega];exact Qb8 _
 ·rw[if_neg c2]
  have:n=1:=by omega
  subst this;refine Zf1 h0 hn (by omega) hB (fun i j hij hj=> ?_) h;rw[show lo+1-1=lo by omega] at hd;by_cases ci:i=j
  ·subst ci;exact Qb8 _
  ·have i0:i=0:=by omega
   have j1:j=1:=by omega
   subst i0 j1;show K (arrOf st) (lo+1)≤K (arrOf st) lo;exact Qcq hd
end
variable [KO]
section
variable {st:SortSt} [KL prog w A s]
theorem CB.bub (h:CB a₀ lo P st)(hs:src<a₀.size)(hd:d≤src)(hl:lo≤src-d):CB a₀ lo P (setArr st (bubble (arrOf st) src d)):=
 ⟨h.kind,h.failed,h.pend,(bubble_perm _ _ _).trans h.perm,fun k hk=>by
  show(bubble (arrOf st) src d)[k]?=_
  rw[getElem?_bubble (by rw[h.size];exact hs) d hd,if_neg (by omega),if_neg (by omega)]
  exact h.low k hk⟩
theorem Zmj {ok:Nat}{Q:Bool→SortSt→Prop}(h0:IkA a₀)(hn:lo+n≤a₀.size)(hok:ok≤n)(hB:CB a₀ lo P st)(hs:Zja (arrOf st) lo ok)
  (h:∀st',CB a₀ lo P st'→Zja (arrOf st') lo n→Q true st'):wpS (model prog w) A E s (binarySort' lo n ok) Q st:=by
 rw[binarySort'_eq];refine QaH (Qce (QbP (I:=fun k c st'=>c=(none,())∧CB a₀ lo P st'∧Zja (arrOf st') lo (min k n)) (Q:=fun c st'=>c=(none,())∧CB a₀ lo P st'∧Zja (arrOf st') lo n) ?step ?fin ?init) ?post)
 case post=>
  rintro c st' ⟨rfl,hB',hs'⟩;exact QaO (h st' hB' hs')
 case init=>
  refine⟨rfl,hB,fun i j hij hj=> ?_⟩;by_cases h1:ok=0
  ·rw[show i=j by omega];exact Qb8 _
  ·exact hs i j hij (by omega)
 case fin=>
  rintro c st' ⟨hc,hB',hs'⟩;refine⟨hc,hB',?_⟩
  rwa [show min (max (max ok 1) n) n=n by omega] at hs'
 case step=>
  rintro k c st' hak hkn ⟨rfl,hB',hs'⟩;rw[show min k n=k by omega] at hs';have hk:lo+k<a₀.size:=by omega
  refine QaH (Qce (QbP (I:=fun x c st''=>st''=st'∧∃l r,c=(none,l,r)∧l≤r∧r≤k∧r-l≤k-x∧
    (∀i,i<l→K (arrOf st') (lo+i)≤K (arrOf st') (lo+k))∧(∀i,r≤i→i<k→K (arrOf st') (lo+k)<K (arrOf st') (lo+i)))
   (Q:=fun c st''=>st''=st'∧∃l r,c=(none,l,r)∧l≤k∧
    (∀i,i<l→K (arrOf st') (lo+i)≤K (arrOf st') (lo+k))∧(∀i,l≤i→i<k→K (arrOf st') (lo+k)<K (arrOf st') (lo+i))) ?istep ?ifin ?iinit) ?ipost)
  case iinit=>exact⟨rfl,0,k,rfl,by omega,by omega,by omega,fun i hi=>by omega,fun i h1 h2=>by omega⟩
  case ifin=>
   rintro c st'' ⟨rfl,l,r,rfl,hlr,hrk,hm,hlo,hhi⟩
   have:l=r:=by omega
   subst this;exact⟨rfl,l,l,rfl,hrk,hlo,hhi⟩
  case istep=>
   rintro x c st'' _ hxk ⟨rfl,l,r,rfl,hlr,hrk,hm,hlo,hhi⟩;dsimp only;by_cases hge:l≥r
   ·rw[if_pos hge]
    have:l=r:=by omega
    subst this;exact QaO ⟨rfl,l,l,rfl,hrk,hlo,hhi⟩
   ·rw[if_neg hge];refine QaH (ZdZ hB' h0 hk (by omega) ?_);by_cases hless:K (arrOf st'') (lo+k)<K (arrOf st'') (lo+(l+r)/2)
    ·rw[QaK hless];refine QaO ⟨rfl,l,(l+r)/2,rfl,by omega,by omega,by omega,hlo,fun i h1 h2=> ?_⟩;exact Qed hless (hs' _ _ h1 h2)
    ·rw[QaC hless];refine QaO ⟨rfl,(l+r)/2+1,r,rfl,by omega,by omega,by omega,fun i h1=> ?_,hhi⟩;exact QdJ (hs' i ((l+r)/2) (by omega) (by omega)) (Int.not_lt.mp hless)
  case ipost=>
   rintro c st'' ⟨rfl,l,r,rfl,hlk,hlo,hhi⟩;show wpS _ _ _ _ (do moveDown' (lo+k) (lo+l);pure (ForInStep.yield (none,()))) _ _;rw[moveDown'_eq];refine QaH (Qc2 (QaO ⟨rfl,hB'.bub hk (by omega) (by omega),?_⟩));rw[show min (k+1) n=k+1 by omega];have hks:lo+k<(arrOf st'').size:=by rw[hB'.size];exact hk
   intro i j hij hj;show K (bubble (arrOf st'') (lo+k) (lo+k-(lo+l))) (lo+i)≤K (bubble (arrOf st'') (lo+k) (lo+k-(lo+l))) (lo+j)
   have key:∀m,m≤k→K (bubble (arrOf st'') (lo+k) (lo+k-(lo+l))) (lo+m)=if m=l then K (arrOf st'') (lo+k) else if l<m then K (arrOf st'') (lo+(m-1)) else K (arrOf st'') (lo+m):=fun m hm=>by
    rw[Zmh hks (by omega)];by_cases c1:m=l
    ·rw[if_pos (by omega),if_pos c1]
    ·rw[if_neg (by omega),if_neg c1];by_cases c2:l<m
     ·rw[if_pos (by omega),if_pos c2,show lo+m-1=lo+(m-1) by omega]
     ·rw[if_neg (by omega),if_neg c2]
   rw[key i (by omega),key j (by omega)]
   repeat' split
   all_goals first
    | (exfalso;omega)
    |exact Qb8 _
    |exact hlo _ (by omega)
    |exact Qcq (hhi _ (by omega) (by omega))
    |exact hs' _ _ (by omega) (by omega)
end
variable [KO]
theorem Zf2 {α:Type}(c a b:α):∀(X Y:List α),((X++a::b::Y).set X.length c).eraseIdx (X.length+1)=X++c::Y
 | [],Y=>rfl
 |x::X,Y=>by
  show x::((X++a::b::Y).set X.length c).eraseIdx (X.length+1)=x::(X++c::Y);rw[Zf2 c a b X Y]
structure RL (a₀:Array Keyed)(T:List Keyed)(Rs:List (List Keyed))(st:SortSt):Prop where
 kind:kindOf st=KO.kd
 failed:failedOf st=none
 perm:(arrOf st).toList.Perm a₀.toList
 flat:(arrOf st).toList=Rs.flatten++T
 srt:∀R∈Rs,Srt R∧1≤R.length
 pend:bare (pendingOf st)=ZgU 0 Rs
theorem Zkx {x:Nat×Nat}(h:(bare P)[i]?=some x):∃pw,P[i]?=some (x.1,x.2,pw):=by
 unfold bare at h;rw[Qam,Qan] at h
 cases z:P[i]? with
 |none=>rw[z] at h;cases h
 |some y=>rw[z] at h;cases h;exact⟨y.2.2,rfl⟩
theorem Znz {α β:Type}(f:α→β):∀(l:List α) (n:Nat),(l.eraseIdx n).map f=(l.map f).eraseIdx n
 | [],n=>by cases n<;>rfl
 |a::l,0=>rfl
 |a::l,n+1=>by
  show f a::(l.eraseIdx n).map f=f a::(l.map f).eraseIdx n;rw[Znz f l n]
theorem ZnA {α:Type}:∀(l:List α) (n:Nat),l.length≤n→l.eraseIdx n=l
 | [],n,_=>by cases n<;>rfl
 |a::l,0,h=>by simp at h
 |a::l,n+1,h=>by
  show a::l.eraseIdx n=a::l;rw[ZnA l n (by simpa using h)]
theorem ZiQ (P:Array (Nat×Nat×Nat))(i a b pw:Nat):bare ((P.setIfInBounds i (a,b,pw)).eraseIdxIfInBounds (i+1))=((bare P).set i (a,b)).eraseIdx (i+1):=by
 unfold bare
 have e:((P.setIfInBounds i (a,b,pw)).eraseIdxIfInBounds (i+1)).toList=(P.toList.set i (a,b,pw)).eraseIdx (i+1):=by
  unfold Array.eraseIdxIfInBounds;split
  ·rw[Array.toList_eraseIdx,Qc4]
  ·rw[Qc4,ZnA _ _ (by rename_i hh;rw[QcU,Qal];rw[Qdk] at hh;omega)]
 rw[e,Znz,List.map_set]
theorem Zp9 {α:Type}{Rs:List α}(h:i+1<Rs.length):∃R1 a b R2,Rs=R1++a::b::R2∧R1.length=i:=by
 refine⟨Rs.take i,Rs[i],Rs[i+1],Rs.drop (i+2),?_,by rw[QaR];omega⟩;rw[←QcC h,←QcC (by omega),QaX]
section
variable {st:SortSt} [KL prog w A s]
theorem Zf3 {Q:Bool→SortSt→Prop}(h0:∀p∈a₀.toList,Ik p)(hR:RL a₀ T Rs st)(hi:i+1<Rs.length)(h:∀Rs' st',RL a₀ T Rs' st'→Rs'.length+1=Rs.length→Q true st'):wpS (model prog w) A E s (mergeAt' i) Q st:=by
 obtain⟨R1,S1,S2,R2,rfl,rfl⟩:=Zp9 hi
 have eo:ZgU 0 (R1++S1::S2::R2)=ZgU 0 R1++(R1.flatten.length,S1.length)::(R1.flatten.length+S1.length,S2.length)::ZgU (R1.flatten.length+S1.length+S2.length) R2:=by
  rw[ZdA,QcX];rfl
 have lo1:=Ze5 0 R1
 have p1:(bare (pendingOf st))[R1.length]?=some (R1.flatten.length,S1.length):=by
  rw[hR.pend,eo,Qav (by omega),lo1,QcV];rfl
 have p2:(bare (pendingOf st))[R1.length+1]?=some (R1.flatten.length+S1.length,S2.length):=by
  rw[hR.pend,eo,Qav (by omega),lo1,Qds];rfl
 obtain⟨pw,e1⟩:=Zkx p1;obtain⟨pw2,e2⟩:=Zkx p2;have q1:=hR.srt S1 (by simp);have q2:=hR.srt S2 (by simp);refine ZgV (U:=R1.flatten) (S1:=S1) (S2:=S2) (W:=R2.flatten++T) hR.kind hR.failed (by rw[hR.flat];simp) (fun p hp=>h0 p (hR.perm.mem_iff.mp hp)) q1.1 q2.1 q1.2 q2.2 e1 e2 fun M st' k' f' a' pm sm pd=> ?_;have lm:M.length=S1.length+S2.length:=by rw[pm.length_eq,Qag]
 refine h (R1++M::R2) st' ⟨k',f',?_,by rw[a'];simp,fun R hR'=> ?_,?_⟩ (by simp;omega)
 ·rw[a'];refine List.Perm.trans ?_ hR.perm;rw[hR.flat]
  have:(R1.flatten++M++(R2.flatten++T)).Perm (R1.flatten++(S1++S2)++(R2.flatten++T)):=QcQ _ (QcY _ pm);refine this.trans ?_;simp
 ·rcases Qaq.mp hR' with z|z
  ·exact hR.srt R (by simp[z])
  ·rcases Qaz.mp z with rfl|z
   ·exact⟨sm,by omega⟩
   ·exact hR.srt R (by simp[z])
 ·rw[pd,ZiQ,hR.pend,eo,←lo1,Zf2,ZdA,QcX];show _=ZgU 0 R1++(R1.flatten.length,M.length)::ZgU (R1.flatten.length+M.length) R2;rw[lm,QdT]
end
variable [KO]
section
variable {st:SortSt} [KL prog w A s]
theorem RL.len (h:RL a₀ T Rs st):(pendingOf st).size=Rs.length:=by
 have:=congrArg List.length h.pend;rw[Ze5] at this;unfold bare at this;rw[Qac,Qal] at this;exact this
theorem Zmk (P:Array (Nat×Nat×Nat))(i pw:Nat):bare (P.modify i fun x=>(x.1,x.2.1,pw))=bare P:=by
 unfold bare;refine Qcd fun j=> ?_;rw[Qam,Qam,Qan,Qan,Array.getElem?_modify];split
 ·cases P[j]?<;>rfl
 ·rfl
theorem Zky (P:Array (Nat×Nat×Nat))(x:Nat×Nat×Nat):bare (P.push x)=bare P++ [(x.1,x.2.1)]:=by
 unfold bare;rw[Qcb,QaG];rfl
def Zkz (sz lo n:Nat):StateT SortSt Sem (ForInStep (Option Unit×Nat)):=do
 let g←get
 match(pendingOf g).back? with
 |some (s1,n1,_)=>do
  let c←forIn [0:sz] ((none,()):Option Unit×Unit) fun _ c=>do
   let g←get
   match(if(pendingOf g).size>1 then(pendingOf g)[(pendingOf g).size-2]? else none) with
   |some (_,_,older)=>
    if older≤power' sz (2*s1+n1) (2*s1+n1+n1+n) sz then pure (.done (none,()))
    else do
     let b←mergeAt' ((pendingOf g).size-2)
     if(!b)=true then pure (.done (some (),())) else pure (.yield (none,()))
   |_=>pure (.done (none,()))
  match c.1 with
  |some r=>pure (.done (some r,lo))
  |none=>do
   modify fun s=>setPending s ((pendingOf s).modify ((pendingOf s).size-1) fun x=>(x.1,x.2.1,power' sz (2*s1+n1) (2*s1+n1+n1+n) sz))
   modify fun s=>setPending s ((pendingOf s).push (lo,n,0))
   pure (.yield (none,lo+n))
 |_=>do
  modify fun s=>setPending s ((pendingOf s).push (lo,n,0))
  pure (.yield (none,lo+n))
theorem RL.push {S W:List Keyed}(hR:RL a₀ (S++W) Rs st)(hS:Srt S)(h1:1≤S.length){P:Array (Nat×Nat×Nat)}(hP:bare P=bare (pendingOf st)):RL a₀ W (Rs++ [S]) (setPending st (P.push (Rs.flatten.length,S.length,0))):=by
 refine⟨hR.kind,hR.failed,hR.perm,by show(arrOf st).toList=_;rw[hR.flat];simp,fun R hr=> ?_,?_⟩
 ·rcases Qaq.mp hr with z|z
  ·exact hR.srt R z
  ·rw[Qaj.mp z];exact⟨hS,h1⟩
 ·show bare (P.push _)=_;rw[Zky,hP,hR.pend,ZdA,QcX];rfl
theorem ZkA {S:List Keyed}{sz:Nat}{Q:ForInStep (Option Unit×Nat)→SortSt→Prop}(h0:∀p∈a₀.toList,Ik p)(hR:RL a₀ (S++W) Rs st)(hS:Srt S)(h1:1≤S.length)
  (h:∀Rs' st',RL a₀ W Rs' st'→Rs'.flatten.length=Rs.flatten.length+S.length→Q (.yield (none,Rs.flatten.length+S.length)) st'):wpS (model prog w) A E s (Zkz sz Rs.flatten.length S.length) Q st:=by
 unfold Zkz;refine QaH (QeL ?_)
 have fl:∀{Rs':List (List Keyed)} {st':SortSt},RL a₀ (S++W) Rs' st'→Rs'.flatten.length=Rs.flatten.length:=fun{Rs' st'} h'=>by
  have e1:=congrArg List.length h'.flat;have e2:=congrArg List.length hR.flat;rw[h'.perm.length_eq,Qag] at e1;rw[hR.perm.length_eq,Qag] at e2;omega
 have fin:∀{Rs':List (List Keyed)} {st':SortSt} {P:Array (Nat×Nat×Nat)},RL a₀ (S++W) Rs' st'→bare P=bare (pendingOf st')→Q (.yield (none,Rs.flatten.length+S.length)) (setPending st' (P.push (Rs.flatten.length,S.length,0))):=fun{Rs' st' P} h' hP=>by
  have:=h'.push hS h1 hP;rw[fl h'] at this;refine h _ _ this ?_;rw[Qde,Qag,fl h'];simp
 cases hb:(pendingOf st).back? with
 |none=>exact QaH (Qc2 (QaO (fin hR rfl)))
 |some y=>
  obtain⟨s1,n1,pw⟩:=y;dsimp only;refine QaH (Qce (QbP (I:=fun x c st'=>c=(none,())∧∃Rs',RL a₀ (S++W) Rs' st') (Q:=fun c st'=>c=(none,())∧∃Rs',RL a₀ (S++W) Rs' st') ?_ (fun c st' hh=>hh) ⟨rfl,Rs,hR⟩) ?_)
  ·rintro x c st' _ _ ⟨rfl,Rs',hR'⟩;refine QaH (QeL ?_);by_cases c1:(pendingOf st').size>1
   ·rw[if_pos c1]
    cases z:(pendingOf st')[(pendingOf st').size-2]? with
    |none=>exact QaO ⟨rfl,Rs',hR'⟩
    |some v=>
     obtain⟨v1,v2,older⟩:=v;dsimp only;split
     ·exact QaO ⟨rfl,Rs',hR'⟩
     ·have hl:=hR'.len;exact QaH (Zf3 h0 hR' (by omega) fun Rs2 st2 hR2 _=>QaO ⟨rfl,Rs2,hR2⟩)
   ·rw[if_neg c1];exact QaO ⟨rfl,Rs',hR'⟩
  ·rintro c st' ⟨rfl,Rs',hR'⟩;refine QaH (Qc2 (QaH (Qc2 (QaO ?_))));exact fin (st':=st') (P:=(pendingOf st').modify ((pendingOf st').size-1) fun x=>(x.1,x.2.1,power' sz (2*s1+n1) (2*s1+n1+n1+S.length) sz)) hR' (Zmk _ _ _)
theorem ZnB {α:Type}{m1 m2:StateT SortSt Sem α}{Q:α→SortSt→Prop}(e:m1=m2)(h:wpS (model prog w) A E s m1 Q st):wpS (model prog w) A E s m2 Q st:=e ▸ h
theorem Zrq (c:Prop) [Decidable c](a:Nat):(if c then a-1 else a)≤a:=by split<;>omega
theorem ZnC (e:a[i]?=some p):K a i=Zav p:=by
 unfold K L2.RK;rw[e];rfl
theorem wpS_sortAll {Q:Unit→SortSt→Prop}(h0:IkA a₀)(hk:kindOf st=KO.kd)(hf:failedOf st=none)(hp:pendingOf st= #[])(ha:arrOf st=a₀)
  (h:∀st',(arrOf st').toList.Perm a₀.toList→failedOf st'=none→Srt (arrOf st').toList→Q () st'):wpS (model prog w) A E s sortRuns' Q st:=by
 have hI:∀p∈a₀.toList,Ik p:=h0;rw[sortRuns'_eq];refine QaH (QeL ?_);dsimp only;rw[ha];have R0:RL a₀ a₀.toList [] st:=⟨hk,hf,by rw[ha],by rw[ha];rfl,fun R hR=>(by cases hR),by rw[hp];rfl⟩
 have tl:∀{st':SortSt} {x lo n:Nat} {Rs:List (List Keyed)} {T:List Keyed} {st1:SortSt},RL a₀ T Rs st1→Rs.flatten.length=lo→x≤lo→lo<a₀.size→CB (arrOf st1) lo (pendingOf st1) st'→1≤n→lo+n≤a₀.size→Zja (arrOf st') lo n→
   wpS (model prog w) A E s (Zkz a₀.size lo n) (fun r st'=>match r with| .done c=>c=(none,a₀.size)∧∃Rs,RL a₀ [] Rs st'| .yield c=>∃lo Rs T,c=(none,lo)∧RL a₀ T Rs st'∧Rs.flatten.length=lo∧x+1≤lo∧lo≤a₀.size) st':=by
  intro st' x lo n Rs T st1 hR el hx hlo hB n1 hn hs;subst el;have szz:(arrOf st1).size=a₀.size:=by rw[←Qal,hR.perm.length_eq,Qal]
  have sz2:(arrOf st').size=a₀.size:=by rw[hB.size,szz]
  have pm:(arrOf st').toList.Perm (arrOf st1).toList:=Qa8.mp hB.perm
  have lowe:(arrOf st').toList.take Rs.flatten.length=Rs.flatten:=by
   have:(arrOf st').toList.take Rs.flatten.length=(arrOf st1).toList.take Rs.flatten.length:=by
    refine Qcd fun j=> ?_;rw[QbC,QbC];split
    ·rw[Qan,Qan];exact hB.low j (by assumption)
    ·rfl
   rw[this,hR.flat,List.take_left'];rfl
  have eS:((arrOf st').toList.drop Rs.flatten.length).take n=((arrOf st').extract Rs.flatten.length (Rs.flatten.length+n)).toList:=(Zou _ _ _).symm;generalize hSd:((arrOf st').toList.drop Rs.flatten.length).take n=S at eS;have lS:S.length=n:=by rw[←hSd,QaR,Qbp,Qal];omega
  have sS:Srt S:=by
   refine Qbb.mpr fun i j hi hj hij=> ?_
   have gi:∀i (hi:i<S.length),(arrOf st')[Rs.flatten.length+i]?=some S[i]:=fun i hi=>by
    have:S[i]?=some S[i]:=Qab hi;rw[←this,←hSd,QbC,if_pos (by omega),Qbv,Qan]
   have:=hs i j (by omega) (by omega);rw[ZnC (gi i hi),ZnC (gi j hj)] at this;exact this
  have hR':RL a₀ (S++(arrOf st').toList.drop (Rs.flatten.length+n)) Rs st':=by
   refine⟨hB.kind,hB.failed,pm.trans hR.perm,?_,hR.srt,by rw[hB.pend];exact hR.pend⟩;rw[←hSd,←Qfr,QaX]
   conv=>lhs;rw[←QaX Rs.flatten.length (arrOf st').toList]
   rw[lowe]
  have:=ZkA (prog:=prog) (w:=w) (A:=A) (E:=E) (s:=s) (sz:=a₀.size) (Q:=fun r st'=>match r with| .done c=>c=(none,a₀.size)∧∃Rs,RL a₀ [] Rs st'| .yield c=>∃lo Rs T,c=(none,lo)∧RL a₀ T Rs st'∧Rs.flatten.length=lo∧x+1≤lo∧lo≤a₀.size) hI hR' sS (by omega) fun Rs2 st2 hR2 e2=>⟨_,Rs2,_,rfl,hR2,e2,by omega,by omega⟩;rw[lS] at this;exact this
 have tnil:∀{T:List Keyed} {Rs:List (List Keyed)} {st':SortSt},RL a₀ T Rs st'→Rs.flatten.length=a₀.size→RL a₀ [] Rs st':=fun{T Rs st'} hR el=>by
  have e:=congrArg List.length hR.flat;rw[hR.perm.length_eq,Qag,el,Qal] at e
  have:T=[]:=Qcm (by omega);subst this;exact hR
 have many:∀Rs:List (List Keyed),(∀R∈Rs,Srt R∧1≤R.length)→Rs.length≤Rs.flatten.length:=fun Rs=>by
  induction Rs with
  |nil=>intro _;exact Qak _
  |cons R Rs ih=>
   intro hh;rw[Qbq,Qag,QaM]
   have:=ih fun R' hR'=>hh R' (Qao _ hR')
   have:=(hh R Qai).2;omega
 refine QaH (Qce (QbP (I:=fun x c st'=>∃lo Rs T,c=(none,lo)∧RL a₀ T Rs st'∧Rs.flatten.length=lo∧x≤lo∧lo≤a₀.size) (Q:=fun c st'=>c=(none,a₀.size)∧∃Rs,RL a₀ [] Rs st') ?step ?fin ⟨0,[],_,rfl,R0,rfl,Qak _,QaU _⟩) ?post)
 case fin=>
  rintro c st' ⟨lo,Rs,T,rfl,hR,el,hx,hl⟩
  have:lo=a₀.size:=by omega
  subst this;exact⟨rfl,Rs,tnil hR el⟩
 case step=>
  rintro x c st1 _ hx ⟨lo,Rs,T,rfl,hR,el,hxl,hl⟩;dsimp only;by_cases c1:lo≥a₀.size
  ·rw[if_pos c1]
   have:lo=a₀.size:=by omega
   subst this;exact QaO ⟨rfl,Rs,tnil hR el⟩
  rw[if_neg c1];have szz:(arrOf st1).size=a₀.size:=by rw[←Qal,hR.perm.length_eq,Qal]
  have i1:IkA (arrOf st1):=fun p hp=>h0 p (hR.perm.mem_iff.mp hp);refine QaH (Zkw (a₀:=arrOf st1) (P:=pendingOf st1) i1 (by omega) (by omega) ⟨hR.kind,hR.failed,rfl,Qfh _,fun _ _=>rfl⟩ fun m st2 hB2 m1 m2 hs2=> ?_);dsimp only;by_cases c2:m<minRun' a₀.size a₀.size 0
  ·rw[if_pos c2];refine QaH (Qfm (QbQ ⟨rfl,?_⟩));refine QaH (Zmj i1 (by omega) (by omega) hB2 hs2 fun st3 hB3 hs3=> ?_);rw[if_neg (by decide)];refine ZnB ?_ (Qce (tl hR el hxl (by omega) hB3 (by omega) (by omega) hs3) fun r st4 hr=>(by cases r with|done c=>exact hr|yield c=>exact hr))
   ·unfold Zkz;refine congrArg _ (funext fun g=> ?_)
    cases(pendingOf g).back? with
    |none=>rfl
    |some y=>
     obtain⟨s1,n1,pw⟩:=y;dsimp only;refine congrArg _ (funext fun c=> ?_);obtain⟨r,c⟩:=c
     cases r with
     |some r=>rfl
     |none=>rfl
  ·rw[if_neg c2];refine ZnB ?_ (Qce (tl hR el hxl (by omega) hB2 m1 (by omega) hs2) fun r st4 hr=>(by cases r with|done c=>exact hr|yield c=>exact hr))
   ·unfold Zkz;refine congrArg _ (funext fun g=> ?_)
    cases(pendingOf g).back? with
    |none=>rfl
    |some y=>
     obtain⟨s1,n1,pw⟩:=y;dsimp only;refine congrArg _ (funext fun c=> ?_);obtain⟨r,c⟩:=c
     cases r with
     |some r=>rfl
     |none=>rfl
 case post=>
  rintro c st' ⟨rfl,Rs,hR⟩;dsimp only
  have lR:Rs.length≤a₀.size:=by
   have:=many Rs hR.srt;have e:=congrArg List.length hR.flat;rw[hR.perm.length_eq,Qbl,Qal] at e;omega
  refine QaH (Qce (QbP (I:=fun x c st'=>c=(none,())∧∃Rs,RL a₀ [] Rs st'∧(Rs.length≤1∨Rs.length+x≤a₀.size)) (Q:=fun c st'=>c=(none,())∧∃Rs,RL a₀ [] Rs st'∧Rs.length≤1) ?_ ?_ ⟨rfl,Rs,hR,.inr (by omega)⟩) ?_)
  ·rintro x c st1 _ hx ⟨rfl,Rs,hR,hc⟩;refine QaH (QeL ?_);have hl:=hR.len;by_cases c1:(pendingOf st1).size≤1
   ·rw[if_pos c1];exact QaO ⟨rfl,Rs,hR,by omega⟩
   ·rw[if_neg c1];refine QaH (Zf3 hI hR (QaN (Nat.succ_le_succ (Zrq _ _)) (by omega)) fun Rs2 st2 hR2 e2=> ?_);exact QaO ⟨rfl,Rs2,hR2,by omega⟩
  ·rintro c st1 ⟨rfl,Rs,hR,hc⟩;exact⟨rfl,Rs,hR,by omega⟩
  ·rintro c st1 ⟨rfl,Rs,hR,hc⟩;refine QaO (h st1 hR.perm hR.failed ?_);rw[hR.flat,Qbl];rcases Rs with _|⟨R,_|⟨R2,Rs⟩⟩
   ·exact Qcs
   ·rw[Qbq,List.flatten_nil,Qbl];exact(hR.srt R Qai).1
   ·simp at hc
end
end TimG
namespace L2
open PySem PySem.Spec PyProof.Rows
variable {H H' H0 H1 H2:Hp}{n i ep g:Nat}{d a p S v l sn q pa pb:Addr}{us:List (List Int)}{X:Cx}{u ns:List Int}{tp:Bool}{s:Shared}{o:HO}{prog:Program}{w:World}{A:Around}{E Q:Value→Shared→Prop}{vs:List Value}{h' h:Heap}{b b0 b':List Bool}{uss gs:List (List (List Int))}{D L:List (Nat×Nat)}{P:Fin→Shared→Prop}{σ:St}{Z:L2.St→Hp→Prop}{es:Array DictEntry}{W:List (Int×List Int)}{ks:List (List Int×Int)}{hs:List (List Nat)}{tt:TT}{te ta:TE}{rk:Value→Int}{qc:List (Addr×Obj)}{p2 qv:PySem.Pos}{m:Int}{as:List Nat}
section
variable {k0:SortKind}{a0:Array Keyed}
theorem Zml (hL:ZrN prog w A s k0 a0 rk){st:SortSt}(b:SB k0 a0 st)(ha:arrOf st=a0){Q:Unit→SortSt→Prop}
  (h:∀t,(arrOf t).Perm a0→failedOf t=none→(∀i j,i≤j→j<a0.size→RK rk (arrOf t) i≤RK rk (arrOf t) j)→Q () t):wpS (model prog w) A E s sortRuns' Q st:=by
 letI:TimG.KO:=⟨rk,fun p=>p∈a0.toList,k0⟩
 haveI:TimG.KL prog w A s:=⟨fun{E x y st Q} hk hx hy q=>by
  rw[lt'_eq]
  refine QaH (QeL (QaH (Qfm (Qdp ?_))))
  rw[show kindOf st=k0 from hk]
  exact hL _ x y _ hx hy ⟨rfl,QaO q⟩⟩
 refine TimG.wpS_sortAll (a₀:=a0) (fun p hp=>hp) b.kd b.fl b.pn ha fun t pm ft sr=>h t (Qa8.mpr pm) ft fun i j hij hj=> ?_;have sz:(arrOf t).size=a0.size:=(Qa8.mpr pm).size_eq;have e1:(arrOf t)[i]?=some (arrOf t)[i]:=Qas (by omega);have e2:(arrOf t)[j]?=some (arrOf t)[j]:=Qas (by omega)
 have:=TimG.srt_idx sr hij e1 e2;unfold RK;rw[e1,e2];exact this
end
theorem Zd0 {k0:SortKind}(hb:s.heap.get? a=some (seqObj "list" vs.toArray n))(h64:vs.length≤3000)
  (hk:2≤vs.length→∀h':Heap,(∀b o,b≠a→s.heap.get? b=some o→h'.get? b=some o)→∀(E:Value→Shared→Prop) (Q:SortKind→Shared→Prop),Q k0 {s with heap:=h' }→wpAny (model prog w) A (keyKind' vs.toArray) Q E {s with heap:=h' })
  (hL:∀h':Heap,(∀b o,b≠a→s.heap.get? b=some o→h'.get? b=some o)→ZrN prog w A {s with heap:=h' } k0 (pairsOf vs) rk)
  (h:∀xs:Array Keyed,xs.Perm (pairsOf vs)→(∀i j,i≤j→j<(pairsOf vs).size→RK rk xs i≤RK rk xs j)→P (.done (.ret .none)) {s with heap:=sortedHeap s.heap a vs (xs.map (·.2)) }):
  wpAny (model prog w) A (Builtin.«list.sort» ⟨[.ref a],[]⟩) P E s:=by
 have la:a<s.heap.objs.size:=Qar hb;have sv:vs.toArray.size=vs.length:=QaD ..;rw[list_sort_plain];refine Qaa (Qfa hb rfl (Qaa (listUpdate_at hb rfl ?_)));have g1:=get?_update_seq hb (fun _=>(#[]:Array Value))
 have k1:∀b o,b≠a→s.heap.get? b=some o→(s.heap.update a (Obj.mapSeq fun _=> #[])).get? b=some o:=fun b o nb z=>by
  rw[Heap.get?_update_ne _ _ _ _ nb];exact z
 refine Qaa (seqEpoch_at g1 rfl (Qaa (QdD (Qaa (QdS (Qbd ?_))))));show wpAny (model prog w) A _ P E {s with heap:=((s.heap.update a (Obj.mapSeq fun _=> #[])).push (seqObj "tuple" vs.toArray 0)).push (seqObj "list" #[] 0) };have g6:=Qad (seqObj "list" #[] 0) (Qad (seqObj "tuple" vs.toArray 0) g1);have k6:∀b o,b≠a→s.heap.get? b=some o→(((s.heap.update a (Obj.mapSeq fun _=> #[])).push (seqObj "tuple" vs.toArray 0)).push (seqObj "list" #[] 0)).get? b=some o:=fun b o nb z=>Qad _ (Qad _ (k1 b o nb z))
 have done:∀(xs:Array Keyed) (t:SortSt),arrOf t=xs→failedOf t=none→xs.Perm (pairsOf vs)→(∀i j,i≤j→j<(pairsOf vs).size→RK rk xs i≤RK rk xs j)→
   wpAny (model prog w) A (do
    let touched:=(←seqEpoch a) !=(if(#[]:Array Value).size==vs.toArray.size then n else n+1)
    Builtin.List.listUpdate (.ref a) fun _=>(arrOf t).map (·.2)
    if let some e:=failedOf t then rule "list.sort.comparison-raised";throw e
    if touched then rule "list.sort.modified";raiseError "ValueError" "list modified during sort"
    ret .none) P E {s with heap:=((s.heap.update a (Obj.mapSeq fun _=> #[])).push (seqObj "tuple" vs.toArray 0)).push (seqObj "list" #[] 0) }:=by
  rintro xs t rfl ft pm up;refine Qaa (seqEpoch_at g6 rfl (Qaa (listUpdate_at g6 rfl ?_ (hsz2:=?_))))
  ·rw[ft];dsimp only;rw[if_neg (by simp)];exact Qae (h _ pm up)
  ·show((arrOf t).map (·.2)).size≤sizeLine+1;rw[Qep,pm.size_eq,pairsOf_size];exact QaE (show vs.length≤3000 by omega) (by decide)
 by_cases h2:vs.toArray.size<2
 ·rw[if_pos h2,if_pos h2];refine Qaa (Qae ?_);dsimp only;rw[StateT.run_pure];refine Qaa (Qae (done _ (SortSt.mk' general' (vs.toArray.zip vs.toArray) #[] 7 none) rfl rfl (Qfh _) fun i j ij jl=> ?_));rw[pairsOf_size] at jl;rw[show i=j by omega];exact Qb8 _
 ·rw[if_neg h2,if_neg h2];refine Qaa (hk (by omega) _ k6 _ _ ?_);refine Qaa (QaZ (Zml (hL _ k6) (st:=SortSt.mk' k0 (vs.toArray.zip vs.toArray) #[] 7 none) (a0:=pairsOf vs) ⟨Qfh _,rfl,rfl,rfl⟩ rfl (Q:=fun _ t=>(arrOf t).Perm (pairsOf vs)∧failedOf t=none∧∀i j,i≤j→j<(pairsOf vs).size→RK rk (arrOf t) i≤RK rk (arrOf t) j) fun t p1 p2 p3=>⟨p1,p2,p3⟩) ?_ fun _ _ z=>z);rintro⟨⟨⟩,t⟩ s' ⟨rfl,p1,p2,p3⟩;exact done _ t rfl p2 p1 p3
theorem Zh7 {o:Obj}(ho:h.get? a=some o)(hc:o.cls= .type "list")(k:∀b ob,b≠a→h.get? b=some ob→h'.get? b=some ob)(b:Addr)(ob:Obj)(c:ob.cls= .type "tuple")(e:h.get? b=some ob):h'.get? b=some ob:=by
 refine k b ob (fun z=> ?_) e;rw[z,ho] at e;cases e;rw[hc] at c;exact absurd c (by decide)
theorem ZkB (hb:s.heap.get? a=some (seqObj "list" vs.toArray n))(h64:vs.length≤3000)(hv:∀v∈vs,∃u,Zcf s.heap v u∧u≠ [])
  (h:∀out:Array Value,out.toList.Perm vs→(out.toList.map (kfI s.heap)).Pairwise (fun x y=>ZbR y x=false)→P (.done (.ret .none)) {s with heap:=sortedHeap s.heap a vs out }):wpAny (model prog w) A (Builtin.«list.sort» ⟨[.ref a],[]⟩) P E s:=by
 have kt:∀h':Heap,(∀b o,b≠a→s.heap.get? b=some o→h'.get? b=some o)→∀v∈vs,∃u,Zcf h' v u∧u≠ []∧kfI s.heap v=u:=fun h' k v q=>by
  obtain⟨u,t,nu⟩:=hv v q;exact⟨u,t.keep' (Zh7 hb rfl k),nu,t.kf⟩
 have mz:∀p,p∈(pairsOf vs).toList→p.1=p.2∧p.1∈vs:=fun p q=>by rw[QdE] at q;exact QfJ q
 refine Zd0 (k0:=tuples' true) (rk:=fun v=>rnk (vs.map (kfI s.heap)) (kfI s.heap v)) hb h64 (fun h2 h' k E' Q' q=> ?_) (fun h' k E' x y Q' hx hy q=> ?_) fun xs pm up=> ?_
 ·refine Zkf (s:={s with heap:=h' }) (fun v hv'=> ?_) (fun z=>by rw[z] at h2;simp at h2) q;obtain⟨u,t,nu,_⟩:=kt h' k v hv';exact⟨u,t,nu⟩
 ·obtain⟨u,t,nu,eu⟩:=kt h' k x.1 (mz x hx).2;obtain⟨u',t',nu',eu'⟩:=kt h' k y.1 (mz y hy).2;refine Zoo (s:={s with heap:=h' }) true t t' ?_;have m1:kfI s.heap x.1∈vs.map (kfI s.heap):=QaS.mpr ⟨_,(mz x hx).2,rfl⟩;have m2:kfI s.heap y.1∈vs.map (kfI s.heap):=QaS.mpr ⟨_,(mz y hy).2,rfl⟩;have e3:ZbR u u'=decide (rnk (vs.map (kfI s.heap)) (kfI s.heap x.1)<rnk (vs.map (kfI s.heap)) (kfI s.heap y.1)):=by rw[ZhW m1 m2,eu,eu']
  rw[e3];exact q
 ·have pl:xs.toList.Perm (vs.zip vs):=by rw[←QdE];exact Qa8.mp pm
  have ps:(xs.map (·.2)).toList.Perm vs:=by
   rw[Array.toList_map]
   have:=pl.map (·.2);rw[List.map_snd_zip (Qak _)] at this;exact this
  refine h (xs.map (·.2)) ps ?_;rw[Qbb];intro i j hi hj ij;have lx:(xs.map (·.2)).toList.length=xs.size:=by rw[Qal,Qep]
  rw[Qac,lx] at hi hj;have hz:xs.size=(pairsOf vs).size:=pm.size_eq;have q:=up i j (Qcx ij) (by omega);have mi:xs[i]∈(pairsOf vs).toList:=(Qa8.mp pm).subset (QcH hi);have mj:xs[j]∈(pairsOf vs).toList:=(Qa8.mp pm).subset (QcH hj);unfold RK at q;rw[Qas hi,Qas hj] at q;dsimp only at q;have e:=ZhW (ks:=vs.map (kfI s.heap)) (x:=kfI s.heap xs[j].1) (y:=kfI s.heap xs[i].1) (QaS.mpr ⟨_,(mz _ mj).2,rfl⟩) (QaS.mpr ⟨_,(mz _ mi).2,rfl⟩);rw[QaC (by omega)] at e;simp only[List.getElem_map,QcE,Array.getElem_map];rw[←(mz _ mi).1,←(mz _ mj).1];exact e.symm
theorem ZgW {V0:Value→Prop}(hh:A.handled=none)(hj:ZgL prog w V0 s.heap S us)(h64:us.length≤3000)(ne:∀u∈us,u≠ [])
  (h:∀(out:Array Value) (ws:List (List Int)) (h1 h':Heap) (tk:Nat) (d':Drawn) (e:Nat),(∀b ob,s.heap.get? b=some ob→h1.get? b=some ob)→(∀b ob,h1.get? b=some ob→h'.get? b=some ob)→out.size=ws.length→(∀(i:Nat) (v:Value) (u:List Int),out[i]?=some v→ws[i]?=some u→Zcf s.heap v u∧V0 v)→ws.Perm us→ws.Pairwise (fun x y=>ZbR y x=false)→h'.get? h1.objs.size=some (seqObj "list" out e)→Q (.ref h1.objs.size) {s with heap:=h',toks:=tk,drawn:=d' }):
  wpAny (model prog w) A (call (.builtin "sorted") [.ref S]) Q E s:=by
 obtain⟨o,es,ep,t,ks,ho,hx,hd,ea,pm,K⟩:=hj
 have fit:t.fits es.size=true:=by
  have:=K.fits;rw[Qac,Qal] at this;exact this
 have hl:es.size=us.length:=by rw[←Qal,ea.1,pm.length_eq]
 have hb:es.size<scanBound:=by unfold scanBound;omega
 have kv:∀v∈es.toList.map (·.2),∃u,Zcf s.heap v u∧u∈us∧V0 v:=fun v q=>by
  obtain⟨e,he,rfl⟩:=QaS.mp q;obtain⟨i,hi⟩:=Qay.mp he;have il:=(Qaf.mp hi).1;have ik:i<ks.length:=by rw[←ea.1];exact il
  have hk:ks[i]?=some ks[i]:=Qab ik;exact⟨ks[i],(ea.2 i e _ hi hk).1,pm.mem_iff.mp (Qap hk),(ea.2 i e _ hi hk).2.2⟩
 have ek:(es.toList.map (·.2)).map (kfI s.heap)=ks:=by
  apply Qcd;intro i;rw[Qam,Qam];by_cases z:i<es.toList.length
  ·have hi:es.toList[i]?=some es.toList[i]:=Qab z;have ik2:i<ks.length:=by rw[←ea.1];exact z
   have hk:ks[i]?=some ks[i]:=Qab ik2;rw[hi,hk];show some (kfI s.heap _)=_;rw[(ea.2 i _ _ hi hk).1.kf]
  ·rw[QaW (by omega),QaW (by rw[←ea.1];omega)];rfl
 refine QcB Qfu Qe7 Qe8 (Qe9 _) ?_;unfold Builtin.«sorted»;refine Qaa (m:=checkCount "sorted" 1 1 _) (Qae (Qaa (ZdQ hh ho hx hd fit hb K.tb fun vs h1 tk d' hpv kp=> ?_)));have lv:vs.length≤3000:=by rw[hpv.length_eq,Qac,Qal];omega
 refine Qaa (QdS ?_);have hoL:(h1.push {cls:=.type "list",data:=.seq vs.toArray }).get? h1.objs.size=some (seqObj "list" vs.toArray 0):=Qaw _ rfl;have tv:∀v∈vs,∃u,Zcf s.heap v u∧u∈us∧V0 v:=fun v q=>kv v (hpv.mem_iff.mp q)
 have kf:∀v∈vs,kfI (h1.push {cls:=.type "list",data:=.seq vs.toArray }) v=kfI s.heap v:=fun v q=>by
  obtain⟨u,t,_⟩:=tv v q;rw[t.kf,(t.keep' fun b ob _ e=>Qad _ (kp b ob e)).kf]
 refine Qaa (Qbd (Qbj Qel ⟨_,hoL,rfl⟩ Qd2 (ZkB (s:={s with heap:=h1.push {cls:=.type "list",data:=.seq vs.toArray },toks:=tk,drawn:=d' }) hoL lv (fun v q=> ?_) fun out po so=>⟨_,rfl,?_⟩) (Qem _)))
 ·obtain⟨u,t,mu,_⟩:=tv v q;exact⟨u,t.keep' fun b ob _ e=>Qad _ (kp b ob e),ne u mu⟩
 ·obtain⟨e,he⟩:=Qfx (out:=out) hoL;have ew:out.toList.map (kfI (h1.push {cls:=.type "list",data:=.seq vs.toArray }))=out.toList.map (kfI s.heap):=QcM fun v q=>kf v (po.mem_iff.mp q);refine Qae ⟨_,rfl,h out (out.toList.map (kfI s.heap)) h1 _ tk d' e kp (fun b ob z=> ?_) (by rw[Qac,Qal]) (fun i v u h3 h4=> ?_) ?_ ?_ he⟩
  ·have hlt:b<h1.objs.size:=Qar z;rw[Qfp (QaJ hlt) (by rw[QaY];exact Qbs hlt)];exact Qad _ z
  ·rw[Qam,Qan,h3] at h4;cases h4;have mv:v∈vs:=po.mem_iff.mp (by rw[←Qan] at h3;exact Qap h3);obtain⟨u,t,_,v0⟩:=tv v mv;rw[t.kf];exact⟨t,v0⟩
  ·have p1:=(po.trans hpv).map (kfI s.heap);rw[ek] at p1;exact p1.trans pm
  ·rw[←ew];exact so
def TuL (H:Hp)(xs:List V)(us:List (List Int)):Prop:=xs.length=us.length∧∀(i:Nat) (x:V) (u:List Int),xs[i]?=some x→us[i]?=some u→∃a:Addr,x= .ref a∧H a=some (.tup (u.map V.int))
theorem TuL.nil (H:Hp):TuL H [] []:=⟨rfl,fun i x u h=>by cases h⟩
theorem TuL.up {xs:List V}(h:TuL H xs us)(t:Za8 H H'):TuL H' xs us:=⟨h.1,fun i x u h1 h2=>by
 obtain⟨a,b,c⟩:=h.2 i x u h1 h2
 exact⟨a,b,t _ _ c⟩⟩
theorem TuL.snoc {xs:List V}(h:TuL H xs us)(ha:H a=some (.tup (u.map V.int))):TuL H (xs++ [.ref a]) (us++ [u]):=by
 refine⟨by rw[Qag,Qag,h.1];rfl,fun i y r h1 h2=> ?_⟩;by_cases z:i<xs.length
 ·rw[QaF z] at h1;rw[QaF (h.1 ▸ z)] at h2;exact h.2 i y r h1 h2
 ·rw[Qav (by omega)] at h1;rw[Qav (by have:=h.1;omega),←h.1] at h2
  cases w:i-xs.length with
  |zero=>rw[w] at h1 h2;cases h1;cases h2;exact⟨a,rfl,ha⟩
  |succ m=>rw[w] at h1;cases h1
def dTs (us:List (List Int)):PyData:=.list (us.map dT)
theorem TuL.di {K:PySem.W.Frag}{xs:List V}(h:TuL H xs us)(ha:SqL K H a xs):DI K H (.ref a) (dTs us):=by
 refine .lst ha (by rw[Qac];exact h.1) fun i x d h1 h2=> ?_;rw[Qam] at h2
 cases z:us[i]? with
 |none=>rw[z] at h2;cases h2
 |some u=>
  rw[z] at h2;cases h2;obtain⟨b,rfl,hb⟩:=h.2 i x u h1 z;refine .tup (SqT.of hb) (by rw[Qac,Qac]) fun j y e h3 h4=> ?_;rw[Qam] at h3 h4
  cases zz:u[j]? with
  |none=>rw[zz] at h3;cases h3
  |some m=>rw[zz] at h3 h4;cases h3;cases h4;exact .int m
theorem ZgX:∀us:List (List Int),(dTs us).canLay0=true:=by
 have:∀us:List (List Int),PyData.canLayAll0 (us.map dT)=true:=by
  intro us
  induction us with
  |nil=>rfl
  |cons u us ih=>show((dT u).canLay0 && PyData.canLayAll0 (us.map dT))=true;rw[Zdg,ih];rfl
 exact this
theorem Zow (us:List (List Int)):(dTs us).depth≤60:=by
 have:∀us:List (List Int),PyData.depthAll (us.map dT)≤1:=by
  intro us
  induction us with
  |nil=>exact QaU _
  |cons u us ih=>show max (dT u).depth _≤1;rw[Zeq];omega
 show PyData.depthAll _+1≤60
 have:=this us;omega
theorem Zox (us vs:List (List Int)):PyData.eqv (dTs us) (dTs vs)=decide (us=vs):=by
 have:∀us vs:List (List Int),PyData.eqvAll (us.map dT) (vs.map dT)=decide (us=vs):=by
  intro us
  induction us with
  |nil=>intro vs;cases vs<;>rfl
  |cons u us ih=>
   intro vs
   cases vs with
   |nil=>rfl
   |cons v vs=>
    show(PyData.eqv (dT u) (dT v) && PyData.eqvAll (us.map dT) (vs.map dT))=_;rw[ih,ZjB];by_cases h:u=v
    ·subst h;by_cases h2:us=vs<;>simp[h2]
    ·simp[h]
 exact this us vs
def vOf:Value→V
 | .ref a=> .ref a
 |_=> .non
theorem ZnD (I:Inv X qc σ H s)(h:H a=some (.tup (u.map V.int))):Zcf s.heap (.ref a) u:=by
 obtain⟨its,r,⟨o,e,c,n,hd⟩,_⟩:=I.tuple (SqT.of (K:=X.K) h);exact⟨a,o,_,n,rfl,e,c,hd,by simpa using ZbV r⟩
theorem Ze8 {k:Nat}{a:Expr}{p pos:PySem.Pos}(hr:Zdo k X.A)(hc:X.calm=true)(ha:PE X a ta)(hg:Gl X "sorted")(hm:X.mg "sorted" =none)(hg2:Gl X "set")(hm2:X.mg "set" =none)(hsa:starEach [a] X.env=[(false,eval a X.env)]:=by rfl):
  PE X (.Call (.Name "sorted" p) [.Call (.Name "set" p2) [a] [] qv] [] pos) (fun σ H Q=>ta σ H fun x H1=>∃(l:Addr) (xs:List V) (us:List (List Int)),x= .ref l∧SqL X.K H1 l xs∧TuL H1 xs us∧us.length≤300∧(∀u∈us,u≠ [])∧
   ∀(q:Addr) (ys:List V) (ws:List (List Int)),H1 q=none→TuL H1 ys ws→ws.Perm (ddT us)→ws.Pairwise (fun x y=>ZbR y x=false)→Q (.ref q) (upd H1 q (.lst ys))):=by
 intro qc s σ H Q I h;refine Qbu (ZbS I hg hm Zck ?_);refine QbU (rest:=[]) ?_ rfl rfl;show wpAny _ _ (spliced ((false,eval (.Call (.Name "set" p2) [a] [] qv) X.env):: [])) _ _ s;refine QbK (Qbu (ZbS I hg2 hm2 ZeU ?_));refine Qbk (rest:=[]) ?_ hsa rfl;rw[hsa];show wpAny _ _ (spliced ((false,eval a X.env):: [])) _ _ s;refine QbK (thn (ha qc s σ H _ I h) fun u s1 ⟨y,H1,I1,r1,l,xs,us,ey,hq,tt,h62,ne,q⟩=>Qb3 ?_);subst ey;cases r1;obtain⟨its,r,pl,hz⟩:=I1.list hq;have hln:its.length=us.length:=by rw[←r.length,tt.1]
 have at':∀(i:Nat) (v:Value),its[i]?=some v→∃(b:Addr) (u:List Int),v= .ref b∧us[i]?=some u∧H1 b=some (.tup (u.map V.int)):=fun i v hv=>by
  have il:=(Qaf.mp hv).1;have ix:i<xs.length:=by rw[r.length];exact il
  obtain⟨v',e1,e2⟩:=r.get (Qab ix);rw[hv] at e1;cases e1;have iu:i<us.length:=by omega
  obtain⟨b,e3,e4⟩:=tt.2 i _ us[i] (Qab ix) (Qab iu);rw[e3] at e2;exact⟨b,us[i],e2,Qab iu,e4⟩
 have hu:X.A.units+8<cLine:=by have:=hr.units;omega
 refine ZfV (V0:=fun v=>v∈its) (us:=us) (I1.ok.hd hc) pl.isList hu (by rw[QaD];exact hln.symm) (fun i v hv=> ?_) (by rw[QaD];omega) (fun v hv=>by simpa using hv) fun h2 tk hj hk=>Qb3 ?_
 ·obtain⟨b,u,rfl,eu,hb⟩:=at' i v (by simpa using hv)
  have:us.getD i []=u:=by rw[QaA,eu];rfl
  rw[this];exact ZnD I1 hb
 have I2:Inv X qc σ H1 {s1 with heap:=h2,toks:=tk }:=I1.kept fun b ob z=>hk b ob (Qar z) z;refine ZgW (s:={s1 with heap:=h2,toks:=tk }) (I1.ok.hd hc) hj (QaE (ZgM us) (by omega)) (fun u hu'=>ne u ((Zko us u).mp hu')) fun out ws h3 h4 tk4 d4 e kp3 kp4 sz at2 hp hs he=> ?_;have I3:Inv X qc σ H1 {s1 with heap:=h3,toks:=tk,drawn:=d4 }:=I2.keptD kp3;have hml:out.size≤300:=by rw[sz,hp.length_eq];have:=ZgM us;omega
 have at3:∀(i:Nat) (v:Value),out.toList[i]?=some v→∃(b:Addr) (u:List Int),v= .ref b∧ws[i]?=some u∧H1 b=some (.tup (u.map V.int)):=fun i v hv=>by
  have il:=(Qaf.mp hv).1;rw[Qal,sz] at il;obtain⟨t1,m1⟩:=at2 i v ws[i] (by rw[←Qan];exact hv) (Qab il);obtain⟨j,hj'⟩:=Qay.mp m1;obtain⟨b,u,rfl,eu,hb⟩:=at' j v hj';have t2:=ZnD I2 hb
  have:ws[i]=u:=by rw[←t1.kf,←t2.kf]
  exact⟨b,u,rfl,by rw[Qab il,this],hb⟩
 have vals:ZaR (out.toList.map vOf) out.toList:=by
  have key:∀l:List Value,(∀v∈l,∃b:Addr,v= .ref b)→ZaR (l.map vOf) l:=by
   intro l
   induction l with
   |nil=>intro _;exact .nil
   |cons v l ih=>
    intro hl;obtain⟨b,rfl⟩:=hl v Qai;exact .cons rfl (ih fun z hz=>hl z (Qao _ hz))
  refine key _ fun v hv=> ?_;obtain⟨i,hi⟩:=Qay.mp hv;obtain⟨b,_,rfl,_⟩:=at3 i v hi;exact⟨b,rfl⟩
 have tt2:TuL H1 (out.toList.map vOf) ws:=by
  refine⟨by rw[Qac,Qal,sz],fun i x u h5 h6=> ?_⟩;rw[Qam] at h5
  cases zz:out.toList[i]? with
  |none=>rw[zz] at h5;cases h5
  |some v=>
   rw[zz] at h5;obtain⟨b,u',rfl,eu,hb⟩:=at3 i v zz;cases h5;rw[eu] at h6;cases h6;exact⟨b,rfl,hb⟩
 refine⟨.ref h3.objs.size,_,I3.laid (t':=tk4) (o:=.lst (out.toList.map vOf)) kp4 (Qak _) ⟨?_,out.toList,e,vals,?_⟩,rfl,q _ _ ws (I3.hok.fresh (Qak _)) tt2 hp hs⟩
 ·rw[Qac,Qal];exact QaE (show out.size≤1000 by omega) (by decide)
 ·rw[he]
def Zjb (h:Heap)(d:Addr)(es:Array DictEntry)(ep:Nat):Prop:=∃o,h.get? d=some o∧o.ExactDict∧o.data= .dict es ep
theorem Zjb.keep (r:Zjb h d es ep)(k:∀o,h.get? d=some o→h'.get? d=some o):Zjb h' d es ep:=
 let⟨o,e,x⟩:=r;⟨o,k o e,x⟩
def ItF (h:Heap)(it d:Addr)(f0 f1:Value)(i n ep:Nat)(ok ov:Value):Prop:=
 h.get? it=some {cls:=.type "dict_itemiterator",data:=.fields #[f0,f1,.ref d,.int i 0,.int n 0,.int ep 0,ok,ov] }
section
variable {it:Addr}{f0 f1 ok ov:Value}
theorem Zmm (g:ItF s.heap it d f0 f1 i es.size ep ok ov):s.TypeIs (.ref it) "dict_itemiterator" :=⟨_,g,rfl⟩
theorem ZgY:Builtin.Dict_items.ownsTuple "dict_itemiterator" =true:=by decide
theorem ZnE {Q:Option Value→Shared→Prop}(g:ItF s.heap it d f0 f1 i es.size ep ok ov)(hd:Zjb s.heap d es ep)(hi:i<es.size)
  (k:∀(A':Around) (E':Value→Shared→Prop) (h1:Heap),ItF h1 it d f0 f1 (i+1) es.size ep ok ov→Heap.SameBut it s.heap h1→wpAny (model prog w) A' (Builtin.Dict_items.pairFromOwner (.ref it) 6 es[i].key es[i].val) (fun v s'=>Q (some v) s') E' {s with heap:=h1 }):
  wpAny (model prog w) A (pyNext (.ref it)) Q E s:=by
 obtain⟨o,e1,e2,e3⟩:=hd;have ty:=Zmm g;unfold pyNext;refine Qaa (Qdp (QbR ty Qb1 (Qbj Qb1 ty Qc9 ?_ (Qc6 _))));refine Qaa (Qae (Qaa (Qaa (Qaa (Qci ty (Qae (Qaa (Qfo g rfl ?_))))))));simp only[ZgY,Qcv];show wpAny _ _ (if(Value.ref d==Value.none)=true then _ else _) _ _ _;rw[if_neg (by intro z;cases z)];refine Qaa (Qae (Qaa (Qey e1 e3 ?_)));rw[if_neg (by simp)];refine Qaa (Qae (Qaa (Qfi e1 e3 ?_)));rw[if_neg (by simp)];refine Qae ?_;have n0:¬((i:Int)<0):=by omega
 simp only[n0,Qcj,QbA,Qas hi];refine Qaa (Qaa (Qci ty (Qae (Qaa (Qdv ty ?_)))));show wpAny _ _ (setField (.ref it) 3 (rawInt ((i:Int)+1))>>=_) _ _ _;refine Qaa (Qa0 g (by simp) fun h1 g1 sb=> ?_);have g2:ItF h1 it d f0 f1 (i+1) es.size ep ok ov:=g1;have ty1:Shared.TypeIs {s with heap:=h1 } (.ref it) "dict_itemiterator" :=⟨_,g2,rfl⟩;refine Qaa (Qbd (Qaa (Qdv ty1 (Qaa (Qdv ty1 ?_)))));show wpAny _ _ (Builtin.Dict_items.pairFromOwner (.ref it) 6 es[i].key es[i].val) _ _ _;exact QaZ (k _ _ h1 g2 sb) (fun v s' q=>Qae ⟨v,rfl,Qae q⟩) fun _ _ z=>z
theorem ZiR {key val:Value}(g:ItF s.heap it d .none f1 i es.size ep ok ov)
  (k:∀h',ItF h' it d (rawInt s.heap.objs.size) (.bool false) i es.size ep key val→h'.get? s.heap.objs.size=some {cls:=.type "tuple",data:=.seq #[key,val] }→h'.objs.size=s.heap.objs.size+1→(∀b o,b≠it→s.heap.get? b=some o→h'.get? b=some o)→Q (.ref s.heap.objs.size) {s with heap:=h' }):
  wpAny (model prog w) A (Builtin.Dict_items.pairFromOwner (.ref it) 6 key val) Q E s:=by
 have hil:it<s.heap.objs.size:=Qar g;unfold Builtin.Dict_items.pairFromOwner;refine Qaa (QdD ?_);have g1:ItF (s.heap.push {cls:=.type "tuple",data:=.seq #[key,val] }) it d .none f1 i es.size ep ok ov:=Qad _ g;have t1:(s.heap.push {cls:=.type "tuple",data:=.seq #[key,val] }).get? s.heap.objs.size=some {cls:=.type "tuple",data:=.seq #[key,val] }:=Qaw _ rfl;have z1:(s.heap.push {cls:=.type "tuple",data:=.seq #[key,val] }).objs.size=s.heap.objs.size+1:=QaY ..;have k1:∀b o,b≠it→s.heap.get? b=some o→(s.heap.push {cls:=.type "tuple",data:=.seq #[key,val] }).get? b=some o:=fun b o _ e=>Qad _ e;show wpAny _ _ (Builtin.Dict_items.ownedTupleIsFree (.ref it)>>=_) _ _ {s with heap:=s.heap.push {cls:=.type "tuple",data:=.seq #[key,val] } };generalize s.heap.push {cls:=.type "tuple",data:=.seq #[key,val] }=h1 at g1 t1 z1 k1;unfold Builtin.Dict_items.ownedTupleIsFree;refine Qaa (Qaa (QbO g1 rfl (x:=.none) rfl (Qae ?_)));simp only[Qcv];refine Qaa (QbO g1 rfl (x:=ok) rfl (Qaa (QbO g1 rfl (x:=ov) rfl ?_)));refine Qaa (Qa0 g1 (by simp) fun h2 g2 b2=> ?_);refine Qaa (Qa0 g2 (by simp) fun h3 g3 b3=> ?_);refine Qaa (Qa0 g3 (by simp) fun h4 g4 b4=> ?_);refine Qaa (Qa0 g4 (by simp) fun h5 g5 b5=> ?_);have all:∀b o,b≠it→h1.get? b=some o→h5.get? b=some o:=fun b o n e=>QbE b5 b o n (QbE b4 b o n (QbE b3 b o n (QbE b2 b o n e)))
 have sz:h5.objs.size=s.heap.objs.size+1:=by
  have q2:h2.objs.size=h1.objs.size:=b2.1;have q3:h3.objs.size=h2.objs.size:=b3.1;have q4:h4.objs.size=h3.objs.size:=b4.1;have q5:h5.objs.size=h4.objs.size:=b5.1;omega
 exact Qaa (Qfv (Qae (k h5 g5 (all _ _ (Qbc hil) t1) sz fun b o n e=>all b o n (k1 b o n e))))
theorem ZkC {key val:Value}{oa:Obj}{f:Bool}(g:ItF s.heap it d (rawInt a) (.bool f) i es.size ep ok ov)(ha:s.heap.get? a=some oa)
  (k:∀h',ItF h' it d (rawInt a) (.bool true) i es.size ep ok ov→h'.get? s.heap.objs.size=some {cls:=.type "tuple",data:=.seq #[key,val] }→h'.objs.size=s.heap.objs.size+1→(∀b o,b≠it→s.heap.get? b=some o→h'.get? b=some o)→Q (.ref s.heap.objs.size) {s with heap:=h' }):
  wpAny (model prog w) A (Builtin.Dict_items.pairFromOwner (.ref it) 6 key val) Q E s:=by
 have hil:it<s.heap.objs.size:=Qar g;unfold Builtin.Dict_items.pairFromOwner;refine Qaa (QdD ?_);have g1:ItF (s.heap.push {cls:=.type "tuple",data:=.seq #[key,val] }) it d (rawInt a) (.bool f) i es.size ep ok ov:=Qad _ g;have t1:(s.heap.push {cls:=.type "tuple",data:=.seq #[key,val] }).get? s.heap.objs.size=some {cls:=.type "tuple",data:=.seq #[key,val] }:=Qaw _ rfl;have a1:=Qad {cls:=.type "tuple",data:=.seq #[key,val] } ha;have z1:(s.heap.push {cls:=.type "tuple",data:=.seq #[key,val] }).objs.size=s.heap.objs.size+1:=QaY ..;have k1:∀b o,b≠it→s.heap.get? b=some o→(s.heap.push {cls:=.type "tuple",data:=.seq #[key,val] }).get? b=some o:=fun b o _ e=>Qad _ e;show wpAny _ _ (Builtin.Dict_items.ownedTupleIsFree (.ref it)>>=_) _ _ {s with heap:=s.heap.push {cls:=.type "tuple",data:=.seq #[key,val] } };generalize s.heap.push {cls:=.type "tuple",data:=.seq #[key,val] }=h1 at g1 t1 z1 k1 a1;unfold Builtin.Dict_items.ownedTupleIsFree;refine Qaa (Qaa (QbO g1 rfl (x:=rawInt a) rfl ?_));show wpAny _ _ (loadIfAlive ((a:Int).toNat)>>=_) _ _ _;rw[QbA];refine Qaa (PySem.W.kdx_alive a1 ?_);simp only[Option.isNone_some,Qa3,Qcj];refine Qaa (QbO g1 rfl (x:=.bool f) rfl ?_)
 cases f with
 |true=>
  rw[if_neg (by decide)];refine Qae ?_;simp only[Qa3,Qcj];exact Qae (k h1 g1 t1 z1 k1)
 |false=>
  rw[if_pos (by decide)];refine Qaa (Qa0 g1 (by simp) fun h2 g2 b2=>Qae ?_);simp only[Qa3,Qcj];exact Qae (k h2 g2 (QbE b2 _ _ (Qbc hil) t1) (by have q2:h2.objs.size=h1.objs.size:=b2.1;omega) fun b o n e=>QbE b2 b o n (k1 b o n e))
theorem ZnF {Q:Option Value→Shared→Prop}(hh:A.handled=none)(g:ItF s.heap it d f0 f1 es.size es.size ep ok ov)(hd:Zjb s.heap d es ep)
  (k:∀h',Heap.ExtBut it s.heap h'→Q none {s with heap:=h' }):wpAny (model prog w) A (pyNext (.ref it)) Q E s:=by
 obtain⟨o,e1,e2,e3⟩:=hd;have ty:s.TypeIs (.ref it) "dict_itemiterator" :=⟨_,g,rfl⟩;unfold pyNext;refine Qaa (Qdp (QbR ty Qb1 (Qbj Qb1 ty Qc9 ?_ (Qc6 _))));refine Qaa (Qae (Qaa (Qaa (Qaa (Qci ty (Qae (Qaa (Qfo g rfl ?_))))))));simp only[ZgY,Qcv];show wpAny _ _ (if(Value.ref d==Value.none)=true then _ else _) _ _ _;rw[if_neg (by intro z;cases z)];refine Qaa (Qae (Qaa (Qey e1 e3 ?_)));rw[if_neg (by simp)];refine Qaa (Qae (Qaa (Qfi e1 e3 ?_)));rw[if_neg (by simp)];refine Qae ?_;have n0:¬((es.size:Int)<0):=by omega
 simp only[n0,Qcj,QbA,Qdu (Qak _)];refine Qaa (Qaa (Qci ty (Qae ?_)));show wpAny _ _ (setField (.ref it) 2 .none>>=_) _ _ s;refine Qaa (Qfq g rfl (by simp) ?_);show wpAny _ _ (newExc (Value.type "StopIteration") []>>=fun e=>raiseNew e) _ _ _;refine ZjQ hh fun e h' kp ⟨ob,ge,gc⟩=> ?_;refine Qaa (Qda (T:= "StopIteration") (b:=true) ⟨ob,ge,gc⟩ Qek ?_);exact Qae (k _ fun b o n e=>kp b o (QbE (Qb0 ..) b o n e))
def ItS (h:Heap)(it d S:Addr)(i n ep:Nat):Prop:=(i=0∧∃ok ov,ItF h it d .none (.bool false) 0 n ep ok ov)∨∃(a:Addr) (f:Bool) (ok ov:Value) (oa:Obj),ItF h it d (rawInt a) (.bool f) i n ep ok ov∧h.get? a=some oa∧a≠it∧a≠S
theorem ItS.keep (x:ItS h it d S i n ep)(nS:it≠S)(k:∀b o,b≠S→h.get? b=some o→h'.get? b=some o):ItS h' it d S i n ep:=by
 rcases x with⟨e,ok,ov,g⟩|⟨a,f,ok,ov,oa,g,ga,n1,n2⟩
 ·exact .inl ⟨e,ok,ov,k _ _ nS g⟩
 ·exact .inr ⟨a,f,ok,ov,oa,k _ _ nS g,k _ _ n2 ga,n1,n2⟩
theorem Zmn {Q:Option Value→Shared→Prop}(x:ItS s.heap it d S i es.size ep)(hS:S<s.heap.objs.size)(hd:Zjb s.heap d es ep)(hi:i<es.size)
  (k:∀h',ItS h' it d S (i+1) es.size ep→h'.get? s.heap.objs.size=some {cls:=.type "tuple",data:=.seq #[es[i].key,es[i].val] }→h'.objs.size=s.heap.objs.size+1→(∀b o,b≠it→s.heap.get? b=some o→h'.get? b=some o)→Q (some (.ref s.heap.objs.size)) {s with heap:=h' }):
  wpAny (model prog w) A (pyNext (.ref it)) Q E s:=by
 rcases x with⟨rfl,ok,ov,g⟩|⟨a,f,ok,ov,oa,g,ga,n1,n2⟩
 ·refine ZnE g hd hi fun A' E' h1 g1 sb=> ?_;have z1:h1.objs.size=s.heap.objs.size:=sb.1;have hil:it<s.heap.objs.size:=Qar g;refine ZiR (s:={s with heap:=h1 }) g1 fun h' g2 t2 z2 k2=> ?_;dsimp only at g2 t2 z2 k2⊢;rw[z1] at g2 t2 z2⊢;exact k h' (.inr ⟨_,_,_,_,_,g2,t2,Qbc hil,Qbc hS⟩) t2 z2 fun b o n e=>k2 b o n (QbE sb b o n e)
 ·refine ZnE g hd hi fun A' E' h1 g1 sb=> ?_;have z1:h1.objs.size=s.heap.objs.size:=sb.1;refine ZkC (s:={s with heap:=h1 }) g1 (QbE sb _ _ n1 ga) fun h' g2 t2 z2 k2=> ?_;dsimp only at g2 t2 z2 k2⊢;rw[z1] at t2 z2⊢;have k3:∀b o,b≠it→s.heap.get? b=some o→h'.get? b=some o:=fun b o n e=>k2 b o n (QbE sb b o n e);exact k h' (.inr ⟨a,true,ok,ov,oa,g2,k3 _ _ n1 ga,n1,n2⟩) t2 z2 k3
theorem Zoy {Q:Option Value→Shared→Prop}(hh:A.handled=none)(x:ItS s.heap it d S es.size es.size ep)(hd:Zjb s.heap d es ep)
  (k:∀h',Heap.ExtBut it s.heap h'→Q none {s with heap:=h' }):wpAny (model prog w) A (pyNext (.ref it)) Q E s:=by
 rcases x with⟨e,ok,ov,g⟩|⟨a,f,ok,ov,oa,g,_⟩
 ·have g':∀m,m=0→ItF s.heap it d .none (.bool false) m es.size ep ok ov:=fun m z=>by subst z;exact g
  exact ZnF hh (g' _ e) hd k
 ·exact ZnF hh g hd k
def ZcH (h:Heap)(es:Array DictEntry)(as:List Addr):Prop:=∀(j:Nat) (a:Addr),as[j]?=some a→∃e,es[j]?=some e∧h.get? a=some {cls:=.type "tuple",data:=.seq #[e.key,e.val] }
theorem ZiS {as:List Addr}(p:ZcH h es as)(k:∀a∈as,∀o,h.get? a=some o→h'.get? a=some o):ZcH h' es as:=fun j a e=>by
 obtain⟨x,e1,e2⟩:=p j a e;exact⟨x,e1,k a (Qap e) _ e2⟩
theorem Zmo {R:Result→Shared→Prop}{I:Addr}(hh:A.handled=none)(hSI:S≠I)(hSd:S≠d)(hId:I≠d)(hn:es.size≤sizeLine)(res:Value){h0:Heap}
  (hR:∀(h':Heap) (c:Nat) (acc:Array Value) (as:List Addr),(∀b o,b≠S→b≠I→h0.get? b=some o→h'.get? b=some o)→h'.get? S=some {cls:=.type "list",data:=.seq acc c }→as.length=es.size→ZcH h' es as→(∀a∈as,h0.objs.size≤a)→acc.toList=as.map Value.ref→R (.ok (.ret res)) {s with heap:=h' }):
  ∀(k i:Nat) (h:Heap) (c:Nat) (acc:Array Value) (as:List Addr),es.size-i=k→i≤es.size→ItS h I d S i es.size ep→Zjb h d es ep→(∀b o,b≠S→b≠I→h0.get? b=some o→h.get? b=some o)→h0.objs.size≤h.objs.size→h.get? S=some {cls:=.type "list",data:=.seq acc c }→acc.toList=as.map Value.ref→as.length=i→ZcH h es as→(∀a∈as,h0.objs.size≤a∧a≠S∧a≠I)→
   codeAny (model prog w) A (.builtin "list.extend.loop" ⟨[.ref S,.ref I,res],[]⟩) R {s with heap:=h }:=by
 intro k
 induction k with
 |zero=>
  intro i h c acc as hk hi st rd kp sz gS ha hl pa na;have ei:i=es.size:=by omega
  subst ei;refine QbH Qeq ?_;rw[Qbo QbZ _];show wpAny _ A.in1 (pyNext (.ref I)>>=_) _ _ _;refine Qaa (Zoy (s:={s with heap:=h }) hh st rd fun h' x=>Qae (hR h' c acc as (fun b o n1 n2 e=>x b o n2 (kp b o n1 n2 e)) (x _ _ hSI gS) hl (ZiS pa fun a m o e=>x a o (na a m).2.2 e) (fun a m=>(na a m).1) ha))
 |succ k ih=>
  intro i h c acc as hk hi st rd kp sz gS ha hl pa na;have il:i<es.size:=by omega
  refine QbH Qeq ?_;rw[Qbo QbZ _];show wpAny _ A.in1 (pyNext (.ref I)>>=_) _ _ _;refine Qaa (Zmn (s:={s with heap:=h }) st (Qar gS) rd il fun h' st' t' z' x=> ?_);dsimp only at t' z' x⊢;have gS':=x _ _ hSI gS;have asz:acc.size=i:=by rw[←Qal,ha,Qac,hl]
  show wpAny _ A.in1 (updateSeq S (·.push (.ref h.objs.size))>>=_) _ _ _;have oth:∀b o,b≠S→h'.get? b=some o→(h'.update S (Obj.mapSeq (·.push (.ref h.objs.size)))).get? b=some o:=fun b o n e=>(QbW _ _ (Ne.symm n)).trans e
  have Il:I<h.objs.size:=by
   rcases st with⟨_,_,_,g⟩|⟨_,_,_,_,_,g,_⟩<;>exact Qar g
  have sn:h.objs.size≠S:=Qbc (Qar gS);refine Qaa (Qdq gS' rfl (Qae ⟨QcA QbZ _,ih (i+1) _ _ (acc.push (.ref h.objs.size)) (as++ [h.objs.size]) (by omega) il (st'.keep (Ne.symm hSI) oth) (rd.keep fun o e=>oth d o (Ne.symm hSd) (x d o (Ne.symm hId) e)) (fun b o n1 n2 e=>oth b o n1 (x b o n2 (kp b o n1 n2 e))) ?_ (QbN _ gS' rfl) ?_ ?_ ?_ ?_⟩) (by rw[asz];omega) (by show(acc.push _).size≤sizeLine+1;rw[Array.size_push,asz];omega))
  ·rw[QdO];show h0.objs.size≤h'.objs.size;omega
  ·rw[Qcb,ha,QaG];rfl
  ·rw[Qag,hl];rfl
  ·intro j a e;by_cases jl:j<as.length
   ·rw[QaF jl] at e;obtain⟨y,e1,e2⟩:=pa j a e;have na':=na a (Qap e);exact⟨y,e1,oth a _ na'.2.1 (x a _ na'.2.2 e2)⟩
   ·rw[Qav (by omega)] at e
    have j0:j=i:=by
     have:=(Qaf.mp e).1;simp only[QaM,QbM] at this;omega
    subst j0;rw[hl,QcV] at e;cases e;exact⟨es[j],Qas il,oth _ _ sn t'⟩
  ·intro a m;rcases Qaq.mp m with m|m
   ·exact na a m
   ·rw[Qaj.mp m];exact⟨sz,sn,Qbc Il⟩
theorem Zmp (hv:s.heap.IsItemsView v d)(hd:Zjb s.heap d es ep)
  (k:Q (.ref s.heap.objs.size) {s with heap:=s.heap.push {cls:=.type "dict_itemiterator",data:=.fields #[.none,.bool false,.ref d,.int 0 0,.int es.size 0,.int ep 0,.none,.none] } }):wpAny (model prog w) A (pyIter (.ref v)) Q E s:=by
 obtain⟨o,e1,e2,e3⟩:=hd;have ty:=hv.typeIs;obtain⟨ov,g1,g2,g3⟩:=hv;refine Qew ty QdU (Qbj QdU ty PySem.F.entry_dict_items_iter ?_ (PySem.F.args_dict_items_iter_1 _));unfold Builtin.«dict_items.__iter__» Builtin.Dict_items.dictOf Builtin.Dict_items.newIterator;refine Qaa (Qae (Qaa (Qaa (QbO g1 g3 (x:=.ref d) rfl (Qae (Qaa (Qaa (Qey e1 e3 (Qaa (Qfi e1 e3 ?_))))))))));simp only[ZgY,Qcv];refine Qbr (Qae ⟨_,rfl, "dict_itemiterator",_,⟨_,Qaw _ rfl,rfl⟩,PySem.F.slot_dict_itemiterator_next.lookup,?_⟩) ?_
 ·simpa[rawInt,Builtin.Dict_items.ownedTupleFields] using k
 ·simp only[sizeOk,Builtin.Dict_items.ownedTupleFields,QaD,Qag,QaM,QbM]
  decide
theorem ZgZ {Q:List Value→Shared→Prop}(hh:A.handled=none)(hv:s.heap.IsItemsView v d)(hd:Zjb s.heap d es ep)(hn:es.size≤sizeLine)
  (k:∀(h':Heap) (as:List Addr),(∀b o,s.heap.get? b=some o→h'.get? b=some o)→as.length=es.size→ZcH h' es as→(∀a∈as,s.heap.objs.size≤a)→Q (as.map Value.ref) {s with heap:=h' }):wpAny (model prog w) A (collect (.ref v)) Q E s:=by
 have vl:v<s.heap.objs.size:=let⟨_,e,_⟩:=hv;Qar e;have dl:d<s.heap.objs.size:=let⟨_,e,_⟩:=hd;Qar e
 have ext:∀(s:Shared) (R:Result→Shared→Prop) (S:Addr) (n0:Nat),s.heap.IsItemsView v d→Zjb s.heap d es ep→s.heap.get? S=some {cls:=.type "list",data:=.seq #[] n0 }→S≠v→S≠d→
   (∀(h':Heap) (c:Nat) (acc:Array Value) (as:List Addr),(∀b o,b≠S→s.heap.get? b=some o→h'.get? b=some o)→h'.get? S=some {cls:=.type "list",data:=.seq acc c }→as.length=es.size→ZcH h' es as→(∀a∈as,s.heap.objs.size≤a)→acc.toList=as.map Value.ref→R (.ok (.ret (.ref S))) {s with heap:=h' })→
   wpAny (model prog w) A.in1 (Builtin.List.listExtendWith (.ref S) (.ref v) (.ref S)) (fun fin s'=>match fin with| .done f=>R (.ok f) s'| .again c'=>c'.quiet=true∧codeAny (model prog w) A c' R s') (fun e s'=>R (.error e) s') s:=by
  intro s R S n0 hv hd gS nv nd hR;have dl:d<s.heap.objs.size:=let⟨_,e,_⟩:=hd;Qar e;have Sl:S<s.heap.objs.size:=Qar gS;unfold Builtin.List.listExtendWith;refine Qaa (QdF (T:= "dict_items") hv.typeIs ?_);have e1:Builtin.List.listSameRef (.ref S) (.ref v)=false:=by simp[Builtin.List.listSameRef,nv]
  have e2:(Value.type "dict_items" ==Value.type "list")=false:=by decide
  have e3:(Value.type "dict_items" ==Value.type "tuple")=false:=by decide
  simp only[e1,e2,e3,Bool.or_false,Qa3,Qcj];refine Qaa (Zmp hv hd ?_);have g1:=Qad {cls:=.type "dict_itemiterator",data:=.fields #[.none,.bool false,.ref d,.int 0 0,.int es.size 0,.int ep 0,.none,.none] } gS;have it1:ItF (s.heap.push {cls:=.type "dict_itemiterator",data:=.fields #[.none,.bool false,.ref d,.int 0 0,.int es.size 0,.int ep 0,.none,.none] }) s.heap.objs.size d .none (.bool false) 0 es.size ep .none .none:=Qaw _ rfl;have k1:∀b o,s.heap.get? b=some o→(s.heap.push {cls:=.type "dict_itemiterator",data:=.fields #[.none,.bool false,.ref d,.int 0 0,.int es.size 0,.int ep 0,.none,.none] }).get? b=some o:=fun b o e=>Qad _ e;have z1:s.heap.objs.size≤(s.heap.push {cls:=.type "dict_itemiterator",data:=.fields #[.none,.bool false,.ref d,.int 0 0,.int es.size 0,.int ep 0,.none,.none] }).objs.size:=by rw[QaY];omega
  have hv1:(s.heap.push {cls:=.type "dict_itemiterator",data:=.fields #[.none,.bool false,.ref d,.int 0 0,.int es.size 0,.int ep 0,.none,.none] }).IsItemsView v d:=let⟨o,e,x⟩:=hv;⟨o,k1 _ _ e,x⟩;generalize s.heap.push {cls:=.type "dict_itemiterator",data:=.fields #[.none,.bool false,.ref d,.int 0 0,.int es.size 0,.int ep 0,.none,.none] }=h1 at g1 it1 k1 z1 hv1
  have go:∀(h2:Heap) (c:Nat),(∀b o,b≠S→h1.get? b=some o→h2.get? b=some o)→h1.objs.size≤h2.objs.size→h2.get? S=some {cls:=.type "list",data:=.seq #[] c }→codeAny (model prog w) A (.builtin "list.extend.loop" ⟨[.ref S,.ref s.heap.objs.size,.ref S],[]⟩) R {s with heap:=h2 }:=fun h2 c k2 z2 g2=>by
   refine Zmo (h0:=s.heap) hh (QaJ Sl) nd (Qbc dl) hn (.ref S) (fun h' c acc as q1 q2 q3 q4 q5 q6=> ?_) es.size 0 h2 c #[] [] rfl (QaU _) (.inl ⟨rfl,_,_,k2 _ _ (Qbc Sl) it1⟩) (hd.keep fun o e=>k2 _ _ (Ne.symm nd) (k1 _ _ e)) (fun b o n1 _ e=>k2 b o n1 (k1 b o e)) (QaE z1 z2) g2 rfl rfl (fun j a e=>by cases e) (fun a m=>by cases m);exact hR h' c acc as (fun b o n e=>q1 b o n (QaJ (Qar e)) e) q2 q3 q4 q5 q6
  refine Qaa (Qbd (PySem.W.kdx_hint (hv1.typeIs (s:={s with heap:=h1 })) ?_));refine Qd1 (fun _=> ?_) (fun _=>Qae ⟨QcA QbZ _,go h1 n0 (fun b o _ e=>e) (Qak _) g1⟩);refine Qaa (QbQ (Qaa ?_));show wpAny _ _ (updateSeq S (·.push .none)>>=fun _=>updateSeq S (·.pop)) _ _ _;refine Qaa (Qdq g1 rfl ?_);have g2:=QbN (Obj.mapSeq (·.push Value.none)) g1 rfl;refine Qdq (hz:=by seq_fits) g2 rfl ?_;have g3:=QbN (Obj.mapSeq (·.pop)) g2 rfl;refine Qae ⟨QcA QbZ _,go _ _ (fun b o n e=> ?_) ?_ g3⟩
  ·exact(QbW _ _ (Ne.symm n)).trans ((QbW _ _ (Ne.symm n)).trans e)
  ·rw[QdO,QdO];exact Qak _
 have key:∀R:Result→Shared→Prop,(∀(h':Heap) (c:Nat) (acc:Array Value) (as:List Addr),(∀b o,s.heap.get? b=some o→h'.get? b=some o)→h'.get? s.heap.objs.size=some {cls:=.type "list",data:=.seq acc c }→as.length=es.size→ZcH h' es as→(∀a∈as,s.heap.objs.size≤a)→acc.toList=as.map Value.ref→R (.ok (.ret (.ref s.heap.objs.size))) {s with heap:=h' })→
   codeAny (model prog w) A (.builtin "proto.collect" ⟨[.ref v],[]⟩) R s:=by
  intro R hR;refine QbH QdZ ?_;rw[Qbo Qd0 _];show wpAny _ A.in1 (newList []>>=fun q=>again (.builtin "list.__iadd__" ⟨[q,.ref v],[]⟩)) _ _ s;refine Qaa (Qbr (Qae ⟨QcA QcK _,QbH QeG ?_⟩));rw[Qbo QcK _];show wpAny _ A.in1 (Builtin.List.listExtendWith (.ref s.heap.objs.size) (.ref v) (.ref s.heap.objs.size)) _ _ _;refine ext {s with heap:=s.heap.push {cls:=.type "list",data:=.seq ([]:List Value).toArray } } R s.heap.objs.size 0 (let⟨o,e,x⟩:=hv;⟨o,Qad _ e,x⟩) (hd.keep fun o e=>Qad _ e) (Qaw _ rfl) (Qbc vl) (Qbc dl) fun h' c acc as q1 q2 q3 q4 q5 q6=> ?_;refine hR h' c acc as (fun b o e=>q1 b o (QaJ (Qar e)) (Qad _ e)) q2 q3 q4 (fun a m=> ?_) q6
  have:=q5 a m;rw[QaY] at this;omega
 unfold collect;refine Qaa (Qej (key _ fun h' c acc as q1 q2 q3 q4 q5 q6=> ?_));show wpAny _ A (load s.heap.objs.size>>=_) _ _ _;refine Qaa (wpAny_load q2 (Qae ?_))
 have:=k h' as q1 q3 q4 q5;rw[←q6] at this;exact this
end
def PrI (h:Heap)(v:Value)(u:List Int)(m:Int):Prop:=∃(a:Addr) (o:Obj) (ka:Value) (t:Tok) (n:Nat),v= .ref a∧h.get? a=some o∧o.cls= .type "tuple" ∧o.data= .seq #[ka,.int m t] n∧Zcf h ka u
def kfP (h:Heap)(v:Value):List Int:=match v with
 | .ref a=>match h.get? a with
  |some o=>match o.data with
   | .seq its _=>kfI h (its.getD 0 .none)
   |_=>[]
  |none=>[]
 |_=>[]
def kfM (h:Heap)(v:Value):Int:=match v with
 | .ref a=>match h.get? a with
  |some o=>match o.data with
   | .seq its _=>Zrj (its.getD 1 .none)
   |_=>0
  |none=>0
 |_=>0
theorem PrI.kf {h:Heap}{v:Value}{u:List Int}{m:Int}(p:PrI h v u m):kfP h v=u∧kfM h v=m:=by
 obtain⟨a,o,ka,t,n,rfl,e,c,d,x⟩:=p;unfold kfP kfM;dsimp only;rw[e];dsimp only;rw[d];exact⟨x.kf,rfl⟩
theorem PrI.keep {v:Value}(p:PrI h v u m)(k:∀(b:Addr) (o:Obj),o.cls= .type "tuple" →h.get? b=some o→h'.get? b=some o):PrI h' v u m:=by
 obtain⟨a,o,ka,t,n,rfl,e,c,d,x⟩:=p;exact⟨a,o,ka,t,n,rfl,k a o c e,c,d,x.keep' k⟩
theorem Zc8 {P:Program}{w:World}:∀{vs:List Value} {u:List Int},IntsAre vs u→ItemsAre (intKind P w) u vs
 |_,_,.nil=> .nil
 |_,_,.cons n t h=> .cons (Qdj _ _ _ _) (Zc8 h)
theorem ZkD:∀(u v:List Int),HT.lexLt u v=ZbR u v
 | [],[]=>rfl
 | [],_::_=>rfl
 |_::_,[]=>rfl
 |a::u,b::v=>by rw[HT.lexLt_cons,ZkD u v];rfl
theorem Zmq {x y:Value}{v:List Int}{n:Int}{Q:Bool→Shared→Prop}(hu:A.units<cLine)(hx:PrI s.heap x u m)(hy:PrI s.heap y v n)(hm:u=v→m=n)(h:Q (ZbR u v) s):wpAny (model prog w) A (keyLt' (tuples' false) x y) Q E s:=by
 obtain⟨a,o,ka,t,z,rfl,e,c,d,tx⟩:=hx;obtain⟨a',o',ka',t',z',rfl,e',c',d',ty⟩:=hy;obtain⟨p,op,ip,np,rfl,g1,g2,g3,g4⟩:=tx;obtain⟨q,oq,iq,nq,rfl,k1,k2,k3,k4⟩:=ty;refine PySem.W.kat_lt e d e' d' (PySem.W.kat_cons ?_);refine Qeg (knd:=intKind prog w) hu ⟨op,ip,np,g1,g2,g3,Zc8 g4⟩ ⟨oq,iq,nq,k1,k2,k3,Zc8 k4⟩ ?_;by_cases z:u=v
 ·rw[QaK z];refine PySem.W.kat_yes (PySem.W.kat_cons ((intKind prog w).eqBool (a:=m) (b:=n) (Qdj _ _ _ _) (Qdj _ _ _ _) ?_));rw[QaK (hm z)];refine PySem.W.kat_yes (PySem.W.kat_nil ?_);rw[z,ZeY] at h;exact h
 ·rw[QaC z];refine PySem.W.kat_no (PySem.W.kat_one _ _ ?_);refine HT.lt_tupInts (items:=ip) (items2:=iq) ⟨op,g1,g2,np,g3⟩ ⟨oq,k1,k2,nq,k3⟩ g4 k4 hu ?_;rw[ZkD];exact h
theorem ZiT (hv:∀v∈vs,∃u m,PrI s.heap v u m)(h1:vs≠ []){Q:SortKind→Shared→Prop}(h:Q (tuples' false) s):wpAny (model prog w) A (keyKind' vs.toArray) Q E s:=by
 have key:∀vs:List Value,(∀v∈vs,∃u m,PrI s.heap v u m)→∃fs:List Value,PySem.W.KatTups s.heap vs fs∧fs.length=vs.length∧∀f∈fs,∃u,Zcf s.heap f u:=by
  intro vs
  induction vs with
  |nil=>exact fun _=>⟨[],trivial,rfl,fun f m=>by cases m⟩
  |cons v vs ih=>
   intro hv;obtain⟨fs,f1,f2,f3⟩:=ih fun z m=>hv z (Qao _ m);obtain⟨u,m,a,o,ka,t,n,rfl,e,c,d,x⟩:=hv v Qai;refine⟨ka::fs,⟨⟨a,o,_,n,rfl,e,c,d,rfl⟩,f1⟩,by simp[f2],fun f q=> ?_⟩;rcases Qaz.mp q with rfl|q
   ·exact⟨u,x⟩
   ·exact f3 f q
 obtain⟨fs,f1,f2,f3⟩:=key vs hv;refine PySem.W.kat_kind (T:=.type "tuple") f1 ?_ (fun v m=> ?_) (by decide) h
 ·cases vs with
  |nil=>exact absurd rfl h1
  |cons _ _=>rw[f2];simp
 ·obtain⟨u,a,o,its,n,rfl,e,c,_⟩:=f3 v m;exact fun A Q E s k q=>QdF (T:= "tuple") ⟨o,k _ _ e,c⟩ q
def ZiU (v d:Addr):Heap→Prop:=fun h=>h.IsItemsView v d
def PrL (H:Hp)(xs:List V)(us:List (List Int×Int)):Prop:=xs.length=us.length∧∀(i:Nat) (x:V) (u:List Int×Int),xs[i]?=some x→us[i]?=some u→∃a b:Addr,x= .ref a∧H a=some (.tup [.ref b,.int u.2])∧H b=some (.tup (u.1.map V.int))
theorem ZkE (prog:Program)(w:World)(d:Addr)(hd:(d==sysModules)=false):MeetsIn prog w (Builtin.«dict.items» ⟨[.ref d],[]⟩) (fun _ R s=>s.TypeIs (.ref d) "dict" ∧R (.ok (.ret (.ref s.heap.objs.size))) {s with heap:=s.heap.push {cls:=.type "dict_items",data:=.fields #[.ref d] } }):=
 .of_wp fun A R s ⟨ty,h⟩=>by
  unfold Builtin.«dict.items» Builtin.Dict.noArgs;refine Qaa (Qaa (wpAny_notOrdered_dict ty ?_));show wpAny _ _ (pure d) _ _ s;refine Qae ?_;show wpAny _ _ (Builtin.Dict.showsAll d>>=_) _ _ s;unfold Builtin.Dict.showsAll;rw[if_neg (by rw[hd];decide)];exact Qaa (Qae (Qaa (Qbr (Qae ⟨_,rfl,h⟩))))
theorem ZkF {α β:Type}{F:α→β→Prop}{l1:List α}{l2:List β}(p:Paired F l1 l2):l1.length=l2.length∧∀(j:Nat) (a:α) (b:β),l1[j]?=some a→l2[j]?=some b→F a b:=by
 induction p with
 |nil=>exact⟨rfl,fun j a b e=>by cases e⟩
 |cons h t ih=>
  refine⟨by simp[ih.1],fun j a b e1 e2=> ?_⟩
  cases j with
  |zero=>cases e1;cases e2;exact h
  |succ j=>exact ih.2 j a b (by simpa using e1) (by simpa using e2)
def cont (h:Heap)(b:Addr):Option HO:=match h.get? b with
 |some o=>match o.data with
  | .seq its _=>match its.toList with
   | [.ref ka,.int m _]=>some (.tup [.ref ka,.int m])
   |_=>none
  |_=>none
 |none=>none
def adr:Value→Addr
 | .ref a=>a
 |_=>0
def Zbv (H:Hp)(h:Heap)(l:Addr)(al:List Addr):Hp:=fun b=>match H b with
 |some o=>some o
 |none=>if b=l then some (.lst (al.map V.ref)) else if b∈al then cont h b else none
theorem Inv.more {σ:List (Option V)}{t':Nat}(I:Inv X qc σ H s)(k:∀b u,s.heap.get? b=some u→h'.get? b=some u)(old:∀b o,H b=some o→H' b=some o)(new:∀b o,H b=none→H' b=some o→s.heap.get? b=none∧Zbm X.prog X.w H' h' b o):Inv X qc σ H' {s with heap:=h',toks:=t' }:=by
 refine I.un ⟨fun b u q _ _ _=>k b u q,fun b u q _ _ _=>⟨u.slots,k b u q⟩,fun b u q n _=> ?_,fun b u q _=>⟨u,k b u q⟩,fun b xs q=>old b _ q,fun b u xs q=>old b _ q,fun b ps q=>⟨#[],by rw[old b _ q];simp⟩⟩ fun b o e=> ?_
 ·cases z:H' b with
  |none=>rfl
  |some o=>rw[(new b o n z).1] at q;cases q
 ·cases z:H b with
  |none=>exact(new b o z e).2
  |some o'=>
   have:=old b o' z;rw[e] at this;cases this;exact(I.hok b o z).stay (fun c v _ q=>k c v q) (fun c q=>old c _ q) fun c xs q=>old c _ q
def ZkG (td:TE):TE:=fun σ H Q=>td σ H fun x H1=>∃d kvs,x= .ref d∧H1 d=some (.dT kvs)∧∀v,H1 v=none→Q (.ref v) (upd H1 v (.ext (ZiU v d)))
theorem ZkH {o:Expr}{td:TE}{qz qu:PySem.Pos}(ho:PE X o td)(hbase:attributeBase o "items" X.env (eval o X.env)=eval o X.env:=by rfl)(qC:(qz.endLine==qu.line)=true:=by rfl):PE X (.Call (.Attribute o "items" qz) [] [] qu) (ZkG td):=by
 intro qc s σ H Q I h;refine QeC hbase qC (thn (ho qc s σ H _ I h) fun u s1 ⟨x,H1,I1,rx,d,kvs,ex,hd,q⟩=> ?_);subst ex;cases rx;obtain⟨t1,t2,t3⟩:=Znl I1 (.inr ⟨kvs,.inl hd⟩);refine⟨"dict", "dict.items",QeJ,QeM,PySem.F.type_dict_items,t1,t2,QcP rfl (PySem.evalArgs_none ?_)⟩;refine QfI QeM t1 PySem.F.entry_dict_items (PySem.F.args_dict_items_1 _) (ZkE X.prog X.w d t3) ⟨t1,?_⟩;have g:(s1.heap.push {cls:=.type "dict_items",data:=.fields #[.ref d] }).get? s1.heap.objs.size=some {cls:=.type "dict_items",data:=.fields #[.ref d] }:=Qaw _ rfl;exact⟨.ref s1.heap.objs.size,_,I1.laid (t':=s1.toks) (o:=.ext (ZiU s1.heap.objs.size d)) (fun b o e=>Qad _ e) (Qak _) ⟨⟨_,g,rfl,rfl⟩,⟨_,g⟩,fun h1 h2 ⟨ob,e,c⟩ k=>⟨ob,k ob e,c⟩⟩,rfl,q _ (I1.hok.fresh (Qak _))⟩
def Zgn (ks:List (List Int×Int))(u:List Int)(z:Int):List (List Int×Int):=if(ks.any fun k=>decide (k.1=u))=true then ks.map fun k=>if k.1=u then(k.1,z) else k else ks++ [(u,z)]
def Zdn (ks:List (List Int×Int))(u:List Int):Int:=((ks.find? fun k=>decide (k.1=u)).map (·.2)).getD 0
def emb (k:List Int×Int):List Key×V:=(k.1.map Sum.inl,V.int k.2)
theorem ZrR:∀{u v:List Int},u.map (Sum.inl:Int→Key)=v.map Sum.inl→u=v
 | [],[],_=>rfl
 | [],_::_,h=>by cases h
 |_::_,[],h=>by cases h
 |a::u,b::v,h=>by
  rw[QaV,QaV] at h;obtain⟨h1,h2⟩:=List.cons.inj h;rw[ZrR h2,Qfs h1]
theorem Zg0 (k:List Int×Int)(u:List Int):decide ((emb k).1=u.map Sum.inl)=decide (k.1=u):=by
 by_cases h:k.1=u
 ·rw[QaK h];exact QaK (by unfold emb;rw[h])
 ·rw[QaC h];exact QaC fun q=>h (ZrR q)
theorem Zoz (ks:List (List Int×Int))(u:List Int):((ks.map emb).any fun k=>decide (k.1=u.map Sum.inl))=ks.any fun k=>decide (k.1=u):=by
 induction ks with
 |nil=>rfl
 |cons k ks ih=>rw[QaV,Qcy,Qcy,ih,Zg0]
theorem ZoA (ks:List (List Int×Int))(u:List Int)(z:Int):Zet (ks.map emb) (u.map Sum.inl) (V.int z)=(Zgn ks u z).map emb:=by
 unfold Zet Zgn;rw[Zoz];by_cases h:(ks.any fun k=>decide (k.1=u))=true
 ·rw[if_pos h,if_pos h,QbV,QbV];refine QcM fun k _=> ?_;show(if(emb k).1=u.map Sum.inl then((emb k).1,V.int z) else emb k)=emb (if k.1=u then(k.1,z) else k);have e:=Zg0 k u;by_cases q:k.1=u
  ·rw[if_pos q,if_pos (QaQ (by rw[e];exact QaK q))];rfl
  ·rw[if_neg q,if_neg (Qa5 (by rw[e];exact QaC q))]
 ·rw[if_neg h,if_neg h,QaG];rfl
theorem ZoB (ks:List (List Int×Int))(u:List Int):(Zdm (ks.map emb) (u.map Sum.inl)).getD (.int 0)=V.int (Zdn ks u):=by
 induction ks with
 |nil=>rfl
 |cons k ks ih=>
  rw[QaV];have e:=Zg0 k u;unfold Zdn;rw[Qch];by_cases q:k.1=u
  ·rw[QaK q];rw[Zba (QaQ (by rw[e];exact QaK q))];rfl
  ·rw[QaC q];rw[Zbb (Qa5 (by rw[e];exact QaC q))];exact ih
theorem Zmr (ks:List (List Int×Int))(u:List Int)(z:Int):(Zgn ks u z).length≤ks.length+1:=by
 unfold Zgn;split
 ·rw[Qac];omega
 ·rw[Qag];exact Qak _
def ZkI (W:List (Int×List Int))(u:List Int):Int:=((W.filter fun e=>decide (e.2=u)).map (·.1)).sum
theorem ZkJ (W:List (Int×List Int))(e:Int×List Int)(u:List Int):ZkI (W++ [e]) u=ZkI W u+if e.2=u then e.1 else 0:=by
 unfold ZkI;rw[List.filter_append,QaG,QcZ];by_cases h:e.2=u
 ·rw[if_pos h];simp[h]
 ·rw[if_neg h];simp[h]
theorem ZkK (h:u∉W.map (·.2)):ZkI W u=0:=by
 unfold ZkI
 have:W.filter (fun e=>decide (e.2=u))=[]:=List.filter_eq_nil_iff.mpr fun e he=>by
  intro q;exact h (QaS.mpr ⟨e,he,QaQ q⟩)
 rw[this];rfl
structure DIs (W:List (Int×List Int))(ks:List (List Int×Int)):Prop where
 nd:(ks.map (·.1)).Nodup
 mem:∀u,u∈ks.map (·.1)↔u∈W.map (·.2)
 val:∀k∈ks,k.2=ZkI W k.1
 len:ks.length≤W.length
theorem DIs.nil:DIs [] []:=⟨Qcs,fun u=>Iff.rfl,fun k h=>(by cases h),Qak _⟩
theorem DIs.get (d:DIs W ks)(u:List Int):Zdn ks u=ZkI W u:=by
 unfold Zdn
 cases h:ks.find? fun k=>decide (k.1=u) with
 |none=>
  rw[ZkK]
  ·rfl
  ·intro q;obtain⟨k,hk,e⟩:=QaS.mp ((d.mem u).mpr q)
   have:=Qef.mp h k hk;exact this (QaK e)
 |some k=>
  have e:=List.find?_some h;have m:=List.mem_of_find?_eq_some h;have e:k.1=u:=QaQ e;show k.2=_;rw[d.val k m,e]
theorem DIs.put (d:DIs W ks)(e:Int×List Int):DIs (W++ [e]) (Zgn ks e.2 (Zdn ks e.2+e.1)):=by
 have gt:=d.get e.2
 have mk:(ks.any fun k=>decide (k.1=e.2))=true↔e.2∈ks.map (·.1):=by
  rw[List.any_eq_true,QaS];constructor
  ·rintro⟨k,hk,q⟩;exact⟨k,hk,QaQ q⟩
  ·rintro⟨k,hk,q⟩;exact⟨k,hk,QaK q⟩
 refine⟨?_,fun u=> ?_,fun k hk=> ?_,?_⟩
 ·unfold Zgn;by_cases h:(ks.any fun k=>decide (k.1=e.2))=true
  ·rw[if_pos h,QbV]
   have:(fun k:List Int×Int=>k.1) ∘ (fun k=>if k.1=e.2 then(k.1,Zdn ks e.2+e.1) else k)=fun k=>k.1:=by
    funext k
    show(if k.1=e.2 then(k.1,Zdn ks e.2+e.1) else k).1=k.1;split<;>rfl
   rw[this];exact d.nd
  ·rw[if_neg h,QaG];refine Qcc.mpr ⟨d.nd,by simp,fun a ha b hb=> ?_⟩;have hb:b=e.2:=by simpa using hb
   rintro rfl;exact h (mk.mpr (hb ▸ ha))
 ·rw[QaG,Qaq]
  have:u∈(Zgn ks e.2 (Zdn ks e.2+e.1)).map (·.1)↔u∈ks.map (·.1)∨u=e.2:=by
   unfold Zgn;by_cases h:(ks.any fun k=>decide (k.1=e.2))=true
   ·rw[if_pos h,QbV]
    have q:(fun k:List Int×Int=>k.1) ∘ (fun k=>if k.1=e.2 then(k.1,Zdn ks e.2+e.1) else k)=fun k=>k.1:=by
     funext k
     show(if k.1=e.2 then(k.1,Zdn ks e.2+e.1) else k).1=k.1;split<;>rfl
    rw[q];constructor
    ·exact .inl
    ·rintro(z|z)
     ·exact z
     ·rw[z];exact mk.mp h
   ·rw[if_neg h,QaG,Qaq];simp
  rw[this,d.mem u];simp
 ·rw[ZkJ];unfold Zgn at hk;by_cases h:(ks.any fun k=>decide (k.1=e.2))=true
  ·rw[if_pos h] at hk;obtain⟨k',hk',rfl⟩:=QaS.mp hk;by_cases q:k'.1=e.2
   ·rw[if_pos q];show Zdn ks e.2+e.1=ZkI W k'.1+if e.2=k'.1 then e.1 else 0;rw[if_pos q.symm,gt,q]
   ·rw[if_neg q,if_neg (fun z=>q z.symm),QfK];exact d.val k' hk'
  ·rw[if_neg h] at hk;rcases Qaq.mp hk with hk|hk
   ·rw[if_neg,QfK]
    ·exact d.val k hk
    ·intro z;exact h (mk.mpr (QaS.mpr ⟨k,hk,z.symm⟩))
   ·rw[Qaj.mp hk];show Zdn ks e.2+e.1=_;rw[if_pos rfl,gt]
 ·have:=Zmr ks e.2 (Zdn ks e.2+e.1)
  have:=d.len;rw[Qag];simp only[QaM,QbM];omega
def Zgo (lo:Int)(n:Nat):List Int:=(List.range n).map fun(i:Nat)=>lo+(i:Int)
theorem Zeh (hc:X.calm=true):ZcE X (.type "list") (fun xs H Q=>∃(p:Addr) (i j:Int),xs=[.ref p]∧H p=some (.rng i j)∧-1000≤i∧i≤j∧j≤1000∧∀l,H l=none→Q (.ref l) (upd H l (.lst ((Zgo i (j-i).toNat).map V.int)))):=by
 intro qc s σ H xs us Q I r h;obtain⟨p,lo,j,rfl,hp,h0,h1,h2,q⟩:=h;obtain⟨u,rfl,rx⟩:=ZcZ r;cases rx;obtain⟨t,u,v,e⟩:=I.hok p _ hp;refine call_list_range (n:=(j-lo).toNat) (I.ok.hd hc) e (small_one (by omega) (by omega) (by omega) (by omega)) (by rw[rangeSize_one];split<;>omega) (by omega) fun h' tk acc' c' hk hS hacc=> ?_;have hln:((Zgo lo (j-lo).toNat).map V.int).length=acc'.toList.length:=by unfold Zgo;simp[hacc.1]
 refine⟨.ref _,_,I.laid (o:=.lst ((Zgo lo (j-lo).toNat).map V.int)) hk (Qak _) ⟨?_,acc'.toList,c',ZaR.of_get hln fun i x w' e1 e2=> ?_,by simpa using hS⟩,rfl,q _ (I.hok.fresh (Qak _))⟩
 ·unfold Zgo;rw[Qac,Qac,QbB];exact QaE (show(j-lo).toNat≤2000 by omega) (by decide)
 ·have hi:i<(j-lo).toNat:=by
   have:=(Qaf.mp e1).1;unfold Zgo at this;rw[Qac,Qac,QbB] at this;exact this
  unfold Zgo at e1;rw[Qam,Qam,QcL hi] at e1;cases e1;obtain⟨tk',z⟩:=hacc.2 i w' (by simpa using e2);rw[z];exact⟨tk',by simp⟩
theorem Zh8 {K:PySem.W.Frag}{tg l:Expr}{tl:TE}(hl:PE X l tl)(hK:X.K=K:=by rfl):PI X tg l (ZbO K tl):=by subst hK;exact ZaT hl
inductive Zc9 {α:Type} (R:α→α→Prop):α→α→Prop where
 |refl (a:α):Zc9 R a a
 |step {a b c:α}:Zc9 R a b→R b c→Zc9 R a c
section
variable {α β:Type}{R:α→α→Prop}
theorem Zc9.trans {a b c:α}(h:Zc9 R a b)(k:Zc9 R b c):Zc9 R a c:=by
 induction k with
 |refl=>exact h
 |step _ r ih=>exact .step ih r
theorem Zc9.one {a b:α}(h:R a b):Zc9 R a b:=.step (.refl a) h
theorem Zc9.symm (hs:∀a b,R a b→R b a){a b:α}(h:Zc9 R a b):Zc9 R b a:=by
 induction h with
 |refl=>exact .refl _
 |step _ r ih=>exact(Zc9.one (hs _ _ r)).trans ih
theorem Zc9.closed {P:α→Prop}(hp:∀a b,P a→R a b→P b){a b:α}(h:Zc9 R a b)(ha:P a):P b:=by
 induction h with
 |refl=>exact ha
 |step _ r ih=>exact hp _ _ ih r
theorem Zc9.imp {S:α→α→Prop}(hi:∀a b,R a b→S a b){a b:α}(h:Zc9 R a b):Zc9 S a b:=by
 induction h with
 |refl=>exact .refl _
 |step _ r ih=>exact .step ih (hi _ _ r)
structure Zb8 (R:α→α→Prop)(ts:List α)(hs:List (List α)):Prop where
 perm:hs.flatten.Perm ts
 ne:∀h∈hs,h≠ []
 conn:∀h∈hs,∀x∈h,∀y∈h,Zc9 R x y
 closed:∀h∈hs,∀x∈h,∀y,R x y→y∈h
theorem Zb8.nil:Zb8 R [] []:=⟨.refl _,fun _ h=>(by cases h),fun _ h=>(by cases h),fun _ h=>(by cases h)⟩
theorem Zb8.mem {ts:List α}{hs:List (List α)}(p:Zb8 R ts hs){x:α}(hx:x∈ts):∃h∈hs,x∈h:=by
 have:=p.perm.symm.subset hx;obtain⟨h,h1,h2⟩:=Qbt.mp this;exact⟨h,h1,h2⟩
theorem Zb8.class {ts:List α}{hs:List (List α)}(p:Zb8 R ts hs){h:List α}(hh:h∈hs){x:α}(hx:x∈h)(y:α):y∈h↔Zc9 R x y:=
 ⟨fun hy=>p.conn h hh x hx y hy,fun c=>c.closed (P:=fun z=>z∈h) (fun a b ha r=>p.closed h hh a ha b r) hx⟩
theorem Zb8.ts {ts us:List α}{hs:List (List α)}(p:Zb8 R ts hs)(q:ts.Perm us):Zb8 R us hs:=⟨p.perm.trans q,p.ne,p.conn,p.closed⟩
theorem Zb9 {a b:List α} [DecidableEq α](ha:a.Nodup)(hb:b.Nodup)(h:∀x,x∈a↔x∈b):a.Perm b:=by
 rw[List.perm_iff_count];intro x;by_cases hx:x∈a
 ·rw[ha.count,if_pos hx,hb.count,if_pos ((h x).mp hx)]
 ·rw[List.count_eq_zero.mpr hx,List.count_eq_zero.mpr fun z=>hx ((h x).mpr z)]
theorem Zda:∀{hs:List (List α)},hs.flatten.Nodup→∀{h:List α},h∈hs→h.Nodup
 | [],_,_,hh=>by cases hh
 |a::hs,n,h,hh=>by
  rw[Qbq,Qcc] at n;rcases Qaz.mp hh with e|e
  ·rw[e];exact n.1
  ·exact Zda n.2.1 e
theorem Zb8.same [DecidableEq α]{ts:List α}{hs gs:List (List α)}(p:Zb8 R ts hs)(q:Zb8 R ts gs)(n:ts.Nodup){h:List α}(hh:h∈hs):∃g∈gs,h.Perm g:=by
 cases e:h with
 |nil=>exact absurd e (p.ne h hh)
 |cons x t=>
  have hx:x∈h:=by rw[e];exact Qai
  obtain⟨g,hg,xg⟩:=q.mem (p.perm.subset (Qbt.mpr ⟨h,hh,hx⟩));refine⟨g,hg,?_⟩;rw[←e];exact Zb9 (Zda (p.perm.nodup_iff.mpr n) hh) (Zda (q.perm.nodup_iff.mpr n) hg) fun y=>by rw[p.class hh hx,q.class hg xg]
theorem Zca:∀{hs:List (List α)},hs.flatten.Nodup→(∀h∈hs,h≠ [])→hs.Nodup
 | [],_,_=>QdC
 |h::hs,n,ne=>by
  rw[Qbq,Qcc] at n;refine Qcu.mpr ⟨fun z=> ?_,Zca n.2.1 fun g hg=>ne g (Qao _ hg)⟩
  cases e:h with
  |nil=>exact ne h Qai e
  |cons x t=>
   have hx:x∈h:=by rw[e];exact Qai
   exact n.2.2 x hx x (Qbt.mpr ⟨h,z,hx⟩) rfl
theorem Zb8.uni [DecidableEq α]{lt:α→α→Prop}{ll:List α→List α→Prop}(uni:∀a b:List α,a.Perm b→a.Pairwise lt→b.Pairwise lt→a=b)(unl:∀a b:List (List α),a.Perm b→a.Pairwise ll→b.Pairwise ll→a=b)
  {ts:List α} {hs gs:List (List α)} (p:Zb8 R ts hs) (q:Zb8 R ts gs) (n:ts.Nodup) (h1:∀h∈hs,h.Pairwise lt) (g1:∀g∈gs,g.Pairwise lt) (h2:hs.Pairwise ll) (g2:gs.Pairwise ll):hs=gs:=by
 refine unl hs gs (Zb9 (Zca (p.perm.nodup_iff.mpr n) p.ne) (Zca (q.perm.nodup_iff.mpr n) q.ne) fun x=>⟨fun hx=> ?_,fun hx=> ?_⟩) h2 g2
 ·obtain⟨g,hg,z⟩:=p.same q n hx;rw[uni x g z (h1 x hx) (g1 g hg)];exact hg
 ·obtain⟨g,hg,z⟩:=q.same p n hx;rw[uni x g z (g1 x hx) (h1 g hg)];exact hg
end
inductive Itm (H:Hp):Bool→V→List Int→Prop where
 |int (i:Int):Itm H false (.int i) [i]
 |tup {a:Addr} {u:List Int}:H a=some (.tup (u.map V.int))→Itm H true (.ref a) u
def ItL (H:Hp)(tp:Bool)(xs:List V)(us:List (List Int)):Prop:=xs.length=us.length∧∀(i:Nat) (x:V) (u:List Int),xs[i]?=some x→us[i]?=some u→Itm H tp x u
theorem Itm.up {x:V}(h:Itm H tp x u)(t:Za8 H H'):Itm H' tp x u:=by
 cases h with
 |int i=>exact .int i
 |tup e=>exact .tup (t _ _ e)
theorem ItL.up {H H':Hp}{tp:Bool}{xs:List V}{us:List (List Int)}(h:ItL H tp xs us)(t:Za8 H H'):ItL H' tp xs us:=⟨h.1,fun i x u h1 h2=>(h.2 i x u h1 h2).up t⟩
theorem ItL.nil (H:Hp)(tp:Bool):ItL H tp [] []:=⟨rfl,fun i x u h=>by cases h⟩
theorem ItL.cons {x:V}{xs:List V}(a:Itm H tp x u)(h:ItL H tp xs us):ItL H tp (x::xs) (u::us):=by
 refine⟨by simp[h.1],fun i y v h1 h2=> ?_⟩
 cases i with
 |zero=>cases h1;cases h2;exact a
 |succ i=>exact h.2 i y v (by simpa using h1) (by simpa using h2)
theorem ItL.head {x:V}{xs:List V}(h:ItL H tp (x::xs) (u::us)):Itm H tp x u:=h.2 0 x u rfl rfl
theorem ItL.tail {x:V}{xs:List V}(h:ItL H tp (x::xs) (u::us)):ItL H tp xs us:=
 ⟨by simpa using h.1,fun i y v h1 h2=>h.2 (i+1) y v (by simpa using h1) (by simpa using h2)⟩
theorem ItL.append {xs ys:List V}{vs:List (List Int)}(h:ItL H tp xs us)(k:ItL H tp ys vs):ItL H tp (xs++ys) (us++vs):=by
 refine⟨by simp[h.1,k.1],fun i x u h1 h2=> ?_⟩;by_cases c:i<xs.length
 ·rw[QaF c] at h1;rw[QaF (h.1 ▸ c)] at h2;exact h.2 i x u h1 h2
 ·rw[Qav (by omega)] at h1;rw[Qav (by rw[←h.1];omega),←h.1] at h2;exact k.2 _ x u h1 h2
theorem TuL.it {xs:List V}(h:TuL H xs us):ItL H true xs us:=⟨h.1,fun i x u h1 h2=>by
 obtain⟨a,rfl,e⟩:=h.2 i x u h1 h2
 exact .tup e⟩
theorem ItL.tu {xs:List V}(h:ItL H true xs us):TuL H xs us:=⟨h.1,fun i x u h1 h2=>by
 cases h.2 i x u h1 h2 with
 |tup e=>exact⟨_,rfl,e⟩⟩
def LsL (H:Hp)(tp:Bool)(ys:List V)(uss:List (List (List Int))):Prop:=ys.length=uss.length∧∀(i:Nat) (y:V) (us:List (List Int)),ys[i]?=some y→uss[i]?=some us→∃(a:Addr) (xs:List V),y= .ref a∧H a=some (.lst xs)∧ItL H tp xs us
theorem LsL.up {H H':Hp}{tp:Bool}{ys:List V}{uss:List (List (List Int))}(h:LsL H tp ys uss)(s:Zam H H'):LsL H' tp ys uss:=⟨h.1,fun i y us h1 h2=>by
 obtain⟨a,xs,rfl,e,k⟩:=h.2 i y us h1 h2
 exact⟨a,xs,rfl,s _ _ e,k.up s.tups⟩⟩
theorem LsL.nil (H:Hp)(tp:Bool):LsL H tp [] []:=⟨rfl,fun i x u h=>by cases h⟩
theorem LsL.snoc {ys xs:List V}(h:LsL H tp ys uss)(ha:H a=some (.lst xs))(k:ItL H tp xs us):LsL H tp (ys++ [.ref a]) (uss++ [us]):=by
 refine⟨by simp[h.1],fun i y vs h1 h2=> ?_⟩;by_cases il:i<ys.length
 ·rw[QaF il] at h1;rw[QaF (h.1 ▸ il)] at h2;exact h.2 i y vs h1 h2
 ·rw[Qav (by omega)] at h1;rw[Qav (by rw[←h.1];omega),←h.1] at h2
  cases e:i-ys.length with
  |zero=>
   rw[e] at h1 h2;cases h1;cases h2;exact⟨a,xs,rfl,ha,k⟩
  |succ j=>rw[e] at h1;cases h1
theorem Zms {st:List Stmt}:PSs X st (fun _ _ _=>False):=fun _ _ _ _ _ _ h=>h.elim
theorem Zam.nw (a:Zam H H')(h:H' p=none):Zam H (upd H' p o):=fun c u e=>by
 have:=a c u e;rw[Zak (Zah this h)];exact this
theorem Zam.ow (a:Zam H H')(h:H p=none):Zam H (upd H' p o):=fun c u e=>by
 rw[Zak (Zah e h)];exact a c u e
def RL (L:List (List Int×List Int))(u v:List Int):Prop:=(u,v)∈L∨(v,u)∈L
theorem LsL.set {ys xs zs:List V}(h:LsL H tp ys uss)(hl:H l=some (.lst xs))(av:∀y∈ys,y≠ .ref l):LsL (upd H l (.lst zs)) tp ys uss:=⟨h.1,fun i y us h1 h2=>by
 obtain⟨a,xs',rfl,e,k⟩:=h.2 i y us h1 h2
 have na:a≠l:=fun z=>av _ (Qap h1) (by rw[z])
 exact⟨a,xs',rfl,by rw[Zak na];exact e,k.up (Za8.lst (Za8.refl H) hl)⟩⟩
theorem TuL.take {xs:List V}(h:TuL H xs us){x:V}(e:xs[i]?=some x):∃u a,us[i]?=some u∧x= .ref a∧H a=some (.tup (u.map V.int)):=by
 have il:i<us.length:=by rw[←h.1];exact(Qaf.mp e).1
 obtain⟨a,ea,ha⟩:=h.2 i x _ e (Qab il);exact⟨us[i],a,Qab il,ea,ha⟩
theorem LsL.put {ys xs:List V}{k:Nat}{x:V}(h:LsL H tp ys uss)(nd:ys.Nodup)(ek:ys[k]?=some (.ref a))(eu:uss[k]?=some us)(ha:H a=some (.lst xs))(i:Itm H tp x u):LsL (upd H a (.lst (xs++ [x]))) tp ys (uss.set k (us++ [u])):=by
 have t:Za8 H (upd H a (.lst (xs++ [x]))):=Za8.lst (Za8.refl H) ha;have kl:k<uss.length:=(Qaf.mp eu).1;refine⟨by rw[QcU];exact h.1,fun j y vs h1 h2=> ?_⟩;rw[Qez] at h2;by_cases e:k=j
 ·subst e;rw[if_pos rfl,if_pos kl] at h2;cases h2;rw[ek] at h1;cases h1;obtain⟨a',xs',ea,ha',it⟩:=h.2 k _ us ek eu;cases ea;rw[ha] at ha';cases ha';exact⟨a,xs++ [x],rfl,Zab,(it.append (ItL.cons i (ItL.nil _ _))).up t⟩
 ·rw[if_neg e] at h2;obtain⟨a',xs',ea,ha',it⟩:=h.2 j y vs h1 h2
  have na:a'≠a:=fun z=>by
   rw[ea,z] at h1;have l1:=(Qaf.mp ek);have l2:=(Qaf.mp h1);exact e ((QeO nd).mp (l1.2.trans l2.2.symm))
  exact⟨a',xs',ea,by rw[Zak na];exact ha',it.up t⟩
def nc (m:Nat):List Int:=[(m:Int)]
def RD (D:List (Nat×Nat))(u v:Nat):Prop:=(u,v)∈D
def Zcx (L:List (Nat×Nat)):List (Nat×Nat):=(L.map fun p=>[p,(p.2,p.1)]).flatten
theorem ZkL (L:List (Nat×Nat))(p:Nat×Nat):Zcx (L++ [p])=Zcx L++ [p]++ [(p.2,p.1)]:=by simp[Zcx]
theorem Zmt (L:List (Nat×Nat)):(Zcx L).length=2*L.length:=by
 induction L with
 |nil=>rfl
 |cons p L ih=>
  have:Zcx (p::L)=[p,(p.2,p.1)]++Zcx L:=by simp[Zcx]
  rw[this,Qag,ih,QaM,QaM,QaM,QbM];omega
theorem ZdB {u v:Nat}:(u,v)∈Zcx L↔(u,v)∈L∨(v,u)∈L:=by
 unfold Zcx;simp only[Qbt,QaS];constructor
 ·rintro⟨l,⟨⟨a,b⟩,hp,rfl⟩,h⟩;simp at h;rcases h with⟨rfl,rfl⟩|⟨rfl,rfl⟩
  ·exact .inl hp
  ·exact .inr hp
 ·rintro(h|h)
  ·exact⟨_,⟨_,h,rfl⟩,by simp⟩
  ·exact⟨_,⟨_,h,rfl⟩,by simp⟩
structure BsI (n:Nat)(D:List (Nat×Nat))(gs:List (List (List Int))):Prop where
 len:gs.length=n
 at':∀k,k<n→∃ms:List Nat,gs[k]?=some (ms.map nc)∧ms.length≤D.length∧∀j,j∈ms↔(k,j)∈D
theorem BsI.put (h:BsI n D gs){a b:Nat}(ha:a<n)(e:gs[a]?=some us):BsI n (D++ [(a,b)]) (gs.set a (us++ [nc b])):=by
 refine⟨by rw[QcU,h.len],fun k hk=> ?_⟩;obtain⟨ms,e1,l1,m1⟩:=h.at' k hk;rw[Qez];by_cases c:a=k
 ·subst c;rw[e] at e1;cases e1;refine⟨ms++ [b],?_,?_,fun j=> ?_⟩
  ·rw[if_pos rfl,if_pos (by rw[h.len];exact hk)];simp
  ·rw[Qag,Qag];exact Nat.add_le_add_right l1 _
  ·simp[m1]
 ·refine⟨ms,by rw[if_neg c];exact e1,by rw[Qag];omega,fun j=> ?_⟩;rw[m1,Qaq];refine⟨.inl,fun z=>z.elim id fun z=> ?_⟩;simp at z;exact absurd z.1.symm c
theorem ZdC {k:Nat}(hg:g<b.length):(b.set g true)[k]?=some true↔k=g∨b[k]?=some true:=by
 rw[Qez];by_cases c:g=k
 ·subst c;rw[if_pos rfl,if_pos hg];simp
 ·rw[if_neg c];exact⟨.inr,fun z=>z.elim (fun e=>absurd e.symm c) id⟩
structure RmI (n:Nat)(D:List (Nat×Nat))(b0 b:List Bool)(s:Nat)(vs as:List Nat)(pl:Option Nat):Prop where
 len:b.length=n
 seen:∀k,k<n→(b[k]?=some true↔b0[k]?=some true∨k∈vs)
 nd:vs.Nodup
 lt:∀k∈vs,k<n
 new:∀k∈vs,b0[k]?≠some true
 start:s∈vs
 conn:∀k∈vs,Zc9 (RD D) s k
 sub:∀k∈as,k∈vs
 done:∀k∈vs,k∉as→pl≠some k→∀j,(k,j)∈D→b[j]?=some true
section
variable {s p:Nat}{vs:List Nat}{pl:Option Nat}
theorem RmI.size (h:RmI n D b0 b s vs as pl):vs.length≤n:=by
 have:=Zcl (m:=List.range n) h.nd fun x hx=>Qa1.mpr (h.lt x hx)
 rwa [QbB] at this
theorem RmI.init (hl:b0.length=n)(hs:s<n)(e:b0[s]?=some false):RmI n D b0 (b0.set s true) s [s] [s] none where
 len:=by rw[QcU,hl]
 seen:=fun k hk=>by
  rw[ZdC (by omega)];simp;exact⟨fun z=>z.elim .inr .inl,fun z=>z.elim .inr .inl⟩
 nd:=by simp
 lt:=fun k hk=>by rw[Qaj.mp hk];exact hs
 new:=fun k hk=>by rw[Qaj.mp hk,e];simp
 start:=by simp
 conn:=fun k hk=>by rw[Qaj.mp hk];exact .refl _
 sub:=fun k hk=>hk
 done:=fun k hk ha=>absurd hk ha
theorem RmI.pop (h:RmI n D b0 b s vs (as++ [p]) none):RmI n D b0 b s vs as (some p)∧p∈vs:=
 ⟨⟨h.len,h.seen,h.nd,h.lt,h.new,h.start,h.conn,fun k hk=>h.sub k (Qat _ hk),fun k hk ha hp=>h.done k hk (fun z=>by
  rcases Qaq.mp z with z|z
  ·exact ha z
  ·exact hp (by rw[Qaj.mp z])) (by simp)⟩,h.sub p (by simp)⟩
theorem RmI.add (h:RmI n D b0 b s vs as pl)(hp:p∈vs)(hg:(p,g)∈D)(gl:g<n)(e:b[g]?=some false):RmI n D b0 (b.set g true) s (vs++ [g]) (as++ [g]) pl:=by
 have hb:g<b.length:=by rw[h.len];exact gl
 have ng:g∉vs:=fun z=>by
  have:=(h.seen g gl).mpr (.inr z);rw[e] at this;cases this
 refine⟨by rw[QcU,h.len],fun k hk=> ?_,?_,fun k hk=> ?_,fun k hk=> ?_,Qat _ h.start,fun k hk=> ?_,fun k hk=> ?_,fun k hk ha hp' j hj=> ?_⟩
 ·rw[ZdC hb,h.seen k hk,Qaq,Qaj];exact⟨fun z=>z.elim (fun z=> .inr (.inr z)) fun z=>z.elim .inl fun z=> .inr (.inl z),fun z=>z.elim (fun z=> .inr (.inl z)) fun z=>z.elim (fun z=> .inr (.inr z)) .inl⟩
 ·rw[Qcc];exact⟨h.nd,by simp,fun x hx y hy e=>ng (by rw[←Qaj.mp hy,←e];exact hx)⟩
 ·rcases Qaq.mp hk with z|z
  ·exact h.lt k z
  ·rw[Qaj.mp z];exact gl
 ·rcases Qaq.mp hk with z|z
  ·exact h.new k z
  ·rw[Qaj.mp z];intro q
   have:=(h.seen g gl).mpr (.inl q);rw[e] at this;cases this
 ·rcases Qaq.mp hk with z|z
  ·exact h.conn k z
  ·rw[Qaj.mp z];exact .step (h.conn p hp) hg
 ·rcases Qaq.mp hk with z|z
  ·exact Qat _ (h.sub k z)
  ·exact Qah _ z
 ·rw[ZdC hb];rcases Qaq.mp hk with z|z
  ·exact .inr (h.done k z (fun q=>ha (Qat _ q)) hp' j hj)
  ·exact absurd (Qah _ z) ha
theorem RmI.fin (h:RmI n D b0 b s vs as (some p))(hd:∀j,(p,j)∈D→b[j]?=some true):RmI n D b0 b s vs as none:=
 ⟨h.len,h.seen,h.nd,h.lt,h.new,h.start,h.conn,h.sub,fun k hk ha _ j hj=>by
  by_cases c:p=k
  ·subst c;exact hd j hj
  ·exact h.done k hk ha (fun e=>c (Qby e)) j hj⟩
end
structure LkI (n:Nat)(D:List (Nat×Nat))(i:Nat)(b:List Bool)(hs:List (List Nat)):Prop where
 len:b.length=n
 seen:∀k,k<n→(b[k]?=some true↔k∈hs.flatten)
 lt:∀k∈hs.flatten,k<n
 low:∀k,k<i→k∈hs.flatten
 nd:hs.flatten.Nodup
 pt:Zb8 (RD D) hs.flatten hs
 up:∀h∈hs,h.Pairwise (· < ·)
 hd:∀h∈hs,∃x t,h=x::t∧x<i
 hds:hs.Pairwise (fun g h=>∃x t y u,g=x::t∧h=y::u∧x<y)
section
variable {vs ws:List Nat}
theorem LkI.init (n:Nat)(D:List (Nat×Nat)):LkI n D 0 (List.replicate n false) [] where
 len:=by simp
 seen:=fun k hk=>by simp[QbD,hk]
 lt:=fun k hk=>by simp at hk
 low:=fun k hk=>absurd hk (Qff _)
 nd:=by simp
 pt:=.nil
 up:=fun h hh=>by simp at hh
 hd:=fun h hh=>by simp at hh
 hds:=.nil
theorem LkI.skip (h:LkI n D i b hs)(hi:i<n)(e:b[i]?=some true):LkI n D (i+1) b hs:=
 ⟨h.len,h.seen,h.lt,fun k hk=>by
  by_cases c:k=i
  ·rw[c];exact(h.seen i hi).mp e
  ·exact h.low k (by omega),h.nd,h.pt,h.up,fun g hg=>by
  obtain⟨x,t,e1,e2⟩:=h.hd g hg
  exact⟨x,t,e1,by omega⟩,h.hds⟩
theorem LkI.room (h:LkI n D i b hs)(hi:i<n)(r:RmI n D b b' i vs [] none)(pw:ws.Perm vs)(up:ws.Pairwise (· < ·))(sy:∀u v,(u,v)∈D→(v,u)∈D)(rg:∀u v,(u,v)∈D→v<n):LkI n D (i+1) b' (hs++ [ws]):=by
 have fl:(hs++ [ws]).flatten=hs.flatten++ws:=by simp
 have mw:∀k,k∈ws↔k∈vs:=fun k=>pw.mem_iff;have nn:∀k∈ws,k∉hs.flatten:=fun k hk z=>r.new k ((mw k).mp hk) ((h.seen k (r.lt k ((mw k).mp hk))).mpr z);have iw:i∈ws:=(mw i).mpr r.start
 have hd:∃t,ws=i::t:=by
  cases e:ws with
  |nil=>rw[e] at iw;cases iw
  |cons x t=>
   rw[e] at iw up;rcases Qaz.mp iw with rfl|z
   ·exact⟨t,rfl⟩
   ·have h1:x<i:=(QbL.mp up).1 i z;exact absurd (h.low x h1) (nn x (by rw[e];exact Qai))
 obtain⟨t,et⟩:=hd;refine⟨r.len,fun k hk=> ?_,fun k hk=> ?_,fun k hk=> ?_,?_,?_,fun g hg=> ?_,fun g hg=> ?_,?_⟩
 ·rw[fl,Qaq,r.seen k hk,h.seen k hk,mw]
 ·rw[fl] at hk;rcases Qaq.mp hk with z|z
  ·exact h.lt k z
  ·exact r.lt k ((mw k).mp z)
 ·rw[fl,Qaq];by_cases c:k=i
  ·rw[c];exact .inr iw
  ·exact .inl (h.low k (by omega))
 ·rw[fl,Qcc];exact⟨h.nd,pw.nodup_iff.mpr r.nd,fun x hx y hy e=>nn y hy (e ▸ hx)⟩
 ·refine⟨.refl _,fun g hg=> ?_,fun g hg x hx y hy=> ?_,fun g hg x hx y hy=> ?_⟩
  ·rcases Qaq.mp hg with z|z
   ·exact h.pt.ne g z
   ·rw[Qaj.mp z,et];simp
  ·rcases Qaq.mp hg with z|z
   ·exact h.pt.conn g z x hx y hy
   ·rw[Qaj.mp z] at hx hy;exact((r.conn x ((mw x).mp hx)).symm fun a c q=>sy a c q).trans (r.conn y ((mw y).mp hy))
  ·rcases Qaq.mp hg with z|z
   ·exact h.pt.closed g z x hx y hy
   ·rw[Qaj.mp z] at hx⊢;have yl:y<n:=rg x y hy
    have:=r.done x ((mw x).mp hx) (by simp) (by simp) y hy;rcases(r.seen y yl).mp this with q|q
    ·obtain⟨g',hg',yg⟩:=Qbt.mp ((h.seen y yl).mp q);exact absurd (Qbt.mpr ⟨g',hg',h.pt.closed g' hg' y yg x (sy x y hy)⟩) (nn x hx)
    ·exact(mw y).mpr q
 ·rcases Qaq.mp hg with z|z
  ·exact h.up g z
  ·rw[Qaj.mp z];exact up
 ·rcases Qaq.mp hg with z|z
  ·obtain⟨x,t,e1,e2⟩:=h.hd g z;exact⟨x,t,e1,by omega⟩
  ·rw[Qaj.mp z];exact⟨i,t,et,by omega⟩
 ·rw[Qcn];refine⟨h.hds,List.pairwise_singleton _ _,fun g hg g' hg'=> ?_⟩;rw[Qaj.mp hg'];obtain⟨x,u,e1,e2⟩:=h.hd g hg;exact⟨x,u,i,t,e1,et,e2⟩
theorem LkI.parts (h:LkI n D n b hs):Zb8 (RD D) (List.range n) hs:=
 h.pt.ts (Zb9 h.nd Qcw fun x=>⟨fun z=>Qa1.mpr (h.lt x z),fun z=>h.low x (Qa1.mp z)⟩)
end
theorem Zd1 {α:Type}{lt:α→α→Bool}(tot:∀{x y:α},lt x y=false→lt y x=false→x=y):∀(a b:List α),a.Perm b→a.Pairwise (fun x y=>lt y x=false)→b.Pairwise (fun x y=>lt y x=false)→a=b
 | [],b,p,_,_=>p.nil_eq
 |x::a,[],p,_,_=>absurd p.length_eq (by simp)
 |x::a,y::b,p,h1,h2=>by
  obtain⟨u1,u2⟩:=QbL.mp h1;obtain⟨v1,v2⟩:=QbL.mp h2
  have e:x=y:=by
   have m1:x∈y::b:=p.subset Qai;have m2:y∈x::a:=p.symm.subset Qai;rcases Qaz.mp m1 with q|q
   ·exact q
   rcases Qaz.mp m2 with r|r
   ·exact r.symm
   exact tot (v1 x q) (u1 y r)
  subst e;rw[Zd1 tot a b p.cons_inv u2 v2]
def nv (m:Nat):V:=.int (m:Int)
def pc (p:Nat×Nat):List Int:=[(p.1:Int),(p.2:Int)]
theorem ZkM {H:Hp}:∀{ms:List Nat} {xs:List V},ItL H false xs (ms.map nc)→xs=ms.map nv
 | [],[],_=>rfl
 | [],x::xs,h=>absurd h.1 (by simp)
 |m::ms,[],h=>absurd h.1 (by simp)
 |m::ms,x::xs,h=>by
  have h1:=h.head;have h2:=ZkM h.tail
  have:x=nv m:=by
   have key:∀{x:V} {u:List Int},Itm H false x u→∀i:Int,u=[i]→x= .int i:=fun hx i e=>by
    cases hx with
    |int j=>cases e;rfl
   exact key h1 _ rfl
  rw[this,h2];rfl
theorem Zqa {H:Hp}:∀ms:List Nat,ItL H false (ms.map nv) (ms.map nc)
 | []=>ItL.nil _ _
 |m::ms=>ItL.cons (.int _) (Zqa ms)
def ZoC (K:PySem.W.Frag):TS:=ZaX (Zbk (ZbL 1 (Zjm (Zaf (Zan 0) ZaB)) (Zar 0) Zc1 (ZeJ ZaB)) (Zar 2)) (ZaX (Zgt (ZbO K (Zan 1)) (Zjk K 2 (ZbN (Zar 3) (ZbN (Zar 4) ZlB))) (ZaX (ZeH (tBM K "list" Zb0 (tOp (ZfE K) (Zan 2) (Zan 3)) (Zaf (Zan 4) ZaB))) (ZeH (tBM K "list" Zb0 (tOp (ZfE K) (Zan 2) (Zan 4)) (Zaf (Zan 3) ZaB))))) (ZcY (Zan 2)))
def Bt (d:Addr)(H H':Hp):Prop:=∀c o,c≠d→H c=some o→H' c=some o
theorem Bt.nw (h:Bt d H H')(hp:H p=none):Bt d H (upd H' p o):=fun c u n e=>by
 rw[Zak (Zah e hp)];exact h c u n e
theorem Bt.at (h:Bt d H H'):Bt d H (upd H' d o):=fun c u n e=>by
 rw[Zak n];exact h c u n e
theorem Bt.free (h:Bt d H H')(hd:H' d=some o)(hp:H' p=none):H p=none:=by
 cases z:H p with
 |none=>rfl
 |some u=>
  have n:p≠d:=fun e=>by rw[e,hd] at hp;cases hp
  rw[h p u n z] at hp;cases hp
structure Rst (H0 H:Hp)(sn r a:Addr)(b:List Bool)(vs as:List Nat):Prop where
 old:Bt sn H0 H
 hs:H sn=some (.lst (b.map V.bl))
 hr:H r=some (.lst (vs.map nv))
 ha:H a=some (.lst (as.map nv))
 rf:H0 r=none
 af:H0 a=none
 ra:r≠a
 rs:r≠sn
 as':a≠sn
section
variable {r:Addr}{vs:List Nat}
theorem Rst.pop {p:Nat}(h:Rst H0 H sn r a b vs (as++ [p])):Rst H0 (upd H a (.lst (as.map nv))) sn r a b vs as:=
 ⟨h.old.nw h.af,by rw[Zak (Ne.symm h.as')];exact h.hs,by rw[Zak h.ra];exact h.hr,Zab,h.rf,h.af,h.ra,h.rs,h.as'⟩
theorem Rst.mark (h:Rst H0 H sn r a b vs as)(g:Nat):Rst H0 (upd H sn (.lst ((b.set g true).map V.bl))) sn r a (b.set g true) vs as:=
 ⟨h.old.at,Zab,by rw[Zak h.rs];exact h.hr,by rw[Zak h.as'];exact h.ha,h.rf,h.af,h.ra,h.rs,h.as'⟩
theorem Rst.put (h:Rst H0 H sn r a b vs as)(ws:List Nat):Rst H0 (upd H r (.lst (ws.map nv))) sn r a b ws as:=
 ⟨h.old.nw h.rf,by rw[Zak (Ne.symm h.rs)];exact h.hs,Zab,by rw[Zak (Ne.symm h.ra)];exact h.ha,h.rf,h.af,h.ra,h.rs,h.as'⟩
theorem Rst.putA (h:Rst H0 H sn r a b vs as)(ws:List Nat):Rst H0 (upd H a (.lst (ws.map nv))) sn r a b vs ws:=
 ⟨h.old.nw h.af,by rw[Zak (Ne.symm h.as')];exact h.hs,by rw[Zak h.ra];exact h.hr,Zab,h.rf,h.af,h.ra,h.rs,h.as'⟩
end
theorem ZkN {j:Nat}(h:j<n):ixN n (j:Int)=some j:=by
 unfold ixN;rw[if_pos (by omega)]
 first
  | (rw[if_pos (by omega)];simp)
  | (simp;omega)
theorem ZeC (b:List Bool)(g:Nat):(b.map V.bl).set g (.bl true)=(b.set g true).map V.bl:=by rw[List.map_set]
theorem Zmu {v:Bool}(h:b[g]?=some v):atI (b.map V.bl) (g:Int)=some (.bl v):=ZaZ (by rw[Qam,h];rfl)
theorem ZiV {vs:List Nat}{ms:List Int}(p:ms.Perm (vs.map fun m:Nat=>(m:Int)))(u:ms.Pairwise (fun x y=>x≤y))(nd:vs.Nodup):∃ws:List Nat,ms.map V.int=ws.map nv∧ws.Perm vs∧ws.Pairwise (· < ·):=by
 have e:ms=(ms.map Int.toNat).map fun m:Nat=>(m:Int):=by
  rw[QbV]
  have key:∀l:List Int,(∀i∈l,0≤i)→l=l.map ((fun m:Nat=>(m:Int)) ∘ Int.toNat):=fun l=>by
   induction l with
   |nil=>intro _;rfl
   |cons i l ih=>
    intro h;have h0:=h i Qai;rw[QaV,←ih fun j hj=>h j (Qao _ hj)];show i::l=((i.toNat:Nat):Int)::l;rw[Qb2 h0]
  refine key ms fun i hi=> ?_;obtain⟨m,_,rfl⟩:=QaS.mp (p.subset hi);exact Qeh m
 have pw:(ms.map Int.toNat).Perm vs:=by
  have:=p.map Int.toNat;rw[QbV] at this
  have e2:vs.map (Int.toNat∘ fun m:Nat=>(m:Int))=vs:=by
   rw[show(Int.toNat∘ fun m:Nat=>(m:Int))=id from funext fun m=>QbA m,List.map_id]
  rwa [e2] at this
 refine⟨ms.map Int.toNat,?_,pw,?_⟩
 ·rw[show(ms.map Int.toNat).map nv=((ms.map Int.toNat).map fun m:Nat=>(m:Int)).map V.int from by rw[QbV (f:=fun m:Nat=>(m:Int)) (g:=V.int)];rfl,←e]
 ·have nw:(ms.map Int.toNat).Nodup:=pw.nodup_iff.mpr nd;have u2:((ms.map Int.toNat).map fun m:Nat=>(m:Int)).Pairwise (fun x y=>x≤y):=by rw[←e];exact u
  rw[Qb5] at u2;exact(u2.and nw).imp fun{x y} q=>by have:=q.1;have:=q.2;omega
theorem Bt.tups {xs:List V}(h:Bt d H H')(hd:H d=some (.lst xs)):Za8 H H':=fun b ys e=>h b _ (fun z=>by rw[z,hd] at e;cases e) e
theorem LsL.bt {ys xs:List V}(h:LsL H tp ys uss)(s:Bt d H H')(hd:H d=some (.lst xs))(av:∀y∈ys,y≠ .ref d):LsL H' tp ys uss:=⟨h.1,fun i y us h1 h2=>by
 obtain⟨a,zs,rfl,e,it⟩:=h.2 i y us h1 h2
 exact⟨a,zs,rfl,s _ _ (fun z=>av _ (Qap h1) (by rw[z])) e,it.up (s.tups hd)⟩⟩
theorem LsL.avoid {ys:List V}(h:LsL H tp ys uss)(hp:H p=none):∀y∈ys,y≠ .ref p:=fun y hy e=>by
 obtain⟨j,hj⟩:=Qay.mp hy;have jl:=(Qaf.mp hj).1;obtain⟨a,xs',ea,ha,_⟩:=h.2 j y _ hj (Qab (by rw[←h.1];exact jl));rw[ea] at e;cases e;rw[hp] at ha;cases ha
theorem Zg1 {α:Type}(x:α):∀k:Nat,(List.replicate k [x]).flatten=List.replicate k x
 |0=>rfl
 |k+1=>by rw[Qbm,Qbm,Qbq,Zg1 x k];rfl
theorem Zh9:∀{vs:List Value} {ns:List Int},IntsAre vs ns→∀v∈vs,∃n t,v= .int n t
 |_,_,.nil,v,h=>by cases h
 |_,_,.cons n t r,v,h=>by
  rcases Qaz.mp h with e|e
  ·exact⟨n,t,e⟩
  ·exact Zh9 r v e
theorem ZkO (ho:s.heap.get? a=some (seqObj "list" vs.toArray n))(hI:IntsAre vs ns)(hz:vs.length≤3000)
  (h:∀(out:Array Value) (ns':List Int),IntsAre out.toList ns'→ns'.Perm ns→ns'.Pairwise (· ≤ ·)→P (.done (.ret .none)) {s with heap:=sortedHeap s.heap a vs out }):
  wpAny (model prog w) A (Builtin.«list.sort» ⟨[.ref a],[]⟩) P E s:=by
 have mz:∀p,p∈(pairsOf vs).toList→∃m t,p.1= .int m t:=fun p q=>by
  rw[QdE] at q;exact Zh9 hI _ (QfJ q).2
 refine Zd0 (k0:=oneType') (rk:=numOf) ho hz (fun h2 h' k E' Q' q=> ?_) (fun h' k E' x y Q' hx hy q=> ?_) fun xs pm up=> ?_
 ·obtain⟨v₁,v₂,rest,rfl⟩:∃v₁ v₂ rest,vs=v₁::v₂::rest:=by
   match vs,h2 with
   | [],h2=>simp at h2
   | [_],h2=>simp at h2
   |v₁::v₂::rest,_=>exact⟨v₁,v₂,rest,rfl⟩
  rw[keyKind_ints hI];exact Qae q
 ·obtain⟨m,t,ex⟩:=mz x hx;obtain⟨m',t',ey⟩:=mz y hy;rw[keyLt'_oneType,ex,ey];rw[ex,ey] at q;exact oneLt_int q
 ·obtain⟨ns',q1,q2,q3⟩:=sorted_out hI pm (fun i j hij hj=>up i j (by omega) hj);exact h _ ns' q1 q2 q3
theorem Zg2 (hl:s.heap.IsList l vs.toArray)(hI:IntsAre vs ns)(hz:vs.length≤3000)
  (h:∀(out:Array Value) (ns':List Int),IntsAre out.toList ns'→ns'.Perm ns→ns'.Pairwise (· ≤ ·)→Q (.ref (s.heap.objs.size+1)) {s with heap:=sortedAll s.heap vs out }):
  wpAny (model prog w) A (call (.builtin "sorted") [.ref l]) Q E s:=by
 have qC:vs.length≤sizeLine:=QaE hz (by decide);refine QcB Qfu Qe7 Qe8 (Qe9 _) ?_;unfold Builtin.«sorted»;refine Qaa (m:=checkCount "sorted" 1 1 _) (Qae (Qaa (collect_list hl (Qaa (QdS ?_)) (hsz:=qC))))
 have hsz:((s.heap.push (seqObj "list" #[] 0)).update s.heap.objs.size (Obj.mapSeq (· ++vs.toArray))).objs.size=s.heap.objs.size+1:=by
  rw[QdO,size_push']
 have hoL:(((s.heap.push (seqObj "list" #[] 0)).update s.heap.objs.size (Obj.mapSeq (· ++vs.toArray))).push (seqObj "list" vs.toArray 0)).get? (s.heap.objs.size+1)=some (seqObj "list" vs.toArray 0):=by
  rw[←hsz];exact Qaw _ rfl
 show wpAny _ _ _ _ _ {s with heap:=((s.heap.push (seqObj "list" #[] 0)).update s.heap.objs.size (Obj.mapSeq (· ++vs.toArray))).push (seqObj "list" vs.toArray 0) };rw[hsz];refine Qaa (Qbd (Qbj Qel ⟨_,hoL,rfl⟩ Qd2 (ZkO hoL hI hz fun out ns' a1 a2 a3=>⟨_,rfl,?_⟩) (Qem _)));exact Qae ⟨_,rfl,h out ns' a1 a2 a3⟩
theorem Zdi:ZcE X (.builtin "sorted") (fun xs H Q=>∃(p:Addr) (ns:List Int),xs=[.ref p]∧SqL X.K H p (ns.map V.int)∧ns.length≤3000∧∀(l:Addr) (ms:List Int),H l=none→ms.Perm ns→ms.Pairwise (· ≤ ·)→Q (.ref l) (upd H l (.lst (ms.map V.int)))):=by
 intro qc s σ H xs us Q I r h;obtain⟨p,ns,rfl,hq,hb,q⟩:=h;obtain⟨u,rfl,rx⟩:=ZcZ r;cases rx;obtain⟨its,rv,pl,hz⟩:=I.list hq;have hlen:its.length=ns.length:=by have:=rv.length;rw[Qac] at this;exact this.symm
 refine Zg2 (vs:=its) pl.isList (ZbV rv) (by omega) fun out ms hI hp hw=> ?_;obtain⟨e,he⟩:=sortedAll_at s.heap its out;have hl:ms.length=ns.length:=hp.length_eq;refine⟨.ref _,upd H (s.heap.objs.size+1) (.lst (ms.map V.int)),I.laid (t':=s.toks) (fun b ob z=>sortedAll_old z) (Qdy _) ⟨?_,out.toList,e,Zch hI,?_⟩,rfl,q _ ms (I.hok.fresh (Qdy _)) hp hw⟩
 ·rw[Qac,hl];exact QaE (show ns.length≤3000 from hb) (by decide)
 ·rw[he]
theorem ZnG (h:n≤100000):n<sizeLine:=QaN h (by decide)
theorem Zd2 {K:PySem.W.Frag}{k:Nat}{xs:List V}{g:TG}{Q:VK}(Pv:Nat→List V→Hp→Prop)(h0:Pv 0 [] H)(hb:xs.length≤100000)(hz:∀i ys H,Pv i ys H→ys.length≤i)(hl:∀i ys H,i≤xs.length→Pv i ys H→SqL K H a xs)
  (hs:∀i x ys H (pre:St),pre.length=k→xs[i]?=some x→Pv i ys H→g x (pre++σ) H fun σ' H2=>(∃pre':St,σ'=pre'++σ∧pre'.length=k)∧tt σ' H2 fun ok H3=>if ok=true then te σ' H3 fun y H4=>Pv (i+1) (ys++ [y]) H4 else Pv (i+1) ys H3) (hd:∀ys H,Pv xs.length ys H→∀D,H D=none→Q (.ref D) (upd H D (.lst ys))):CGo k (Itl K a) g tt te Q σ H:=by
 refine⟨fun i m ys H=>m=xs.length-i∧i≤xs.length∧Pv i ys H,⟨xs.length,by simp,QaU _,h0⟩,?_⟩;rintro i m ys H ⟨rfl,hi,p⟩;have q:=hl i ys H hi p;by_cases hlt:i<xs.length
 ·refine .inr ⟨⟨xs,xs[i],q,by simp[hlt]⟩,QaN (hz i ys H p) (ZnG (by omega)),Pv (i+1),fun zs H' p'=>⟨xs.length-(i+1),by omega,rfl,hlt,p'⟩,fun x H' pre hp y=> ?_⟩;obtain⟨e,y⟩:=y;subst e;exact hs i x ys _ pre hp (y xs q) p
 ·have e:i=xs.length:=by omega
  subst e;exact .inl ⟨⟨xs,q,Qak _⟩,hd ys H p⟩
theorem ZnH {k:Nat}{lo:Int}{g:TG}{Q:VK}(Pv:Nat→List V→Hp→Prop)(h0:Pv 0 [] H)(hb:n≤100000)(hz:∀i ys H,Pv i ys H→ys.length≤i)
  (hs:∀(i:Nat) ys H (pre:St),pre.length=k→i<n→Pv i ys H→g (.int (lo+i)) (pre++σ) H fun σ' H2=>(∃pre':St,σ'=pre'++σ∧pre'.length=k)∧tt σ' H2 fun ok H3=>if ok=true then te σ' H3 fun y H4=>Pv (i+1) (ys++ [y]) H4 else Pv (i+1) ys H3) (hd:∀ys H,Pv n ys H→∀D,H D=none→Q (.ref D) (upd H D (.lst ys))):CGo k (Itr lo n) g tt te Q σ H:=by
 refine⟨fun i m ys H=>m=n-i∧i≤n∧Pv i ys H,⟨n,by simp,QaU _,h0⟩,?_⟩;rintro i m ys H ⟨rfl,hi,p⟩;by_cases hlt:i<n
 ·refine .inr ⟨hlt,QaN (hz i ys H p) (ZnG (by omega)),Pv (i+1),fun zs H' p'=>⟨n-(i+1),by omega,rfl,hlt,p'⟩,fun x H' pre hp y=> ?_⟩;obtain⟨e,y⟩:=y;subst e y;exact hs i ys _ pre hp hlt p
 ·have e:i=n:=by omega
  subst e;exact .inl ⟨Qak _,hd ys H p⟩
theorem Ze9 {K:PySem.W.Frag}{Q:VK}{b:Addr}{ps:List V}(hb:H b=some (.lst ps))(tL:TuL H ps (L.map pc))(hn:n≤2500)(hL:L.length≤40000)(rg:∀p∈L,p.1<n∧p.2<n)
  (k:∀(c:Addr) (zs:List V) (gs:List (List (List Int))) (H':Hp),Zam H H'→H c=none→H' c=some (.lst zs)→LsL H' false zs gs→BsI n (Zcx L) gs→Q (.ref c) H'):ZoC K {nx:=Z,rt:=Q } [some (nv n),some (.ref b),none,none,none] H:=by
 have e7:((n:Int)).toNat=n:=QbA n;refine⟨_,rfl,(n:Int),rfl,by omega,by omega,ZnH (lo:=0) (n:=((n:Int)).toNat) (fun i ys H'=>LsL H' false ys (List.replicate i [])∧ys.Nodup∧Zam H H'∧∀y∈ys,∀a,y= .ref a→H a=none) ⟨LsL.nil _ _,QdC,Zam.refl H,fun y hy=>(by cases hy)⟩ (by omega) (fun i ys H' h=>by rw[h.1.1,Qax];exact Qak _) ?_ ?_⟩
 ·rintro i ys H1 pre qh hi ⟨l1,nd1,s1,f1⟩;rcases pre with _|⟨q0,_|⟨q1,pre⟩⟩
  ·cases qh
  ·refine⟨⟨[some _],rfl,rfl⟩,?_⟩;unfold Zc1;dsimp only;rw[if_pos (rfl:true=true)];refine⟨(by show 0≤sizeLine;decide),fun p hp=> ?_⟩;have s2:=Zam.nw (o:=.lst []) (Zam.refl H1) hp;refine⟨?_,?_,s1.trans s2,fun y hy a e=> ?_⟩
   ·rw[Qb9];exact LsL.snoc (l1.up s2) Zab (ItL.nil _ _)
   ·rw[Qcc];refine⟨nd1,by simp,fun y hy z hz e=> ?_⟩;rw[Qaj.mp hz] at e;obtain⟨j,hj⟩:=Qay.mp hy;have jl:=(Qaf.mp hj).1;obtain⟨a,xs',ea,ha,_⟩:=l1.2 j y _ hj (Qab (by rw[←l1.1];exact jl));rw[ea] at e;cases e;rw[hp] at ha;cases ha
   ·rcases Qaq.mp hy with z|z
    ·exact f1 y z a e
    ·rw[Qaj.mp z] at e;cases e;exact s1.free hp
  ·cases qh
 rintro zs H1 ⟨l1,nd1,s1,f1⟩ c hc;rw[e7] at l1;have s2:=Zam.nw (o:=.lst zs) (Zam.refl H1) hc;have fc:(upd H1 c (.lst zs)) c=some (.lst zs):=Zab;have cf:H c=none:=s1.free hc
 have zc:∀y∈zs,y≠ .ref c:=fun y hy e=>by
  obtain⟨j,hj⟩:=Qay.mp hy;have jl:=(Qaf.mp hj).1;obtain⟨a,xs',ea,ha,_⟩:=l1.2 j y _ hj (Qab (by rw[←l1.1];exact jl));rw[ea] at e;cases e;rw[hc] at ha;cases ha
 generalize upd H1 c (.lst zs)=H2 at s2 fc⊢;have zl:zs.length=n:=by rw[l1.1,Qax]
 have lp:ps.length=L.length:=by rw[tL.1,Qac]
 have app:∀(H':Hp) (gs:List (List (List Int))) (D:List (Nat×Nat)) (x y:Nat),x<n→D.length≤90000→Zam H H'→Za8 H2 H'→H' c=some (.lst zs)→LsL H' false zs gs→BsI n D gs→∃(a:Addr) (ax:List V) (gs':List (List (List Int))),zs[x]?=some (.ref a)∧H' a=some (.lst ax)∧ax.length<sizeLine∧Zam H (upd H' a (.lst (ax++ [nv y])))∧Za8 H2 (upd H' a (.lst (ax++ [nv y])))∧(upd H' a (.lst (ax++ [nv y]))) c=some (.lst zs)∧LsL (upd H' a (.lst (ax++ [nv y]))) false zs gs'∧BsI n (D++ [(x,y)]) gs':=by
  intro H' gs D x y hx hD s' t' hc' l' B';obtain⟨ms,eg,ml,_⟩:=B'.at' x hx;have ez:zs[x]?=some zs[x]:=Qab (by omega);obtain⟨a,ax,ea,ha,ia⟩:=l'.2 x _ _ ez eg;rw[ea] at ez;have nac:a≠c:=fun z=>zc _ (Qap ez) (by rw[z]);have af:H a=none:=f1 _ (Qap ez) a rfl;have al:ax.length≤90000:=by rw[ia.1,Qac];omega
  exact⟨a,ax,_,ez,ha,QaN al (by decide),s'.ow af,Za8.lst t' ha,by rw[Zak (Ne.symm nac)];exact hc',LsL.put l' nd1 ez eg ha (.int _),B'.put hx eg⟩
 refine⟨_,rfl,b,rfl,⟨_,SqL.of ((s1.trans s2) _ _ hb)⟩,Zbi (K:=K) (a:=b) (xs:=ps) (fun i σ H'=>∃(x3 x4:Option V) (gs:List (List (List Int))),σ=[some (nv n),some (.ref b),some (.ref c),x3,x4]∧Zam H H'∧Za8 H2 H'∧H' c=some (.lst zs)∧LsL H' false zs gs∧BsI n (Zcx (L.take i)) gs) ⟨_,_,List.replicate n [],rfl,s1.trans s2,Za8.refl _,fc,l1.up s2,⟨by rw[Qax],fun j hj=>⟨[],by rw[QbD,if_pos hj];rfl,QaU _,fun m=>by simp[Zcx]⟩⟩⟩ (fun i σ H' _ h=>by obtain⟨_,_,_,_,s',_⟩:=h;exact SqL.of (s' _ _ hb)) ?_ ?_⟩
 ·rintro i y σ H3 hy ⟨x3,x4,gs,rfl,s3,t3,hc3,l3,B3⟩;obtain⟨u,q,eu,rfl,hq⟩:=(tL.up s3.tups).take hy;rw[Qam] at eu
  cases eL:L[i]? with
  |none=>rw[eL] at eu;cases eu
  |some p=>
   rw[eL] at eu;cases eu;have mp:p∈L:=Qap eL;have il:i<L.length:=(Qaf.mp eL).1;obtain⟨r1,r2⟩:=rg p mp;have dl:(Zcx (L.take i)).length≤80000:=by rw[Zmt,QaR];omega
   refine⟨q,_,rfl,SqT.of hq,rfl,_,_,rfl,_,_,rfl,rfl,?_⟩;obtain⟨a,ax,gs4,ez,ha,al,s4,t4,hc4,l4,B4⟩:=app H3 gs _ p.1 p.2 r1 (by omega) s3 t3 hc3 l3 B3;refine⟨_,rfl,_,rfl,c,zs,_,.ref a,rfl,rfl,SqL.of hc3,ZaZ ez,.inl ⟨rfl,_,SqL.of ha⟩,_,rfl,a,ax,_,rfl,rfl,ha,al,?_⟩;show _;generalize hH4:upd H3 a (.lst (ax++ [nv p.2]))=H4 at s4 t4 hc4 l4;obtain⟨a',ax',gs5,ez',ha',al',s5,t5,hc5,l5,B5⟩:=app H4 gs4 _ p.2 p.1 r2 (by rw[Qag];simp;omega) s4 t4 hc4 l4 B4;have hH4':upd H3 a (.lst (ax++ [V.int (p.2:Int)]))=H4:=hH4;rw[hH4'];refine⟨_,rfl,_,rfl,c,zs,_,.ref a',rfl,rfl,SqL.of hc4,ZaZ ez',.inl ⟨rfl,_,SqL.of ha'⟩,_,rfl,a',ax',_,rfl,rfl,ha',al',?_⟩;exact⟨_,_,gs5,rfl,s5,t5,hc5,l5,by rw[Zaq eL,ZkL];exact B5⟩
 ·rintro σ H3 ⟨x3,x4,gs,rfl,s3,t3,hc3,l3,B3⟩;rw[QaL (by omega)] at B3;exact⟨_,rfl,k c zs gs H3 s3 cf hc3 l3 B3⟩
def Zqb (K:PySem.W.Frag):TS:=ZaX (Zbk (tC (V.bl true)) (Zq4 (Zan 2) (Zan 0) Zn7)) (ZaX (Zbk (ZeJ (Zaf (Zan 0) ZaB)) (Zar 3)) (ZaX (Zbk (ZeJ (Zaf (Zan 0) ZaB)) (Zar 4)) (ZaX (ZhD (fun σ H_1 Q=>Zan 4 σ H_1 fun x H'=>∃k,ZqP K x H' k∧Q k H') (ZaX (Zbk (ZrI K "list" ZrJ (Zan 4)) (Zar 5)) (Zgt (ZbO K (tOp (ZfE K) (Zan 1) (Zan 5))) (Zar 6) (Zen (Zpe (tB (tOp (ZfE K) (Zan 2) (Zan 6)))) (ZaX (Zbk (tC (V.bl true)) (Zq4 (Zan 2) (Zan 6) Zn7)) (ZaX (ZeH (tBM K "list" Zb0 (Zan 3) (Zaf (Zan 6) ZaB))) (ZeH (tBM K "list" Zb0 (Zan 4) (Zaf (Zan 6) ZaB))))) ZbT)))) (ZcY (tCB (fun xs H_1 Q=>∃p ns,xs=[V.ref p]∧SqL K H_1 p (List.map V.int ns)∧ns.length≤3000∧∀(l:Addr) (ms:List Int),H_1 l=none→ms.Perm ns→List.Pairwise (fun x1 x2=>x1≤x2) ms→Q (V.ref l) (upd H_1 l (HO.lst (List.map V.int ms)))) (Zaf (Zan 3) ZaB))))))
theorem Zg3 {K:PySem.W.Frag}{Q:VK}{bd:Addr}{s:Nat}{zs:List V}(hz:H bd=some (.lst zs))(lz:LsL H false zs gs)(B:BsI n D gs)(hs:H sn=some (.lst (b0.map V.bl)))(hl:b0.length=n)(sl:s<n)(es:b0[s]?=some false)(n63:n≤2500)(nz:∀y∈zs,y≠ .ref sn)(nb:bd≠sn)(rg:∀u v,(u,v)∈D→v<n)
  (k:∀(l:Addr) (ws vs:List Nat) (b':List Bool) (H':Hp),Bt sn H H'→H l=none→H' l=some (.lst (ws.map nv))→H' sn=some (.lst (b'.map V.bl))→RmI n D b0 b' s vs [] none→ws.Perm vs→ws.Pairwise (· < ·)→Q (.ref l) H'):Zqb K {nx:=Z,rt:=Q } [some (nv s),some (.ref bd),some (.ref sn),none,none,none,none] H:=by
 refine⟨_,rfl,_,rfl,sn,_,(s:Int),s,rfl,rfl,hs,by rw[Qac];exact ZkN (by omega),?_⟩;rw[ZeC];have o1:Bt sn H (upd H sn (.lst ((b0.set s true).map V.bl))):=Bt.at (fun _ _ _ e=>e);have hs1:(upd H sn (.lst ((b0.set s true).map V.bl))) sn=some (.lst ((b0.set s true).map V.bl)):=Zab;generalize upd H sn (.lst ((b0.set s true).map V.bl))=H1 at o1 hs1⊢;refine⟨_,rfl,(by show 1≤sizeLine;decide),fun r hr=> ?_⟩;refine⟨_,rfl,(by show 1≤sizeLine;decide),fun a ha=> ?_⟩;have rf:H r=none:=o1.free hs1 hr;have ar:a≠r:=fun e=>by rw[e,Zab] at ha;cases ha
 have ha1:H1 a=none:=by rw[Zak ar] at ha;exact ha
 have st:Rst H (upd (upd H1 r (.lst [nv s])) a (.lst [nv s])) sn r a (b0.set s true) [s] [s]:=
  ⟨(o1.nw rf).nw (o1.free hs1 ha1),by rw[Zak (Zah hs1 ha1),Zak (Zah hs1 hr)];exact hs1,by rw[Zak (Ne.symm ar)];exact Zab,Zab,rf,o1.free hs1 ha1,Ne.symm ar,Ne.symm (Zah hs1 hr),Ne.symm (Zah hs1 ha1)⟩
 generalize upd (upd H1 r (.lst [nv s])) a (.lst [nv s])=H2 at st⊢;show ZhD (fun σ H_1 Q=>Zan 4 σ H_1 fun x H'=>∃k,ZqP K x H' k∧Q k H') _ _ _ _;refine ZhG (fun σ H'=>∃(x5 x6:Option V) (b:List Bool) (vs as:List Nat),σ=[some (nv s),some (.ref bd),some (.ref sn),some (.ref r),some (.ref a),x5,x6]∧Rst H H' sn r a b vs as∧RmI n D b0 b s vs as none∧as.length≤vs.length) (fun σ H'=>match H' r,H' a with|some (.lst vs),some (.lst as)=>2*(n-vs.length)+as.length|_,_=>0) ⟨_,_,_,[s],[s],rfl,st,RmI.init hl sl es,Qak _⟩ ?_ (fun σ H Q Q' h hc=>by obtain⟨v,e,t,tr,q⟩:=hc;exact⟨v,e,t,tr,h _ _ q⟩);rintro σ H3 ⟨x5,x6,b,vs,as,rfl,st3,I3,av3⟩;refine⟨_,rfl,_,.inl ⟨_,SqL.of st3.ha,rfl⟩,?_⟩;rcases List.eq_nil_or_concat as with rfl|⟨as0,p,rfl⟩
 ·refine Zgm ⟨_,rfl,r,vs.map fun m:Nat=>(m:Int),rfl,?_,?_,fun l ms hl' pm pu=> ?_⟩
  ·rw[QbV];exact SqL.of st3.hr
  ·rw[Qac]
   have:=I3.size;omega
  ·obtain⟨ws,e1,e2,e3⟩:=ZiV pm pu I3.nd;rw[e1];exact k l ws vs b _ (st3.old.nw (st3.old.free st3.hs hl')) (st3.old.free st3.hs hl') Zab (by rw[Zak (Zah st3.hs hl')];exact st3.hs) I3 e2 e3
 ·rw[List.concat_eq_append] at st3 I3 av3⊢;rw[Qag] at av3;have av4:as0.length+1≤vs.length:=av3;rw[show(!((as0++ [p]).map nv).isEmpty)=true by simp];refine Zi8 ⟨_,rfl,.inl ⟨rfl,_,SqL.of st3.ha⟩,a,(as0++ [p]).map nv,nv p,rfl,rfl,st3.ha,by simp,?_⟩
  have mu0:(match H3 r,H3 a with|some (.lst vs),some (.lst as)=>2*(n-vs.length)+as.length|_,_=>0)=2*(n-vs.length)+(as0.length+1):=by
   rw[st3.hr,st3.ha];simp
  rw[mu0];have st4:=st3.pop;obtain⟨I4,pv⟩:=I3.pop;rw[show((as0++ [p]).map nv).dropLast=as0.map nv by simp];generalize upd H3 a (.lst (as0.map nv))=H4 at st4⊢;have pl:p<n:=I4.lt p pv;obtain⟨ms,eg,ml,mm⟩:=B.at' p pl;have zl:zs.length=n:=by rw[lz.1,B.len]
  have ez:zs[p]?=some zs[p]:=Qab (by omega);obtain⟨lp,xs,ea,hp,ip⟩:=lz.2 p _ _ ez eg;rw[ea] at ez;have xe:=ZkM ip;subst xe;have lsn:lp≠sn:=fun e=>nz _ (Qap ez) (by rw[e]);refine⟨_,rfl,_,rfl,bd,zs,(p:Int),.ref lp,rfl,rfl,SqL.of (st4.old _ _ nb hz),ZaZ ez,?_⟩;refine⟨lp,rfl,⟨_,SqL.of (st4.old _ _ lsn hp)⟩,Zbi (K:=K) (a:=lp) (xs:=ms.map nv) (fun i σ H'=>∃(x6:Option V) (b:List Bool) (vs' as:List Nat),σ=[some (nv s),some (.ref bd),some (.ref sn),some (.ref r),some (.ref a),some (nv p),x6]∧Rst H H' sn r a b vs' as∧RmI n D b0 b s vs' as (some p)∧p∈vs'∧(∀j∈ms.take i,b[j]?=some true)∧as.length+vs.length=vs'.length+as0.length∧vs.length≤vs'.length) ⟨_,b,vs,as0,rfl,st4,I4,pv,fun j hj=>(by rw[Qcr] at hj;cases hj),by omega,Qak _⟩ (fun i σ H' _ h=>by obtain⟨_,_,_,_,_,s',_⟩:=h;exact SqL.of (s'.old _ _ lsn hp)) ?_ ?_⟩
  ·rintro i y σ H5 hy ⟨x6,b5,vs5,as5,rfl,st5,I5,pv5,tk5,cn5,le5⟩;rw[Qam] at hy
   cases em:ms[i]? with
   |none=>rw[em] at hy;cases hy
   |some g=>
    rw[em] at hy;cases hy;have mg:g∈ms:=Qap em;have gD:=(mm g).mp mg;have gl:g<n:=rg p g gD;have gb:g<b5.length:=by rw[I5.len];exact gl
    have ez5:b5[g]?=some b5[g]:=Qab gb
    cases bg:b5[g] with
    |true=>
     rw[bg] at ez5;refine⟨_,rfl,_,rfl,sn,_,(g:Int),.bl true,rfl,rfl,SqL.of st5.hs,Zmu ez5,true,rfl,?_⟩;refine Zgm ?_;refine⟨_,b5,vs5,as5,rfl,st5,I5,pv5,fun j hj=> ?_,cn5,le5⟩;rw[Zaq em] at hj;rcases Qaq.mp hj with z|z
     ·exact tk5 j z
     ·rw[Qaj.mp z];exact ez5
    |false=>
     rw[bg] at ez5;refine⟨_,rfl,_,rfl,sn,_,(g:Int),.bl false,rfl,rfl,SqL.of st5.hs,Zmu ez5,false,rfl,?_⟩;refine Zi8 ?_;refine⟨_,rfl,_,rfl,sn,_,(g:Int),g,rfl,rfl,st5.hs,by rw[Qac,I5.len];exact ZkN gl,?_⟩;rw[ZeC];have st6:=st5.mark g;generalize upd H5 sn (.lst ((b5.set g true).map V.bl))=H6 at st6⊢;have I6:=I5.add pv5 gD gl ez5;have vz:=I6.size;rw[Qag] at vz;have vz':vs5.length+1≤n:=vz;refine⟨_,rfl,.inl ⟨rfl,_,SqL.of st6.hr⟩,_,rfl,r,_,nv g,rfl,rfl,st6.hr,by rw[Qac];exact QaN (show vs5.length≤3000 by omega) (by decide),?_⟩;have st7:=st6.put (vs5++ [g]);rw[show(vs5++ [g]).map nv=vs5.map nv++ [nv g] by simp] at st7;generalize upd H6 r (.lst (vs5.map nv++ [nv g]))=H7 at st7⊢;have al:as5.length≤3000:=by omega
     refine⟨_,rfl,.inl ⟨rfl,_,SqL.of st7.ha⟩,_,rfl,a,_,nv g,rfl,rfl,st7.ha,by rw[Qac];exact QaN al (by decide),?_⟩;have st8:=st7.putA (as5++ [g]);rw[show(as5++ [g]).map nv=as5.map nv++ [nv g] by simp] at st8;refine⟨_,b5.set g true,vs5++ [g],as5++ [g],rfl,st8,I6,Qat _ pv5,fun j hj=> ?_,by simp;omega,by simp;omega⟩;rw[ZdC (by rw[I5.len];exact gl)];rw[Zaq em] at hj;rcases Qaq.mp hj with z|z
     ·exact .inr (tk5 j z)
     ·exact .inl (Qaj.mp z)
  ·rintro σ H5 ⟨x6,b5,vs5,as5,rfl,st5,I5,pv5,tk5,cn5,le5⟩;rw[Qac,QaL (Qak _)] at tk5;refine⟨⟨_,_,b5,vs5,as5,rfl,st5,I5.fin fun j hj=>tk5 j ((mm j).mpr hj),by omega⟩,?_⟩;have sz:=I5.size;show(match H5 r,H5 a with|some (.lst vs),some (.lst as)=>2*(n-vs.length)+as.length|_,_=>0)<_;rw[st5.hr,st5.ha];simp only[Qac];omega
def Zd3:Sp:=fun vs H Q _=>∃(b:Addr) (n:Nat) (ps:List V) (L:List (Nat×Nat)),vs=[nv n,.ref b]∧H b=some (.lst ps)∧TuL H ps (L.map pc)∧n≤2500∧L.length≤40000∧(∀p∈L,p.1<n∧p.2<n)∧∀(c:Addr) (zs:List V) (gs:List (List (List Int))) (H':Hp),Zam H H'→H c=none→H' c=some (.lst zs)→LsL H' false zs gs→BsI n (Zcx L) gs→Q (.ref c) H'
def Zg4:Sp:=fun vs H Q _=>∃(bd sn:Addr) (n s:Nat) (zs:List V) (gs:List (List (List Int))) (D:List (Nat×Nat)) (b0:List Bool),vs=[nv s,.ref bd,.ref sn]∧H bd=some (.lst zs)∧LsL H false zs gs∧BsI n D gs∧H sn=some (.lst (b0.map V.bl))∧b0.length=n∧s<n∧b0[s]?=some false∧n≤2500∧(∀y∈zs,y≠ .ref sn)∧bd≠sn∧(∀u v,(u,v)∈D→v<n)∧
 ∀(l:Addr) (ws vs:List Nat) (b':List Bool) (H':Hp),Bt sn H H'→H l=none→H' l=some (.lst (ws.map nv))→H' sn=some (.lst (b'.map V.bl))→RmI n D b0 b' s vs [] none→ws.Perm vs→ws.Pairwise (· < ·)→Q (.ref l) H'
def Zd4:Sp:=fun vs H Q _=>∃(b:Addr) (n:Nat) (ps:List V) (L:List (Nat×Nat)),vs=[nv n,.ref b]∧H b=some (.lst ps)∧TuL H ps (L.map pc)∧n≤2500∧L.length≤40000∧(∀p∈L,p.1<n∧p.2<n)∧∀(c:Addr) (zs:List V) (hs:List (List Nat)) (b':List Bool) (H':Hp),Zam H H'→H c=none→H' c=some (.lst zs)→LsL H' false zs (hs.map (List.map nc))→LkI n (Zcx L) n b' hs→(∀y∈zs,∀a,y= .ref a→H a=none)→Q (.ref c) H'
def Zmv (K:PySem.W.Frag):TS:=ZaX (Zbk (ZaK Zd3 [] E0 (Zaf (Zan 0) (Zaf (Zan 1) ZaB))) (Zar 2)) (ZaX (Zbk (tOp Zq9 (ZeJ (Zaf (tC (V.bl false)) ZaB)) (Zan 0)) (Zar 3)) (ZaX (Zbk (ZeJ ZaB) (Zar 4)) (ZaX (Zgt (Zjm (Zaf (Zan 0) ZaB)) (Zar 5) (Zen (Zpe (tB (tOp (ZfE K) (Zan 3) (Zan 5)))) (ZeH (tBM K "list" Zb0 (Zan 4) (Zaf (ZaK Zg4 [] E0 (Zaf (Zan 5) (Zaf (Zan 2) (Zaf (Zan 3) ZaB)))) ZaB))) ZbT)) (ZcY (Zan 4)))))
theorem Zfa {K:PySem.W.Frag}{Q:VK}{b:Addr}{ps:List V}(hb:H b=some (.lst ps))(tL:TuL H ps (L.map pc))(hn:n≤2500)(hL:L.length≤40000)(rg:∀p∈L,p.1<n∧p.2<n)
  (k:∀(c:Addr) (zs:List V) (hs:List (List Nat)) (b':List Bool) (H':Hp),Zam H H'→H c=none→H' c=some (.lst zs)→LsL H' false zs (hs.map (List.map nc))→LkI n (Zcx L) n b' hs→(∀y∈zs,∀a,y= .ref a→H a=none)→Q (.ref c) H'):Zmv K {nx:=Z,rt:=Q } [some (nv n),some (.ref b),none,none,none,none] H:=by
 have sy:∀u v,(u,v)∈Zcx L→(v,u)∈Zcx L:=fun u v h=>ZdB.mpr ((ZdB.mp h).elim .inr .inl);have rD:∀u v,(u,v)∈Zcx L→v<n:=fun u v h=>(ZdB.mp h).elim (fun q=>(rg _ q).2) fun q=>(rg _ q).1;refine⟨_,rfl,_,rfl,b,n,ps,L,rfl,hb,tL,by omega,hL,rg,fun bd zs gs H1 s1 bf hz lz B=> ?_⟩;refine⟨(by show 1≤sizeLine;decide),fun p hp=> ?_⟩;have s2:=Zam.nw (o:=.lst [.bl false]) (Zam.refl H1) hp;have fp:(upd H1 p (.lst [.bl false])) p=some (.lst [.bl false]):=Zab;generalize upd H1 p (.lst [.bl false])=H2 at s2 fp⊢;refine⟨_,rfl,p,(n:Int),[.bl false],rfl,rfl,fp,by omega,by omega,QaE (show [V.bl false].length*((n:Int)).toNat≤2500 by simp;omega) (by decide),fun sn hsn=> ?_⟩;rw[QbA,Zg1,show List.replicate n (V.bl false)=(List.replicate n false).map V.bl by rw[Qei]];have s3:=Zam.nw (o:=.lst ((List.replicate n false).map V.bl)) (Zam.refl H2) hsn;have fs:(upd H2 sn (.lst ((List.replicate n false).map V.bl))) sn=some (.lst ((List.replicate n false).map V.bl)):=Zab;generalize upd H2 sn (.lst ((List.replicate n false).map V.bl))=H3 at s3 fs⊢;refine⟨(by show 0≤sizeLine;decide),fun c hc=> ?_⟩;have s4:=Zam.nw (o:=.lst []) (Zam.refl H3) hc;have fc:(upd H3 c (.lst [])) c=some (.lst []):=Zab;generalize upd H3 c (.lst [])=H4 at s4 fc⊢;have s14:Zam H1 H4:=s2.trans (s3.trans s4);have s04:Zam H H4:=s1.trans s14;have sn1:H1 sn=none:=s2.free hsn;have c1:H1 c=none:=(s2.trans s3).free hc;have nzs:=lz.avoid sn1;have nzc:=lz.avoid c1;have nbs:bd≠sn:=Zah hz sn1;have nbc:bd≠c:=Zah hz c1;have nsc:sn≠c:=Zah fs hc;have sn0:H sn=none:=s1.free sn1;have c0:H c=none:=s1.free c1;refine⟨_,rfl,(n:Int),rfl,by omega,by omega,ZbI (lo:=0) (n:=((n:Int)).toNat) (fun i σ H'=>∃(x5:Option V) (b':List Bool) (ys:List V) (hs:List (List Nat)),σ=[some (nv n),some (.ref b),some (.ref bd),some (.ref sn),some (.ref c),x5]∧Zam H H'∧H' bd=some (.lst zs)∧LsL H' false zs gs∧H' sn=some (.lst (b'.map V.bl))∧H' c=some (.lst ys)∧LsL H' false ys (hs.map (List.map nc))∧(∀y∈ys,y≠ .ref sn∧y≠ .ref c∧∀a,y= .ref a→H a=none)∧LkI n (Zcx L) i b' hs∧hs.length≤i) ⟨_,_,[],[],rfl,s04,s14 _ _ hz,lz.up s14,s4 _ _ fs,fc,LsL.nil _ _,fun y hy=>(by cases hy),LkI.init n _,Qak _⟩ ?_ ?_⟩
 ·rintro i σ H5 hi ⟨x5,b5,ys,hs,rfl,s5,hz5,lz5,hs5,hc5,ly5,nv5,I5,hl5⟩;rw[QbA] at hi;rw[Int.zero_add];have ib:i<b5.length:=by rw[I5.len];exact hi
  have eb:b5[i]?=some b5[i]:=Qab ib
  cases bi:b5[i] with
  |true=>
   rw[bi] at eb;refine⟨_,rfl,_,rfl,sn,_,(i:Int),.bl true,rfl,rfl,SqL.of hs5,Zmu eb,true,rfl,?_⟩;exact Zgm ⟨_,b5,ys,hs,rfl,s5,hz5,lz5,hs5,hc5,ly5,nv5,I5.skip hi eb,by omega⟩
  |false=>
   rw[bi] at eb;refine⟨_,rfl,_,rfl,sn,_,(i:Int),.bl false,rfl,rfl,SqL.of hs5,Zmu eb,false,rfl,?_⟩;refine Zi8 ⟨_,rfl,.inl ⟨rfl,_,SqL.of hc5⟩,_,rfl,_,rfl,_,rfl,bd,sn,n,i,zs,gs,Zcx L,b5,rfl,hz5,lz5,B,hs5,I5.len,hi,eb,hn,nzs,nbs,rD,fun l ws vs b6 H6 t6 lf hl6 hs6 R6 pw up=> ?_⟩;have hc6:=t6 _ _ (Ne.symm nsc) hc5;have yl:ys.length≤2500:=by rw[ly5.1,Qac];omega
   refine⟨c,ys,.ref l,rfl,rfl,hc6,QaN (show ys.length≤2500 from yl) (by decide),?_⟩;have s6:Zam H H6:=fun q o e=>t6 q o (Zah e sn0) (s5 q o e);have lc:l≠c:=fun z=>by rw[z,hc5] at lf;cases lf
   have ls:l≠sn:=fun z=>by rw[z,hs5] at lf;cases lf
   have lz6:=lz5.bt t6 hs5 nzs;have ly6:=LsL.snoc (ly5.bt t6 hs5 fun y hy=>(nv5 y hy).1) hl6 (Zqa ws)
   have nv6:∀y∈ys++ [.ref l],y≠ .ref sn∧y≠ .ref c∧∀a,y= .ref a→H a=none:=fun y hy=>by
    rcases Qaq.mp hy with z|z
    ·exact nv5 y z
    ·rw[Qaj.mp z];exact⟨fun e=>ls (V.ref.inj e),fun e=>lc (V.ref.inj e),fun a e=>by cases e;exact s5.free lf⟩
   refine⟨_,b6,ys++ [.ref l],hs++ [ws],rfl,s6.ow c0,by rw[Zak nbc];exact t6 _ _ nbs hz5,lz6.set hc6 nzc,by rw[Zak nsc];exact hs6,Zab,?_,nv6,I5.room hi R6 pw up sy rD,by rw[Qag];simp;omega⟩;rw[QaG];exact ly6.set hc6 fun y hy=>(nv6 y hy).2.1
 ·rintro σ H5 ⟨x5,b5,ys,hs,rfl,s5,hz5,lz5,hs5,hc5,ly5,nv5,I5,hl5⟩;rw[QbA] at I5;exact⟨_,rfl,k c ys hs b5 H5 s5 c0 hc5 ly5 I5 fun y hy=>(nv5 y hy).2.2⟩
def CpL (H:Hp)(ys:List V)(vss:List (List V)):Prop:=ys.length=vss.length∧∀(i:Nat) (y:V) (vs:List V),ys[i]?=some y→vss[i]?=some vs→∃q:Addr,y= .ref q∧H q=some (.tup vs)
theorem CpL.nil (H:Hp):CpL H [] []:=⟨rfl,fun i y vs h=>by cases h⟩
theorem CpL.up {ys:List V}{vss:List (List V)}(h:CpL H ys vss)(t:Za8 H H'):CpL H' ys vss:=⟨h.1,fun i y vs h1 h2=>by
 obtain⟨q,e,hq⟩:=h.2 i y vs h1 h2
 exact⟨q,e,t _ _ hq⟩⟩
theorem CpL.snoc {ys:List V}{vss:List (List V)}{vs:List V}(h:CpL H ys vss)(hq:H q=some (.tup vs)):CpL H (ys++ [.ref q]) (vss++ [vs]):=by
 refine⟨by rw[Qag,Qag,h.1];rfl,fun i y us h1 h2=> ?_⟩;by_cases c:i<ys.length
 ·rw[QaF c] at h1;rw[QaF (h.1 ▸ c)] at h2;exact h.2 i y us h1 h2
 ·rw[Qav (by omega)] at h1;rw[Qav (by rw[←h.1];omega),←h.1] at h2
  have:i-ys.length=0:=by
   have:=(Qaf.mp h1).1;simp at this;omega
  rw[this] at h1 h2;cases h1;cases h2;exact⟨q,rfl,hq⟩
def fV:V→PyData
 | .int i=> .int i
 | .bl b=> .bool b
 |_=> .none
def ZoD (vs:List V):Prop:=∀v∈vs,(∃i,v= .int i)∨∃b,v= .bl b
def dCp (vs:List V):PyData:=.tuple (vs.map fV)
theorem Zrr {K:PySem.W.Frag}{v:V}(h:(∃i,v= .int i)∨∃b,v= .bl b):DI K H v (fV v):=by
 rcases h with⟨i,rfl⟩|⟨b,rfl⟩
 ·exact .int i
 ·exact .bl b
theorem Zqc {K:PySem.W.Frag}{vs:List V}(hq:H q=some (.tup vs))(hf:ZoD vs):DI K H (.ref q) (dCp vs):=by
 refine .tup (SqT.of hq) (by rw[Qac]) fun i x d h1 h2=> ?_;rw[Qam,h1] at h2;cases h2;exact Zrr (hf x (Qap h1))
theorem ZkP:∀vs:List V,PyData.canLayAll0 (vs.map fV)=true
 | []=>rfl
 |v::r=>by
  show((fV v).canLay0 && PyData.canLayAll0 (r.map fV))=true;rw[ZkP r,Bool.and_true];cases v<;>rfl
theorem ZoE (vs:List V):(dCp vs).canLay0=true:=ZkP vs
theorem ZkQ:∀vs:List V,PyData.depthAll (vs.map fV)=0
 | []=>rfl
 |v::r=>by
  show max (fV v).depth (PyData.depthAll (r.map fV))=0;rw[ZkQ r];cases v<;>rfl
theorem ZoF (vs:List V):(dCp vs).depth=1:=by show PyData.depthAll _+1=1;rw[ZkQ]
theorem CpL.di {K:PySem.W.Frag}{ys:List V}{vss:List (List V)}(h:CpL H ys vss)(hp:SqL K H p ys)(hf:∀vs∈vss,ZoD vs):DI K H (.ref p) (.list (vss.map dCp)):=by
 refine .lst hp (by rw[Qac];exact h.1) fun i x d h1 h2=> ?_;rw[Qam] at h2
 cases e:vss[i]? with
 |none=>rw[e] at h2;cases h2
 |some vs=>
  rw[e] at h2;cases h2;obtain⟨q,rfl,hq⟩:=h.2 i x vs h1 e;exact Zqc hq (hf vs (Qap e))
theorem Zia:∀vss:List (List V),PyData.canLayAll0 (vss.map dCp)=true
 | []=>rfl
 |v::r=>by
  show((dCp v).canLay0 && PyData.canLayAll0 (r.map dCp))=true;rw[Zia r,ZoE];rfl
theorem Zib:∀vss:List (List V),PyData.depthAll (vss.map dCp)≤1
 | []=>QaU _
 |v::r=>by
  show max (dCp v).depth (PyData.depthAll (r.map dCp))≤1
  have:=Zib r;rw[ZoF];omega
theorem Zqd {K:PySem.W.Frag}(hK:X.K=K:=by rfl):OpR X (compareOp .In) (rIn K false):=by subst hK;exact Zju
theorem TuL.get {xs:List V}(h:TuL H xs us)(e:us[i]?=some u):∃a:Addr,H a=some (.tup (u.map V.int))∧xs[i]?=some (.ref a):=by
 have il:i<xs.length:=by rw[h.1];exact(Qaf.mp e).1
 obtain⟨a,ea,ha⟩:=h.2 i _ u (Qab il) e;exact⟨a,ha,by rw[Qab il,ea]⟩
abbrev PR:=Int×Int×Int×Bool
def pV (p:PR):List V:=[.int p.1,.int p.2.1,.int p.2.2.1,.bl p.2.2.2]
theorem ZoG (p:PR):ZoD (pV p):=fun v hv=>by
 simp only[pV,Qaz,Qbg,QcJ] at hv;rcases hv with rfl|rfl|rfl|rfl
 ·exact .inl ⟨_,rfl⟩
 ·exact .inl ⟨_,rfl⟩
 ·exact .inl ⟨_,rfl⟩
 ·exact .inr ⟨_,rfl⟩
abbrev WL2:=List (Int×List Int)
structure Za1 (H:Hp)(a pa pb:Addr)(n:Int)(ps:List PR)(L:WL2)(ya yb:List V):Prop where
 h:H a=some (.tup [.int n,.ref pa,.ref pb])
 ha:H pa=some (.lst ya)
 ca:CpL H ya (ps.map pV)
 hb:H pb=some (.lst yb)
 wb:Wg H yb L
theorem Za1.up {H H':Hp}{a pa pb:Addr}{n:Int}{ps:List PR}{L:WL2}{ya yb:List V}(x:Za1 H a pa pb n ps L ya yb)(s:Zam H H'):Za1 H' a pa pb n ps L ya yb:=
 ⟨s _ _ x.h,s _ _ x.ha,x.ca.up s.tups,s _ _ x.hb,x.wb.up s.tups⟩
theorem Za1.len {n:Int}{ps:List PR}{L:WL2}{ya yb:List V}(x:Za1 H a pa pb n ps L ya yb):ya.length=ps.length:=by rw[x.ca.1,Qac]
theorem Za1.at {n:Int}{ps:List PR}{L:WL2}{ya yb:List V}(x:Za1 H a pa pb n ps L ya yb){k:Nat}{p:PR}(e:ps[k]?=some p):∃q:Addr,ya[k]?=some (.ref q)∧H q=some (.tup (pV p)):=by
 have il:k<ya.length:=by rw[x.len];exact(Qaf.mp e).1
 obtain⟨q,eq,hq⟩:=x.ca.2 k _ (pV p) (Qab il) (by rw[Qam,e];rfl);exact⟨q,by rw[Qab il,eq],hq⟩
def SrL (H:Hp)(ys:List V)(S:List (List Int×Int)):Prop:=ys.length=S.length∧∀(i:Nat) (y:V) (e:List Int×Int),ys[i]?=some y→S[i]?=some e→∃q w:Addr,y= .ref q∧H q=some (.tup [.ref w,.int e.2])∧H w=some (.tup (e.1.map V.int))
def Zpi (S:List (List Int×Int)):PyData:=.list (S.map fun e=> .tuple [dT e.1,.int e.2])
theorem SrL.di {K:PySem.W.Frag}{ys:List V}{S:List (List Int×Int)}(h:SrL H ys S)(hp:SqL K H p ys):DI K H (.ref p) (Zpi S):=by
 refine .lst hp (by rw[Qac];exact h.1) fun i x d h1 h2=> ?_;rw[Qam] at h2
 cases e:S[i]? with
 |none=>rw[e] at h2;cases h2
 |some z=>
  rw[e] at h2;cases h2;obtain⟨q,w,rfl,hq,hw⟩:=h.2 i x z h1 e;refine .tup (SqT.of hq) rfl fun j x d z1 z2=> ?_;rcases j with _|_|j
  ·cases z1;cases z2;exact Zc2 hw
  ·cases z1;cases z2;exact .int _
  ·cases z1
theorem Zic:∀S:List (List Int×Int),PyData.canLayAll0 (S.map fun e=> .tuple [dT e.1,.int e.2])=true
 | []=>rfl
 |e::r=>by
  show(((dT e.1).canLay0 && (true && true)) && PyData.canLayAll0 (r.map fun e=> .tuple [dT e.1,.int e.2]))=true;rw[Zic r,Zdg];rfl
theorem Zmw (xs:List V){k:Nat}(h:k≤xs.length):ZhJ xs (some (k:Int)) none=xs.drop k:=by
 unfold ZhJ;rw[HT.sIx_nat,HT.sIx_none,Qdn h,QaL (by rw[Qbp];exact Qak _)]
theorem ZoH {K:PySem.W.Frag}{k:Nat}{xs:List V}{g:TG}{N:List V→Hp→Prop}{σ1:St}{ys:List V}(Pv:Nat→List V→St→Hp→Prop)(h0:Pv 0 ys σ1 H)(hz:∀i ys σ' H,Pv i ys σ' H→ys.length≤100000)(hl:∀i ys σ' H,i≤xs.length→Pv i ys σ' H→SqL K H a xs)
  (hs:∀i x ys σ' H,xs[i]?=some x→Pv i ys σ' H→g x σ' H fun σ2 H2=>(∃pre':St,σ2=pre'++σ∧pre'.length=k)∧tt σ2 H2 fun ok H3=>if ok=true then te σ2 H3 fun y H4=>Pv (i+1) (ys++ [y]) σ2 H4 else Pv (i+1) ys σ2 H3) (hd:∀ys σ' H,Pv xs.length ys σ' H→N ys H):CGi k (Itl K a) g tt te N σ ys σ1 H:=by
 refine⟨fun i m ys σ' H=>m=xs.length-i∧i≤xs.length∧Pv i ys σ' H,⟨xs.length,by simp,QaU _,h0⟩,?_⟩;rintro i m ys σ' H ⟨rfl,hi,p⟩;have q:=hl i ys σ' H hi p;by_cases hlt:i<xs.length
 ·refine .inr ⟨⟨xs,xs[i],q,by simp[hlt]⟩,QaN (hz i ys σ' H p) (by decide),Pv (i+1),fun zs σ2 H' p'=>⟨xs.length-(i+1),by omega,rfl,hlt,p'⟩,fun x H' y=> ?_⟩;obtain⟨e,y⟩:=y;subst e;exact hs i x ys σ' _ (y xs q) p
 ·have e:i=xs.length:=by omega
  subst e;exact .inl ⟨⟨xs,q,Qak _⟩,hd ys σ' H p⟩
def PrW (n:Nat)(p:PR):Prop:=0≤p.1∧p.1≤p.2.1∧1≤p.2.2.1∧p.2.1+p.2.2.1≤(n:Int)
def lnk (p:PR)(i:Nat):Nat×Nat:=((p.1+(i:Int)).toNat,(if p.2.2.2=true then p.2.1+p.2.2.1-1-(i:Int) else p.2.1+(i:Int)).toNat)
def prL (p:PR):List (Nat×Nat):=(List.range p.2.2.1.toNat).map (lnk p)
def psL (ps:List PR):List (Nat×Nat):=(ps.map prL).flatten
theorem Zmx (ps:List PR)(p:PR):psL (ps++ [p])=psL ps++prL p:=by simp[psL]
theorem ZkR (p:PR):(prL p).length=p.2.2.1.toNat:=by simp[prL]
theorem Zqe {p:PR}(h:PrW n p)(hi:i<p.2.2.1.toNat):pc (lnk p i)=[p.1+(i:Int),if p.2.2.2=true then p.2.1+p.2.2.1-1-(i:Int) else p.2.1+(i:Int)]:=by
 obtain⟨a,b,c,d⟩:=h;unfold pc lnk;dsimp only;rw[Qb2 (by omega),Qb2 (by split<;>omega)]
theorem Zqf {p:PR}(h:PrW n p):∀q∈prL p,q.1<n∧q.2<n:=fun q hq=>by
 obtain⟨i,hi,rfl⟩:=QaS.mp hq;rw[Qa1] at hi;obtain⟨a,b,c,d⟩:=h;unfold lnk;dsimp only;constructor
 ·omega
 ·split<;>omega
theorem Zqg {ps:List PR}(h:∀p∈ps,PrW n p):∀q∈psL ps,q.1<n∧q.2<n:=fun q hq=>by
 obtain⟨l,hl,hq⟩:=Qbt.mp hq;obtain⟨p,hp,rfl⟩:=QaS.mp hl;exact Zqf (h p hp) q hq
theorem Zg5 {n:Nat}:∀{ps:List PR},(∀p∈ps,PrW n p)→(psL ps).length≤ps.length*n
 | [],_=>QaU _
 |p::ps,h=>by
  have e:psL (p::ps)=prL p++psL ps:=by simp[psL]
  rw[e,Qag,ZkR,QaM,Nat.succ_mul]
  have:=Zg5 fun q hq=>h q (Qao _ hq);obtain⟨a,b,c,d⟩:=h p Qai;omega
theorem ZbX {α:Type}{r:α→α→Prop}(as:∀x y,r x y→r y x→False):∀(a b:List α),a.Perm b→a.Pairwise r→b.Pairwise r→a=b
 | [],b,p,_,_=>p.nil_eq
 |x::a,[],p,_,_=>absurd p.length_eq (by simp)
 |x::a,y::b,p,h1,h2=>by
  have exy:x=y:=by
   rcases Qaz.mp (p.subset Qai) with e|e
   ·exact e
   ·rcases Qaz.mp (p.symm.subset Qai) with f|f
    ·exact f.symm
    ·exact(as x y ((QbL.mp h1).1 y f) ((QbL.mp h2).1 x e)).elim
  subst exy;rw[ZbX as a b (List.Perm.cons_inv p) (QbL.mp h1).2 (QbL.mp h2).2]
theorem Zqh {gs:List (List Nat)}(h:LkI n D n b hs)(g:LkI n D n b' gs):hs=gs:=
 h.parts.uni (lt:=fun x y=>x<y) (ll:=fun g h=>∃x t y u,g=x::t∧h=y::u∧x<y) (ZbX fun x y h1 h2=>absurd h1 (by omega)) (ZbX fun x y h1 h2=>by
  obtain⟨a,t,b,u,e1,e2,l1⟩:=h1
  obtain⟨c,t',d,u',e3,e4,l2⟩:=h2
  rw[e1] at e4
  rw[e2] at e3
  cases e4
  cases e3
  omega) g.parts Qcw h.up g.up h.hds g.hds
def dRm (hs:List (List Nat)):PyData:=.list (hs.map fun h=> .list (h.map fun m:Nat=> .int (m:Int)))
theorem Zqi {K:PySem.W.Frag}{ys:List V}(h:LsL H false ys (hs.map (List.map nc)))(ha:SqL K H a ys):DI K H (.ref a) (dRm hs):=by
 refine .lst ha (by rw[Qac,h.1,Qac]) fun i x d h1 h2=> ?_;rw[Qam] at h2
 cases z:hs[i]? with
 |none=>rw[z] at h2;cases h2
 |some us=>
  rw[z] at h2;cases h2;obtain⟨b,xs,rfl,e,it⟩:=h.2 i x (us.map nc) h1 (by rw[Qam,z];rfl)
  have:=ZkM it;subst this;refine .lst (SqL.of e) (by rw[Qac,Qac]) fun j y d e1 e2=> ?_;rw[Qam] at e1 e2
  cases w:us[j]? with
  |none=>rw[w] at e1;cases e1
  |some m=>
   rw[w] at e1 e2;cases e1;cases e2;exact .int _
theorem ZnI:∀us:List Nat,PyData.canLayAll0 (us.map fun m:Nat=> .int (m:Int))=true
 | []=>rfl
 |m::us=>by
  show(true && PyData.canLayAll0 (us.map fun m:Nat=> .int (m:Int)))=true;rw[ZnI us];rfl
theorem ZnJ:∀us:List Nat,PyData.depthAll (us.map fun m:Nat=> .int (m:Int))≤0
 | []=>QaU _
 |m::us=>by
  show max 0 (PyData.depthAll (us.map fun m:Nat=> .int (m:Int)))≤0
  have:=ZnJ us;omega
theorem ZnK:∀hs:List (List Nat),PyData.canLayAll0 (hs.map fun h=> .list (h.map fun m:Nat=> .int (m:Int)))=true
 | []=>rfl
 |h::hs=>by
  show(PyData.canLayAll0 (h.map fun m:Nat=> .int (m:Int)) && PyData.canLayAll0 (hs.map fun h=> .list (h.map fun m:Nat=> .int (m:Int))))=true;rw[ZnI,ZnK hs];rfl
theorem ZnL:∀hs:List (List Nat),PyData.depthAll (hs.map fun h=> .list (h.map fun m:Nat=> .int (m:Int)))≤1
 | []=>QaU _
 |h::hs=>by
  show max (PyData.depthAll (h.map fun m:Nat=> .int (m:Int))+1) (PyData.depthAll (hs.map fun h=> .list (h.map fun m:Nat=> .int (m:Int))))≤1
  have:=ZnJ h
  have:=ZnL hs;omega
theorem Zg6 (hs:List (List Nat)):(dRm hs).canLay0=true:=ZnK hs
theorem ZoI (hs:List (List Nat)):(dRm hs).depth≤60:=by
 show PyData.depthAll (hs.map fun h=> .list (h.map fun m:Nat=> .int (m:Int)))+1≤60
 have:=ZnL hs;omega
theorem ZoJ (hs:List (List Nat)):PyData.eqv (dRm hs) (dRm hs)=true:=Qer _ (Zg6 hs)
section
variable {K:PySem.W.Frag}{Q:VK}
def Zay (H:Hp)(d:Addr):Prop:=∃a b:Int,H d=some (.lst [.int a,.int b])∧0≤b∧b<2147483648
def Zbw (d:Addr)(H H':Hp):Prop:=∀c o,H c=some o→c≠d→H' c=some o
theorem Zbw.refl (d:Addr)(H:Hp):Zbw d H H:=fun _ _ e _=>e
theorem Zbw.trans (a:Zbw d H H1)(b:Zbw d H1 H2):Zbw d H H2:=fun c o e n=>b c o (a c o e n) n
theorem Zbw.new (a:Zbw d H H')(h:H' p=none):Zbw d H (L2.upd H' p o):=fun c u e n=>by
 have:=a c u e n;rw[Zak (Zah this h)];exact this
theorem Zbw.own (B:Zbw d H H')(h:H p=none):Zbw d H (L2.upd H' p o):=fun c u e n=>by
 rw[Zak (Zah e h)];exact B c u e n
theorem Zbw.same (B:Zbw d H H1)(s:Zam H1 H2):Zbw d H H2:=fun c o e n=>s c o (B c o e n)
theorem Zam.butW (s:Zam H0 H)(f:H0 d=none)(e:Zbw d H H'):Zam H0 H':=fun b o q=>e b o (s b o q) (fun z=>by rw[z,f] at q;cases q)
theorem Zay.new (a:Zay H d)(h:H p=none):Zay (L2.upd H p o) d:=by
 obtain⟨x,y,e,r⟩:=a;exact⟨x,y,by rw[Zak (Zah e h)];exact e,r⟩
theorem Zay.at (a:Zay H d)(h:p≠d):Zay (L2.upd H p o) d:=by
 obtain⟨x,y,e,r⟩:=a;exact⟨x,y,by rw[Zak (Ne.symm h)];exact e,r⟩
theorem Zay.ne (a:Zay H d)(h:H p=none):p≠d:=by
 obtain⟨x,y,e,_⟩:=a;rintro rfl;rw[e] at h;cases h
theorem Zbw.tups (B:Zbw d H H')(P:Zay H d):Za8 H H':=fun b ys e=>B b _ e (fun z=>by
 obtain⟨x,y,e',_⟩:=P
 rw[z,e'] at e;cases e)
theorem Zbw.fr (b:Zbw d H H')(P:Zay H' d)(h:H' p=none):H p=none:=by
 cases z:H p with
 |none=>rfl
 |some o=>rw[b p o z (P.ne h)] at h;cases h
def Za4:Sp:=fun vs H Q _=>∃(d:Addr) (m:Int),vs=[.ref d,.int m]∧Zay H d∧0<m∧m<10^100∧∀(r:Int) (H':Hp),0≤r→r<m→Zay H' d→Zbw d H H'→Q (.int r) H'
def ZoK:Sp:=fun vs H Q _=>∃(d:Addr),vs=[.ref d]∧Zay H d∧∀(r:Int) (H':Hp),1≤r→r≤24→Zay H' d→Zbw d H H'→Q (.int r) H'
structure Zrs (wd:Int)(lg:Int)(L:Toy.Wl):Prop where
 nrm:Toy.Nrm wd.toNat L
 len:L.length≤41
 sum:tot L=lg
 num:∀e∈L,∀z∈e.2,-(10^62)<z∧z<10^62
def ZkS:Sp:=fun vs H Q _=>∃(d:Addr) (wd lg:Int),vs=[.ref d,.int wd,.int lg]∧Zay H d∧1≤wd∧wd≤24∧0≤lg∧lg<10^63∧∀(b:Addr) (ys:List V) (L:Toy.Wl) (H':Hp),b≠d→H' b=some (.lst ys)→Wg H' ys L→Zrs wd lg L→Zay H' d→Zbw d H H'→Q (.ref b) H'
end
theorem Zg7 (hu:A.units<cLine)(hb:s.heap.get? a=some (seqObj "list" vs.toArray n))(h64:vs.length≤1000)(hv:∀v∈vs,∃u m,PrI s.heap v u m)
  (hm:∀v∈vs,∀v'∈vs,kfP s.heap v=kfP s.heap v'→kfM s.heap v=kfM s.heap v')
  (h:∀out:Array Value,out.toList.Perm vs→(out.toList.map (kfP s.heap)).Pairwise (fun x y=>ZbR y x=false)→P (.done (.ret .none)) {s with heap:=sortedHeap s.heap a vs out }):wpAny (model prog w) A (Builtin.«list.sort» ⟨[.ref a],[]⟩) P E s:=by
 have kt:∀h':Heap,(∀b o,b≠a→s.heap.get? b=some o→h'.get? b=some o)→∀v∈vs,∃u m,PrI h' v u m∧kfP s.heap v=u∧kfM s.heap v=m:=fun h' k v q=>by
  obtain⟨u,m,t⟩:=hv v q;exact⟨u,m,t.keep (Zh7 hb rfl k),t.kf.1,t.kf.2⟩
 have mz:∀p,p∈(pairsOf vs).toList→p.1=p.2∧p.1∈vs:=fun p q=>by rw[QdE] at q;exact QfJ q
 refine Zd0 (k0:=tuples' false) (rk:=fun v=>rnk (vs.map (kfP s.heap)) (kfP s.heap v)) hb (QaE h64 (by decide)) (fun h2 h' k E' Q' q=> ?_) (fun h' k E' x y Q' hx hy q=> ?_) fun xs pm up=> ?_
 ·refine ZiT (s:={s with heap:=h' }) (fun v hv'=> ?_) (fun z=>by rw[z] at h2;simp at h2) q;obtain⟨u,m,t,_⟩:=kt h' k v hv';exact⟨u,m,t⟩
 ·obtain⟨u,m,t,eu,em⟩:=kt h' k x.1 (mz x hx).2;obtain⟨u',m',t',eu',em'⟩:=kt h' k y.1 (mz y hy).2;refine Zmq (s:={s with heap:=h' }) hu t t' (fun z=> ?_) ?_
  ·rw[←em,←em'];exact hm _ (mz x hx).2 _ (mz y hy).2 (by rw[eu,eu',z])
  have m1:kfP s.heap x.1∈vs.map (kfP s.heap):=QaS.mpr ⟨_,(mz x hx).2,rfl⟩;have m2:kfP s.heap y.1∈vs.map (kfP s.heap):=QaS.mpr ⟨_,(mz y hy).2,rfl⟩;have e3:ZbR u u'=decide (rnk (vs.map (kfP s.heap)) (kfP s.heap x.1)<rnk (vs.map (kfP s.heap)) (kfP s.heap y.1)):=by rw[ZhW m1 m2,eu,eu']
  rw[e3];exact q
 ·have pl:xs.toList.Perm (vs.zip vs):=by rw[←QdE];exact Qa8.mp pm
  have ps:(xs.map (·.2)).toList.Perm vs:=by
   rw[Array.toList_map]
   have:=pl.map (·.2);rw[List.map_snd_zip (Qak _)] at this;exact this
  refine h (xs.map (·.2)) ps ?_;rw[Qbb];intro i j hi hj ij;have lx:(xs.map (·.2)).toList.length=xs.size:=by rw[Qal,Qep]
  rw[Qac,lx] at hi hj;have hz:xs.size=(pairsOf vs).size:=pm.size_eq;have q:=up i j (Qcx ij) (by omega);have mi:xs[i]∈(pairsOf vs).toList:=(Qa8.mp pm).subset (QcH hi);have mj:xs[j]∈(pairsOf vs).toList:=(Qa8.mp pm).subset (QcH hj);unfold RK at q;rw[Qas hi,Qas hj] at q;dsimp only at q;have e:=ZhW (ks:=vs.map (kfP s.heap)) (x:=kfP s.heap xs[j].1) (y:=kfP s.heap xs[i].1) (QaS.mpr ⟨_,(mz _ mj).2,rfl⟩) (QaS.mpr ⟨_,(mz _ mi).2,rfl⟩);rw[QaC (by omega)] at e;simp only[List.getElem_map,QcE,Array.getElem_map];rw[←(mz _ mi).1,←(mz _ mj).1];exact e.symm
theorem Zg8 (hu:A.in1.in1.units<cLine)(hh:A.handled=none)(hv:s.heap.IsItemsView v d)(hd:Zjb s.heap d es ep)(h64:es.size≤1000)(hl:es.size=ks.length)
  (he:∀(j:Nat) (e:DictEntry) (k:List Int×Int),es[j]?=some e→ks[j]?=some k→Zcf s.heap e.key k.1∧∃t,e.val= .int k.2 t) (hn:(ks.map (·.1)).Nodup)
  (h:∀(out:Array Value) (ws:List (List Int×Int)) (h1 h':Heap) (e:Nat),(∀b ob,s.heap.get? b=some ob→h1.get? b=some ob)→(∀b ob,h1.get? b=some ob→h'.get? b=some ob)→out.size=ws.length→(∀(i:Nat) (v:Value) (u:List Int×Int),out[i]?=some v→ws[i]?=some u→∃(a ka:Addr) (t:Tok),v= .ref a∧s.heap.objs.size≤a∧h1.get? a=some {cls:=.type "tuple",data:=.seq #[.ref ka,.int u.2 t] }∧(∃en∈es.toList,en.key= .ref ka)∧Zcf s.heap (.ref ka) u.1)→ws.Perm ks→ws.Pairwise (fun x y=>ZbR y.1 x.1=false)→h'.get? h1.objs.size=some (seqObj "list" out e)→Q (.ref h1.objs.size) {s with heap:=h' }):
  wpAny (model prog w) A (call (.builtin "sorted") [.ref v]) Q E s:=by
 refine QcB Qfu Qe7 Qe8 (Qe9 _) ?_;unfold Builtin.«sorted»;refine Qaa (m:=checkCount "sorted" 1 1 _) (Qae (Qaa (ZgZ (by simp[hh]) hv hd (Qcx (ZbJ (by omega))) fun h1 as kp la pa na=> ?_)))
 have PR:∀(j:Nat) (a:Addr) (k:List Int×Int),as[j]?=some a→ks[j]?=some k→PrI h1 (.ref a) k.1 k.2∧∃(ka:Addr) (t:Tok),h1.get? a=some {cls:=.type "tuple",data:=.seq #[.ref ka,.int k.2 t] }∧(∃en∈es.toList,en.key= .ref ka)∧Zcf s.heap (.ref ka) k.1:=fun j a k e1 e2=>by
  obtain⟨e,x1,x2⟩:=pa j a e1;obtain⟨y1,t,y2⟩:=he j e k x1 e2;rw[y2] at x2;refine⟨⟨a,_,e.key,t,_,rfl,x2,rfl,rfl,y1.keep' fun b o _ q=>kp b o q⟩,?_⟩;have y1':=y1;obtain⟨ka,o,its,n,ek,_⟩:=y1';rw[ek] at x2 y1;exact⟨ka,t,x2,⟨e,by rw[←Qan] at x1;exact Qap x1,ek⟩,y1⟩
 have lz:as.length=ks.length:=by omega
 refine Qaa (QdS ?_);have hoL:(h1.push {cls:=.type "list",data:=.seq (as.map Value.ref).toArray }).get? h1.objs.size=some (seqObj "list" (as.map Value.ref).toArray 0):=Qaw _ rfl;have kp2:∀(b:Addr) (o:Obj),o.cls= .type "tuple" →h1.get? b=some o→(h1.push {cls:=.type "list",data:=.seq (as.map Value.ref).toArray }).get? b=some o:=fun b o _ e=>Qad _ e
 have at_:∀v∈as.map Value.ref,∃(j:Nat) (a:Addr) (k:List Int×Int),v= .ref a∧as[j]?=some a∧ks[j]?=some k:=fun v m=>by
  obtain⟨a,ma,rfl⟩:=QaS.mp m;obtain⟨j,hj⟩:=Qay.mp ma;have jl:=(Qaf.mp hj).1;exact⟨j,a,ks[j],rfl,hj,Qab (by omega)⟩
 refine Qaa (Qbd (Qbj Qel ⟨_,hoL,rfl⟩ Qd2 (Zg7 (s:={s with heap:=h1.push {cls:=.type "list",data:=.seq (as.map Value.ref).toArray } }) ?_ hoL (by rw[Qac];omega) (fun v q=> ?_) (fun v q v' q' ev=> ?_) fun out po so=>⟨_,rfl,?_⟩) (Qem _)))
 ·exact hu
 ·obtain⟨j,a,k,rfl,e1,e2⟩:=at_ v q;exact⟨_,_,(PR j a k e1 e2).1.keep kp2⟩
 ·obtain⟨j,a,k,rfl,e1,e2⟩:=at_ v q;obtain⟨j',a',k',rfl,e1',e2'⟩:=at_ v' q';have p1:=((PR j a k e1 e2).1.keep kp2).kf;have p2:=((PR j' a' k' e1' e2').1.keep kp2).kf;dsimp only at ev⊢;rw[p1.1,p2.1] at ev;rw[p1.2,p2.2]
  have jj:j=j':=by
   have l1:(ks.map (·.1))[j]?=some k.1:=by rw[Qam,e2];rfl
   have l2:(ks.map (·.1))[j']?=some k.1:=by rw[Qam,e2',ev];rfl
   obtain⟨b1,c1⟩:=Qaf.mp l1;obtain⟨b2,c2⟩:=Qaf.mp l2;exact(QeO hn).mp (c1.trans c2.symm)
  subst jj;rw[e2] at e2';cases e2';rfl
 ·obtain⟨e,hE⟩:=Qfx (out:=out) hoL;generalize hH:h1.push {cls:=.type "list",data:=.seq (as.map Value.ref).toArray }=H1 at*
  have kf:∀(j:Nat) (a:Addr) (k:List Int×Int),as[j]?=some a→ks[j]?=some k→(kfP H1 (.ref a),kfM H1 (.ref a))=k:=fun j a k e1 e2=>by
   have p1:=((PR j a k e1 e2).1.keep kp2).kf;rw[p1.1,p1.2]
  have ek:(as.map Value.ref).map (fun v=>(kfP H1 v,kfM H1 v))=ks:=by
   apply Qcd;intro i;rw[Qam,Qam];by_cases z:i<as.length
   ·have e1:as[i]?=some as[i]:=Qab z;have e2:ks[i]?=some ks[i]:=Qab (by omega);rw[e1,e2];show some (kfP H1 (.ref as[i]),kfM H1 (.ref as[i]))=_;rw[kf i _ _ e1 e2]
   ·rw[QaW (by omega),QaW (by omega)];rfl
  refine Qae ⟨_,rfl,h out (out.toList.map (fun v=>(kfP H1 v,kfM H1 v))) h1 _ e kp (fun b ob z=> ?_) (by rw[Qac,Qal]) (fun i v u h3 h4=> ?_) ?_ ?_ hE⟩
  ·have hlt:b<h1.objs.size:=Qar z;have hlt2:b<H1.objs.size:=by rw[←hH,QaY];exact Qbs hlt
   rw[Qfp (QaJ hlt) hlt2];rw[←hH];exact Qad _ z
  ·rw[Qam,Qan,h3] at h4;cases h4;have mv:v∈as.map Value.ref:=po.mem_iff.mp (by rw[←Qan] at h3;exact Qap h3);obtain⟨j,a,k,rfl,e1,e2⟩:=at_ v mv;obtain⟨ka,t,y1,y2,y3⟩:=(PR j a k e1 e2).2
   have:=kf j a k e1 e2;have k1:kfP H1 (.ref a)=k.1:=congrArg Prod.fst this;have k2:kfM H1 (.ref a)=k.2:=congrArg Prod.snd this;dsimp only;rw[k1,k2];exact⟨a,ka,t,rfl,na a (Qap e1),y1,y2,y3⟩
  ·have p1:=po.map (fun v=>(kfP H1 v,kfM H1 v));rw[ek] at p1;exact p1
  ·rw[Qb5] at so⊢;exact so
theorem Zfb {k:Nat}(hr:Zdo k X.A):ZcE X (.builtin "sorted") (fun xs H Q=>∃(v d:Addr) (ks:List (List Int×Int)),xs=[.ref v]∧H v=some (.ext (ZiU v d))∧H d=some (.dT (ks.map fun k=>(k.1.map Sum.inl,V.int k.2)))∧ks.length≤1000∧
  ∀(l:Addr) (ps:List V) (ws:List (List Int×Int)) (H':Hp),H l=none→(∀b o,H b=some o→H' b=some o)→H' l=some (.lst ps)→PrL H' ps ws→ws.Perm ks→ws.Pairwise (fun x y=>ZbR y.1 x.1=false)→Q (.ref l) H'):=by
 intro qc s σ H xs us Q I r h;obtain⟨v,d,ks,rfl,hv,hd,h64,q⟩:=h;obtain⟨u,rfl,rx⟩:=ZcZ r;cases rx;obtain⟨iv,_,_⟩:=(show Zbm X.prog X.w H s.heap v (.ext (ZiU v d)) from I.hok v _ hv);obtain⟨_,hsys,xs,rel,o,es,ep,ho,hx,hdat,hes,hn⟩:=(show Zbm X.prog X.w H s.heap d (.dT _) from I.hok d _ hd);obtain⟨rl,ra⟩:=ZkF rel;rw[Qac] at rl
 have row:∀(j:Nat) (e:DictEntry) (k:List Int×Int),es[j]?=some e→ks[j]?=some k→∃(ka:Addr) (t:Tok),e.key= .ref ka∧e.val= .int k.2 t∧H ka=some (.tup (k.1.map V.int)):=fun j e k e1 e2=>by
  rw[←Qan,hes,Qam] at e1
  cases z:xs[j]? with
  |none=>rw[z] at e1;cases e1
  |some x=>
   rw[z] at e1;cases e1;have g:=ra j _ x (by rw[Qam,e2];rfl) z;obtain⟨g1,g2,g3⟩:=g;have g3:ZaY (V.int k.2) x.2.2:=g3;obtain⟨t,g4⟩:=g3;refine⟨x.2.1,t,rfl,g4,?_⟩;have g2:H x.2.1=some (.tup ((k.1.map Sum.inl).map kV)):=g2;rw[QbV] at g2;exact g2
 have tupI:∀(ka:Addr) (u:List Int),H ka=some (.tup (u.map V.int))→Zcf s.heap (.ref ka) u:=fun ka u g=>by
  obtain⟨_,its,rv,o,e,c,n,dd⟩:=(show Zbm X.prog X.w H s.heap ka (.tup (u.map V.int)) from I.hok ka _ g);exact⟨ka,o,its.toArray,n,rfl,e,c,dd,by rw[List.toList_toArray];exact ZbV rv⟩
 have sz:es.size=ks.length:=by rw[←Qal,hes,Qac,←rl]
 have nd:(ks.map (·.1)).Nodup:=by
  have e:xs.map (·.1)=(ks.map (·.1)).map (fun u=>u.map Sum.inl):=by
   apply Qcd;intro j;rw[Qam,QbV,Qam]
   cases z:xs[j]? with
   |none=>rw[QaW (by have:=Qbh.mp z;omega)];rfl
   |some x=>
    have jl:=(Qaf.mp z).1;have e2:ks[j]?=some ks[j]:=Qab (by omega);have g:=ra j _ x (by rw[Qam,e2];rfl) z;rw[e2];show some x.1=some _;rw[←g.1];rfl
  rw[e] at hn;exact(Qb5.mp hn).imp fun h e=>h (by rw[e])
 have hu:X.A.in1.in1.units<cLine:=by
  have:=hr.un;show X.A.units+1+1<cLine;omega
 refine Zg8 (ks:=ks) hu hr.hd iv ⟨o,ho,hx,hdat⟩ (by omega) sz (fun j e k e1 e2=> ?_) nd fun out ws h1 h' e kp kp2 lo hout pm sr hl=> ?_
 ·obtain⟨ka,t,g1,g2,g3⟩:=row j e k e1 e2;rw[g1];exact⟨tupI _ _ g3,t,g2⟩
 ·have hw:∀(i:Nat) (v:Value) (u:List Int×Int),out[i]?=some v→ws[i]?=some u→∃(a ka:Addr) (t:Tok),v= .ref a∧s.heap.objs.size≤a∧h1.get? a=some {cls:=.type "tuple",data:=.seq #[.ref ka,.int u.2 t] }∧H ka=some (.tup (u.1.map V.int)):=fun i v u e1 e2=>by
   obtain⟨a,ka,t,x1,x2,x3,⟨en,x4,x5⟩,x6⟩:=hout i v u e1 e2;obtain⟨j,hj⟩:=Qay.mp x4;rw[Qan] at hj;have jl:=(Qa7.mp hj).1;have kj:ks[j]?=some ks[j]:=Qab (by omega);obtain⟨ka',t',y1,y2,y3⟩:=row j en _ hj kj;rw[x5] at y1;cases y1
   have:=x6.kf.symm.trans (tupI _ _ y3).kf;rw[←this] at y3;exact⟨a,ka,t,x1,x2,x3,y3⟩
  have fresh:∀a,s.heap.objs.size≤a→H a=none:=fun a q=>I.hok.fresh q;have I1:Inv X qc σ H {s with heap:=h1 }:=I.kept (t':=s.toks) kp;have fl:H h1.objs.size=none:=I1.hok.fresh (Qak _)
  have gone:∀a,s.heap.objs.size≤a→s.heap.get? a=none:=fun a q=>by
   cases z:s.heap.get? a with
   |none=>rfl
   |some o=>exact absurd (Qar z) (Nat.not_lt.mpr q)
  have gl:s.heap.get? h1.objs.size=none:=by
   cases z:s.heap.get? h1.objs.size with
   |none=>rfl
   |some o=>exact absurd (Qar (kp _ _ z)) (Qba _)
  have atI:∀a∈out.toList.map adr,∃(ka:Addr) (t:Tok) (u:List Int×Int),s.heap.objs.size≤a∧h1.get? a=some {cls:=.type "tuple",data:=.seq #[.ref ka,.int u.2 t] }∧H ka=some (.tup (u.1.map V.int)):=fun a m=>by
   obtain⟨v,mv,ev⟩:=QaS.mp m;obtain⟨i,hi⟩:=Qay.mp mv;rw[Qan] at hi;have il:=(Qa7.mp hi).1;obtain⟨a',ka,t,x1,x2,x3,x4⟩:=hw i v _ hi (Qab (by omega));rw[x1] at ev;have ev:a'=a:=ev;subst ev;exact⟨ka,t,_,x2,x3,x4⟩
  have ct:∀(a ka:Addr) (m:Int) (t:Tok),h1.get? a=some {cls:=.type "tuple",data:=.seq #[.ref ka,.int m t] }→cont h1 a=some (.tup [.ref ka,.int m]):=fun a ka m t g=>by
   unfold cont;rw[g]
  have wp:∀(a ka:Addr) (m:Int) (t:Tok),a∈out.toList.map adr→s.heap.objs.size≤a→h1.get? a=some {cls:=.type "tuple",data:=.seq #[.ref ka,.int m t] }→Zbv H h1 h1.objs.size (out.toList.map adr) a=some (.tup [.ref ka,.int m]):=fun a ka m t ma sa g=>by
   unfold Zbv;rw[fresh a sa];dsimp only;rw[if_neg (QaJ (Qar g)),if_pos ma,ct a ka m t g]
  have old:∀b o,H b=some o→Zbv H h1 h1.objs.size (out.toList.map adr) b=some o:=fun b o q=>by
   unfold Zbv;rw[q]
  have wl:Zbv H h1 h1.objs.size (out.toList.map adr) h1.objs.size=some (.lst ((out.toList.map adr).map V.ref)):=by
   unfold Zbv;rw[fl];dsimp only;rw[if_pos rfl]
  have o64:out.size≤1000:=by rw[lo,pm.length_eq];omega
  have I2:Inv X qc σ (Zbv H h1 h1.objs.size (out.toList.map adr)) {s with heap:=h',toks:=s.toks }:=by
   refine Inv.more I (fun b u z=>kp2 b u (kp b u z)) old fun b ob nb hb=> ?_;have hb':=hb;unfold Zbv at hb';rw[nb] at hb';dsimp only at hb';by_cases zl:b=h1.objs.size
   ·subst zl;rw[if_pos rfl] at hb';cases hb';refine⟨gl,?_,out.toList,e,?_,?_⟩
    ·rw[Qac,Qac,Qal];exact Qcx (ZbJ (by omega))
    ·have vr:∀l:List Value,(∀v∈l,∃a,v=Value.ref a)→ZaR ((l.map adr).map V.ref) l:=by
      intro l
      induction l with
      |nil=>exact fun _=> .nil
      |cons v l ih=>
       intro hl;obtain⟨a,rfl⟩:=hl v Qai;exact .cons rfl (ih fun z m=>hl z (Qao _ m))
     refine vr _ fun v mv=> ?_;obtain⟨i,hi⟩:=Qay.mp mv;rw[Qan] at hi;have il:=(Qa7.mp hi).1;obtain⟨a',ka,t,x1,_⟩:=hw i v _ hi (Qab (by omega));exact⟨a',x1⟩
    ·rw[hl]
   ·rw[if_neg zl] at hb';by_cases zm:b∈out.toList.map adr
    ·rw[if_pos zm] at hb';obtain⟨ka,t,u,x1,x2,x3⟩:=atI b zm;rw[ct b ka _ t x2] at hb';cases hb';exact⟨gone b x1,(by show 2≤sizeLine;decide),[.ref ka,.int u.2 t],.cons rfl (.cons ⟨t,rfl⟩ .nil),_,kp2 _ _ x2,rfl,_,rfl⟩
    ·rw[if_neg zm] at hb';cases hb'
  refine⟨.ref h1.objs.size,_,I2,rfl,q _ _ ws _ fl old wl ⟨?_,fun i x u e1 e2=> ?_⟩ pm sr⟩
  ·rw[Qac,Qac,Qal,lo]
  ·rw[Qam,Qam,Qan] at e1
   cases z:out[i]? with
   |none=>rw[z] at e1;cases e1
   |some v=>
    rw[z] at e1;obtain⟨a,ka,t,x1,x2,x3,x4⟩:=hw i v u z e2;subst x1;cases e1;refine⟨a,ka,rfl,wp a ka _ t ?_ x2 x3,old _ _ x4⟩;rw[←Qan] at z;exact QaS.mpr ⟨_,Qap z,rfl⟩
theorem ZkT:bootBuiltins "len" =some (.builtin "len"):=by decide +kernel
theorem ZbB {env:Env}{x:Str}(hk:env.scope.kind= .function)(hx:env.kindOf x=some .cell):∀{names:List (Str×NameKind)},names.lookup x=some .free→(names.map fun(n,k)=>if(k==NameKind.free && env.scope.kind== .function && env.kindOf n==some .cell) then(n,NameKind.cell) else(n,k)).lookup x=some .cell
 | [],h=>by cases h
 | (n,k)::ns,h=>by
  rw[QaV];by_cases e:x==n
  ·have e':x=n:=by simpa using e
   subst e';rw[QbF,e] at h;have hk':k= .free:=Qby h;subst hk';have hb:(NameKind.free==NameKind.free && env.scope.kind== .function && env.kindOf x==some .cell)=true:=by rw[hk,hx];rfl
   show List.lookup x ((if(NameKind.free==NameKind.free && env.scope.kind== .function && env.kindOf x==some .cell) then(x,NameKind.cell) else(x,NameKind.free))::_)=_;rw[if_pos hb,QbF,e]
  ·have e1:(x==n)=false:=by simpa using e
   rw[QbF,e1] at h;have ih:=ZbB hk hx h;show List.lookup x ((if(k==NameKind.free && env.scope.kind== .function && env.kindOf n==some .cell) then(n,NameKind.cell) else(n,k))::_)=_;split
   ·rw[QbF,e1];exact ih
   ·rw[QbF,e1];exact ih
theorem ZoL {xs Nb:List Str}{scope0:Scope}{cl:List (Str×Addr)}{C:Addr}{s₂:Shared}{H₂:Hp}{fp:List Addr}{names L:List (Str×NameKind)}(hk:X.env.scope.kind= .function)(hL:X.env.scope.names=L)(h:∀y∈names,y.2=NameKind.free→scope0.names.lookup y.1=some .free∧L.lookup y.1=some .cell):
  ∀y∈names,y.2=NameKind.free→(cxC X xs Nb scope0 cl C s₂ H₂ fp).env.kindOf y.1=some .cell:=fun y hy e=>by
 obtain⟨h1,h2⟩:=h y hy e;refine ZbB hk ?_ h1;show X.env.scope.names.lookup y.1=_;rw[hL];exact h2
theorem ZkU {K:PySem.W.Frag}{a:Expr}{p pos:PySem.Pos}(hc:X.calm=true)(ha:PE X a ta)(hg:Gl X "len")(hm:X.mg "len" =none)(hg2:Gl X "set")(hm2:X.mg "set" =none)(hK:X.K=K:=by rfl)(hsa:starEach [a] X.env=[(false,eval a X.env)]:=by rfl):
  PE X (.Call (.Name "len" p) [.Call (.Name "set" p2) [a] [] qv] [] pos) (fun σ H Q=>ta σ H fun x H1=>∃(l:Addr) (ns:List Int),x= .ref l∧SqL K H1 l (ns.map V.int)∧ns.length≤1000∧Q (.int ((dd ns).length:Nat)) H1):=by
 subst hK;intro qc s σ H Q I h;refine Qbu (ZbS I hg hm ZkT ?_);refine QbU (rest:=[]) ?_ rfl rfl;show wpAny _ _ (spliced ((false,eval (.Call (.Name "set" p2) [a] [] qv) X.env):: [])) _ _ s;refine QbK (Qbu (ZbS I hg2 hm2 ZeU ?_));refine Qbk (rest:=[]) ?_ hsa rfl;rw[hsa];show wpAny _ _ (spliced ((false,eval a X.env):: [])) _ _ s;refine QbK (thn (ha qc s σ H _ I h) fun u s1 ⟨y,H1,I1,r1,l,ns,ey,hq,h64,q⟩=>Qb3 ?_);subst ey;cases r1;obtain⟨its,r,pl,hz⟩:=I1.list hq;have hi:=ZbV r;have hln:its.length=ns.length:=hi.length;refine ZdO (I1.ok.hd hc) pl.isList (by simpa using hi) (by simp[hln,scanBound];omega) fun h2 tk hj hk=>Qb3 ?_;have I2:Inv X qc σ H1 {s1 with heap:=h2,toks:=tk }:=I1.kept fun b ob z=>hk b ob (Qar z) z;obtain⟨o,es,ep,t,ho,hx,hd,_,hms,_,hf,_⟩:=hj;have hz:=Zc3.size (prog:=X.prog) (w:=X.w) (o:=o) hms
 have:=ZcS ns;exact call_len_set (s:={s1 with heap:=h2,toks:=tk }) ho hx hd hf (by rw[hz];omega) ⟨.int _,H1,I2.tok _,⟨_,by rw[hz]⟩,q⟩
def ZrS (K:PySem.W.Frag):R2:=fun x y H Q=>∃(dx:PyData) (ds:List PyData),DI K H y (.list ds)∧DI K H x dx∧PyData.canLayAll0 ds=true∧dx.canLay0=true∧PyData.depthAll ds≤40∧Q (.bl (ds.any fun d=>PyData.eqv d dx)) H
theorem ZoM {K:PySem.W.Frag}{k:Nat}(hr:Zdo k X.A)(hK:X.K=K:=by rfl):OpR X (compareOp .In) (ZrS K):=by
 subst hK;intro qc s σ H x y v v' Q I rx ry h;obtain⟨dx,ds,hy,hx,cy,cx,hd,q⟩:=h;obtain⟨as,ra⟩:=hx.reads I rx;obtain⟨bs,rb⟩:=hy.reads I ry;have hu:=hr.units;exact SeqAt.in_list_reads rb ra cy cx (by have:=QcI (PyData.depthAll ds) dx.depth;omega) ⟨.bl _,H,I,rfl,q⟩
end L2
namespace Toy
open PySem L2 PyProof.Rows
variable {H H' H1 H2:Hp}{f d p:Addr}{fd:FuncData}{o:HO}{P:Program}{w:World}{mg:Str→Option Value}{base:Heap}{m:Int}{ss:List Int}
def top (i:Nat):Stmt:=PySem.Challenge.pw_farcords_k22_whole_rooms_hang_on_what_is.main.body.getD i (.Pass ⟨0,0,0,0⟩)
structure Kn (P:Program)(w:World)(K:PySem.W.Frag)(mg:Str→Option Value)(base:Heap)(x:Str)(k:Nat)(ps:List Str)(sp:Sp):Prop where
 ex:∃(f:Addr) (fd:FuncData),ZbK P w K mg base CX0 k f fd ps sp∧mg x=some (.ref f)∧PySem.W.keepIn K (.ref f)=true∧Ziv K fd ps []
theorem Zag {X:Cx}{x:Str}{k j:Nat}{ps:List Str}{sp:Sp}{e:Expr}{es:List Expr}{t:TA}{p pos:PySem.Pos}(G:Kn X.prog X.w X.K X.mg X.base x k ps sp)(hr:Zdo j X.A)(hg:Gl X x)(ha:PA X (e::es) t)(hle:k≤j:=by decide)
  (hdb:(x==("__debug__" :Str))=false:=by decide)
  (he:starEach (e::es) X.env=(false,eval e X.env)::starEach es X.env:=by rfl) (hpl:(backTo pos (starEach es X.env)).any (·.1)=false:=by rfl):PE X (.Call (.Name x p) (e::es) [] pos) (ZaK sp [] E0 t):=by
 obtain⟨f,fd,F,hm,hk,hb⟩:=G.ex;exact Zn4 F (hr.mono hle) hg hm hk hb .nil Zrb ha hdb he hpl
structure Txt (mg:Str→Option Value):Prop where
 len:mg "len" =none
 range:mg "range" =none
 min:mg "min" =none
 max:mg "max" =none
 isinstance:mg "isinstance" =none
 bool:mg "bool" =none
 int:mg "int" =none
 tuple:mg "tuple" =none
 list:mg "list" =none
 str:mg "str" =none
 all:mg "all" =none
 sum:mg "sum" =none
 sorted:mg "sorted" =none
def Zbq (H:Hp)(d:Addr):Prop:=∃a b:Int,H d=some (.lst [.int a,.int b])∧0≤b∧b<2147483648
def But (d:Addr)(H H':Hp):Prop:=∀c o,H c=some o→c≠d→H' c=some o
theorem But.refl (d:Addr)(H:Hp):But d H H:=fun _ _ e _=>e
theorem But.trans (a:But d H H1)(b:But d H1 H2):But d H H2:=fun c o e n=>b c o (a c o e n) n
theorem But.upd {d:Addr}{H H':Hp}{o:HO}(a:But d H H'):But d H (upd H' d o):=fun c u e n=>by rw[Zak n];exact a c u e n
theorem But.new (a:But d H H')(h:H' p=none):But d H (L2.upd H' p o):=fun c u e n=>by
 have:=a c u e n;rw[Zak (Zah this h)];exact this
theorem Zbq.new (a:Zbq H d)(h:H p=none):Zbq (L2.upd H p o) d:=by
 obtain⟨x,y,e,r⟩:=a;exact⟨x,y,by rw[Zak (Zah e h)];exact e,r⟩
theorem Zam.new (a:Zam H H')(h:H' p=none):Zam H (L2.upd H' p o):=fun c u e=>by
 have:=a c u e;rw[Zak (Zah this h)];exact this
theorem Zqj (h0:0<m)(h:m<10^100):m.natAbs.log2<9000:=by
 have h2:m.natAbs<2^400:=by
  have:(10:Int) ^100≤2^400:=by decide +kernel
  omega
 have:=(Nat.log2_lt (n:=m.natAbs) (k:=400) (by omega)).mpr h2;omega
theorem ZoN (h0:0<m)(h:m<10^100):((Builtin.Int.intBits m:Nat):Int)≤400:=by
 have h2:m.natAbs<2^400:=by
  have:(10:Int) ^100≤2^400:=by decide +kernel
  omega
 have:=(Nat.log2_lt (n:=m.natAbs) (k:=400) (by omega)).mpr h2;have hne:(m==0)=false:=by simp;omega
 unfold Builtin.Int.intBits;simp only[hne];simp;omega
section
variable {K:PySem.W.Frag}
abbrev ZbQ:Stmt:=top 25
theorem Zd5:Zaw ["_law_script", "_law_k"] ["_law_script", "_law_k"] (Zaj ZbQ):=⟨rfl,rfl,rfl,by decide +kernel,rfl,by decide +kernel,by decide +kernel⟩
def ZnM (K:PySem.W.Frag):Sp:=fun vs H Q _=>∃(a:Addr) (ns:List Int) (k:Int),vs=[.ref a,.int k]∧SqL K H a (ns.map V.int)∧0≤k∧∀n:Int,Q (.int n) H
theorem ZoO (F:Fun K "_law_cell_at" "_law_cell_at" ZbQ f fd)(M:Txt mg):ZbK P w K mg base CX0 1 f fd ["_law_script", "_law_k"] (ZnM K):=by
 have sc:=Zd5;refine F.ok sc (fun vs H Q E h=> ?_) (fun cdv A outer s H vs Q E hr h=> ?_)
 ·obtain⟨a,ns,k,rfl,_⟩:=h;rfl
 ·obtain⟨a,ns,i,rfl,hS,h0,k⟩:=h
  refine⟨_,(Zac (Zbn (ZaG Zit (pv 1) (Zaz (Za7 (K:=K)) (by rfl) M.len Qcg (Zaa (pv 0) Zad)) (ZaI _)) (Zai (Zax (ZaC (Zat (K:=K)) (pv 0) (pv 1) (fun _ _=>rfl)))) ZaF)
   (Zai (Zax Zae))),?_⟩
  refine⟨_,rfl,_,rfl,a,_,rfl,.inl hS,_,_,rfl,rfl,_,rfl,?_⟩;refine Zfv (fun e=> ?_) (fun e=> ?_)
  ·have e:=QaQ e;rw[Qac] at e;have hlt:i.toNat<ns.length:=by omega
   refine⟨_,rfl,_,rfl,a,_,_,V.int (ns[i.toNat]),rfl,rfl,hS,?_,k _⟩
   have:=ZaZ (xs:=ns.map V.int) (j:=i.toNat) (v:=V.int (ns[i.toNat])) (by rw[Qam,Qab hlt];rfl);rw[Qb2 h0] at this;exact this
  ·exact k 0
abbrev Zcm:Stmt:=top 26
theorem Zfc:Zaw ["_law_script", "_law_at", "_law_cell", "_law_seed", "_law_k"] ["_law_script", "_law_at"] (Zaj Zcm):=⟨rfl,rfl,rfl,by decide +kernel,rfl,by decide +kernel,by decide +kernel⟩
def ZkV (K:PySem.W.Frag):Sp:=fun vs H Q _=>∃(a:Addr) (ns:List Int) (k:Int),vs=[.ref a,.int k]∧SqL K H a (ns.map V.int)∧0≤k∧k≤1000∧∀(d:Addr) (H':Hp),H d=none→Zbq H' d→Zam H H'→Q (.ref d) H'
theorem Zmy (F:Fun K "_law_purse" "_law_purse" Zcm f fd)(M:Txt mg)(G_law_cell_at:Kn P w K mg base "_law_cell_at" 1 ["_law_script", "_law_k"] (ZnM K)):ZbK P w K mg base CX0 2 f fd ["_law_script", "_law_at"] (ZkV K):=by
 have sc:=Zfc;refine F.ok sc (fun vs H Q E h=> ?_) (fun cdv A outer s H vs Q E hr h=> ?_)
 ·obtain⟨a,ns,k,rfl,_⟩:=h;rfl
 ·obtain⟨a,ns,i,rfl,hS,h0,h1,k⟩:=h
  refine⟨_,(Zac (Zap (i:=2) sc.nd rfl (Or.inl rfl) (Zag G_law_cell_at hr rfl (Zaa (pv 0) (Zaa (pv 1) Zad))))
   (Zac (Zbn (ZaG Zn2 (pv 2) (Zau ZhH Zae Zae) (ZaI _)) (Zai (Zax (ZaO (ZcQ (pv 2) Zae Zad)))) ZaF)
   (Zac (Zap (i:=3) sc.nd rfl (Or.inl rfl) (Zau ZaP (Zau ZcN Zae (pv 1)) Zae))
   (Zac (Zbh Qa4 rfl (Zbg rfl M.range (Zao Zae Zad)) (Zal (i:=4) sc.nd rfl (Or.inl rfl))
   (Zac (Zap (i:=3) sc.nd rfl (Or.inl rfl) (Zau ZaP (Zau ZaP (Zau ZcN (pv 3) Zae) (Zau Zeo (Zag G_law_cell_at hr rfl (Zaa (pv 0) (ZaM (Zau ZaP (pv 1) (pv 4)) Zad))) Zae)) (Zau ZcN Zae (pv 4))))
   (Zai (Zap (i:=3) sc.nd rfl (Or.inl rfl) (Zau Zeo (pv 3) Zae)))))
   (Zai (Zax (ZaO (ZcQ Zae (Zau ZaP (pv 3) Zae) Zad)))))))),?_⟩
  refine⟨_,rfl,_,rfl,a,ns,i,rfl,hS,h0,fun cell=> ?_⟩;refine⟨_,rfl,_,_,rfl,rfl,⟨by decide,by decide,by decide⟩,_,_,rfl,rfl,_,rfl,?_⟩;refine Zfv (fun e=> ?_) (fun e=> ?_)
  ·refine⟨_,rfl,(by show 2≤sizeLine;decide),fun d hd=> ?_⟩;exact k d _ hd ⟨_,_,Zab,by decide,by decide⟩ (Zam.new (Zam.refl _) hd)
  ·refine⟨_,rfl,_,_,rfl,rfl,.inl ⟨by decide,by decide⟩,_,_,rfl,rfl,?_⟩;refine⟨9,rfl,by decide,by decide,ZbI (n:=9) (fun j σ H'=>∃(c kk:Option V) (seed:Int),σ=[some (.ref a),some (.int i),c,some (.int seed),kk]∧0≤seed∧seed<2147483629∧H'=H) ⟨_,_,_,rfl,by omega,by omega,rfl⟩ ?_ ?_⟩
   ·rintro j σ H' hj ⟨c,kk,seed,rfl,hs0,hs1,rfl⟩;refine⟨_,rfl,_,_,rfl,rfl,.inl ⟨by omega,by omega⟩,?_⟩;refine⟨_,rfl,_,rfl,_,rfl,_,_,rfl,rfl,a,ns,_,rfl,hS,by omega,fun cell'=> ?_⟩;refine⟨_,_,rfl,rfl,(by show(0:Int)<2147483647;decide),_,_,rfl,rfl,_,rfl,_,_,rfl,rfl,.inl ⟨by decide,by decide⟩,_,_,rfl,rfl,?_⟩;refine⟨_,rfl,_,_,rfl,rfl,(by show(0:Int)<2147483629;decide),?_⟩;exact⟨_,_,_,rfl,Qdr _ (by decide),QcS _ (by decide),rfl⟩
   ·rintro σ H' ⟨c,kk,seed,rfl,hs0,hs1,rfl⟩;refine⟨_,rfl,_,_,rfl,rfl,(by show 2≤sizeLine;decide),fun d hd=> ?_⟩;exact k d _ hd ⟨_,_,Zab,by omega,by omega⟩ (Zam.new (Zam.refl _) hd)
abbrev ZcI:Stmt:=top 27
theorem Zf4:Zaw ["_law_draw", "_law_many", "_law_digit", "_law_found", "_law_k"] ["_law_draw", "_law_many"] (Zaj ZcI):=⟨rfl,rfl,rfl,by decide +kernel,rfl,by decide +kernel,by decide +kernel⟩
def Zd6:Sp:=fun vs H Q _=>∃(d:Addr) (m:Int),vs=[.ref d,.int m]∧Zbq H d∧0<m∧m<10^100∧∀(r:Int) (H':Hp),0≤r→r<m→Zbq H' d→But d H H'→Q (.int r) H'
theorem ZoP (F:Fun K "_law_take" "_law_take" ZcI f fd)(M:Txt mg):ZbK P w K mg base CX0 1 f fd ["_law_draw", "_law_many"] Zd6:=by
 have sc:=Zf4;refine F.ok sc (fun vs H Q E h=> ?_) (fun cdv A outer s H vs Q E hr h=> ?_)
 ·obtain⟨a,k,rfl,_⟩:=h;rfl
 ·obtain⟨d,m,rfl,⟨a,b,hd,hb0,hb1⟩,hm0,hm1,k⟩:=h;have hlog:=Zqj hm0 hm1;have hbits:=ZoN hm0 hm1
  refine⟨_,(Zac (Zbn (ZaG ZeI (ZaC (Zat (K:=K)) (pv 0) Zae (fun _ _=>rfl)) Zae (ZaI _)) (Zac (Zap (i:=2) sc.nd rfl (Or.inl rfl) (Zau Zeo (ZaC (Zat (K:=K)) (pv 0) Zae (fun _ _=>rfl)) (pv 1)))
   (Zac (ZcM (Zau Zdq (ZaC (Zat (K:=K)) (pv 0) Zae (fun _ _=>rfl)) (pv 1)) (ZhC (pv 0) Zae Zdp))
   (Zai (Zax (pv 2))))) ZaF)
   (Zac (Zap (i:=3) sc.nd rfl (Or.inl rfl) Zae)
   (Zac (Zbh Qa4 rfl (Zbg rfl M.range (ZaM (Zau ZaP Zae (Zau Zdq (Zjv PySem.F.plainAttrs_int PySem.F.slot_int_bit_length PySem.F.type_int_bit_length Zn9 (pv 1)) Zae)) Zad)) (Zal (i:=4) sc.nd rfl (Or.inl rfl))
   (Zac (ZcM (Zau Zeo (Zau ZcN (ZaC (Zat (K:=K)) (pv 0) Zae (fun _ _=>rfl)) Zae) Zae) (ZhC (pv 0) Zae Zdp))
   (Zai (Zap (i:=3) sc.nd rfl (Or.inl rfl) (Zau ZaP (Zau ZcN (pv 3) Zae) (Zau Zeo (Zau ZcN (ZaC (Zat (K:=K)) (pv 0) Zae (fun _ _=>rfl)) (ZaC (Zat (K:=K)) (pv 0) Zae (fun _ _=>rfl))) Zae))))))
   (Zai (Zax (Zau Zeo (Zau Zdq (pv 3) Zae) (pv 1))))))),?_⟩
  refine⟨_,rfl,d,_,_,_,rfl,rfl,SqL.of hd,rfl,rfl,_,rfl,?_⟩;refine Zfv (fun e=> ?_) (fun e=> ?_)
  ·refine⟨_,rfl,d,_,_,_,rfl,rfl,SqL.of hd,rfl,_,rfl,_,_,rfl,rfl,hm0,?_⟩;refine⟨_,rfl,d,_,_,_,rfl,rfl,SqL.of hd,rfl,_,rfl,_,_,rfl,rfl,⟨hm0,hlog⟩,_,rfl,d,_,_,_,rfl,rfl,hd,rfl,?_⟩;refine⟨_,rfl,?_⟩;exact k _ _ (Qdr _ (by omega)) (QcS _ hm0) ⟨_,_,Zab,hb0,hb1⟩ (But.upd (But.refl _ _))
  ·refine⟨_,rfl,rfl,_,rfl,rfl,_,_,rfl,rfl,⟨by decide,by decide⟩,_,_,rfl,rfl,?_⟩;refine⟨_,rfl,by omega,by omega,ZbI (fun j σ H'=>∃(c kk:Option V) (found b':Int),σ=[some (.ref d),some (.int m),c,some (.int found),kk]∧H' d=some (.lst [.int a,.int b'])∧0≤b'∧b'<2147483648∧But d H H') ⟨_,_,_,b,rfl,hd,hb0,hb1,But.refl _ _⟩ ?_ ?_⟩
   ·rintro j σ H' hj ⟨c,kk,found,b',rfl,hd',hb0',hb1',bt⟩;refine⟨_,rfl,d,_,_,_,rfl,rfl,SqL.of hd',rfl,_,_,rfl,rfl,.inl ⟨by omega,by omega⟩,_,_,rfl,rfl,(by show(0:Int)<2147483647;decide),_,rfl,d,_,_,_,rfl,rfl,hd',rfl,?_⟩;have z0:0≤b'*48271%2147483647:=Qdr _ (by decide);have z1:b'*48271%2147483647<2147483647:=QcS _ (by decide);refine⟨_,rfl,_,_,rfl,rfl,.inr ⟨by decide,by decide⟩,?_⟩;refine⟨_,rfl,d,_,_,_,rfl,rfl,SqL.of Zab,rfl,_,rfl,d,_,_,_,rfl,rfl,SqL.of Zab,rfl,_,_,rfl,rfl,.inl ⟨by omega,by omega⟩,_,_,rfl,rfl,(by show(0:Int)<2147483629;decide),_,_,rfl,rfl,?_⟩;exact⟨_,_,_,_,rfl,Zab,z0,by omega,But.upd bt⟩
   ·rintro σ H' ⟨c,kk,found,b',rfl,hd',hb0',hb1',bt⟩;refine⟨_,rfl,_,_,rfl,rfl,⟨by decide,by decide⟩,_,rfl,_,_,rfl,rfl,hm0,?_⟩;exact k _ _ (Qdr _ (by omega)) (QcS _ hm0) ⟨_,_,hd',hb0',hb1'⟩ bt
end
theorem Zbq.ne (P:Zbq H d)(h:H p=none):p≠d:=by
 obtain⟨x,y,e,_⟩:=P;exact(Zah e h).symm
theorem But.free (e:But d H H')(hP:Zbq H' d)(h:H' p=none):H p=none:=by
 cases z:H p with
 |none=>rfl
 |some o=>
  by_cases q:p=d
  ·subst q;obtain⟨x,y,e',_⟩:=hP;rw[h] at e';cases e'
  ·rw[e p o z q] at h;cases h
theorem But.tups (B:But d H H')(P:Zbq H d):Za8 H H':=fun b ys e=>B b _ e (fun z=>by
 obtain⟨x,y,e',_⟩:=P
 rw[z,e'] at e;cases e)
theorem But.own (B:But d H H')(h:H p=none):But d H (L2.upd H' p o):=fun c u e n=>by
 rw[Zak (Zah e h)];exact B c u e n
theorem Zbq.own (P:Zbq H d)(h:p≠d):Zbq (L2.upd H p o) d:=by
 obtain⟨x,y,e,r⟩:=P;exact⟨x,y,by rw[Zak (Ne.symm h)];exact e,r⟩
theorem But.same (B:But d H H1)(s:Zam H1 H2):But d H H2:=fun c o e n=>s c o (B c o e n)
theorem Zam.purse (s:Zam H H')(P:Zbq H d):Zbq H' d:=by
 obtain⟨x,y,e,r⟩:=P;exact⟨x,y,s _ _ e,r⟩
section
variable {K:PySem.W.Frag}
abbrev Zcb:Stmt:=top 28
theorem Zei:Zaw ["_law_draw", "_law_way", "_law_figure"] ["_law_draw"] (Zaj Zcb):=⟨rfl,rfl,rfl,by decide +kernel,rfl,by decide +kernel,by decide +kernel⟩
def Zid:Sp:=fun vs H Q _=>∃(d:Addr),vs=[.ref d]∧Zbq H d∧∀(r:Int) (H':Hp),-(10^62)<r→r<10^62→Zbq H' d→But d H H'→Q (.int r) H'
theorem ZkW (F:Fun K "_law_number" "_law_number" Zcb f fd)(M:Txt mg)(G_law_take:Kn P w K mg base "_law_take" 1 ["_law_draw", "_law_many"] Zd6):ZbK P w K mg base CX0 2 f fd ["_law_draw"] Zid:=by
 have sc:=Zei;refine F.ok sc (fun vs H Q E h=> ?_) (fun cdv A outer s H vs Q E hr h=> ?_)
 ·obtain⟨d,rfl,_⟩:=h;rfl
 ·obtain⟨d,rfl,hP,k⟩:=h
  refine⟨_,(Zac (Zap (i:=1) sc.nd rfl (Or.inl rfl) (Zag G_law_take hr rfl (Zaa (pv 0) (Zao Zae Zad))))
   (Zac (Zbn (ZaG Zit (pv 1) Zae (ZaI _)) (Zai (Zax (Zau Zbz (Zag G_law_take hr rfl (Zaa (pv 0) (Zao Zae Zad))) Zae))) ZaF)
   (Zac (Zap (i:=2) sc.nd rfl (Or.inl rfl) (Zag G_law_take hr rfl (Zaa (pv 0) (ZaD (ZaC (Zat (K:=K)) (ZaO (ZlQ (Zau ZhH Zae Zae) (Zau ZhH Zae Zae) (Zau ZhH Zae Zae) Zad)) (Zau Zbz (pv 1) Zae) (fun _ _=>rfl)) Zad))))
   (Zai (Zax (Zau ZcN (pv 2) (Zau Zbz Zae (Zau ZcN Zae (Zag G_law_take hr rfl (Zaa (pv 0) (Zao Zae Zad))))))))))),?_⟩
  refine⟨_,rfl,d,8,rfl,hP,by decide,by decide,fun way H1 w0 w1 P1 B1=> ?_⟩;refine⟨_,rfl,_,_,rfl,rfl,_,rfl,Zfv (fun e=> ?_) (fun e=> ?_)⟩
  ·refine⟨_,rfl,d,9,rfl,P1,by decide,by decide,fun r H2 r0 r1 P2 B2=>⟨_,_,rfl,rfl,?_⟩⟩;exact k _ H2 (by omega) (by omega) P2 (B1.trans B2)
  ·have e:=Qa5 (QdB.mpr e);refine⟨_,rfl,_,_,rfl,rfl,⟨by decide,by decide,by decide⟩,_,_,rfl,rfl,⟨by decide,by decide,by decide⟩,_,_,rfl,rfl,⟨by decide,by decide,by decide⟩,(by show 3≤sizeLine;decide),fun l hl=> ?_⟩;have hc:way=5∨way=6∨way=7:=by omega
   rcases hc with rfl|rfl|rfl
   all_goals
    refine⟨_,rfl,_,_,rfl,rfl,l,_,_,_,rfl,rfl,SqL.of Zab,rfl,?_⟩;refine⟨d,_,rfl,P1.new hl,by decide,by decide,fun r H2 r0 r1 P2 B2=> ?_⟩;refine⟨_,rfl,_,rfl,d,2,rfl,P2,by decide,by decide,fun b H3 b0 b1 P3 B3=> ?_⟩;refine⟨_,_,rfl,rfl,.inl ⟨by decide,by decide⟩,_,_,rfl,rfl,_,_,rfl,rfl,.inr ⟨by omega,by omega⟩,?_⟩;have r1':r<10^62:=Qed r1 (by decide);have hb:b=0∨b=1:=by omega
    rcases hb with rfl|rfl
    ·exact k _ H3 (by omega) (by omega) P3 (((B1.new hl).trans B2).trans B3)
    ·exact k _ H3 (by omega) (by omega) P3 (((B1.new hl).trans B2).trans B3)
abbrev Zbs:Stmt:=top 29
theorem Zd7:Zaw ["_law_draw", "_law_wide_here"] ["_law_draw", "_law_wide_here"] (Zaj Zbs):=⟨rfl,rfl,rfl,by decide +kernel,rfl,by decide +kernel,by decide +kernel⟩
def ZqY (wd:Int)(ns:List Int):Prop:=ns.length=wd.toNat∧∀z∈ns,-(10^62)<z∧z<10^62
def Zf5:Sp:=fun vs H Q _=>∃(d:Addr) (wd:Int),vs=[.ref d,.int wd]∧Zbq H d∧1≤wd∧wd≤24∧∀(p:Addr) (ns:List Int) (H':Hp),H p=none→H' p=some (.tup (ns.map V.int))→ZqY wd ns→Zbq H' d→But d H H'→Q (.ref p) H'
theorem ZiW (F:Fun K "_law_weights" "_law_weights" Zbs f fd)(M:Txt mg)(G_law_number:Kn P w K mg base "_law_number" 2 ["_law_draw"] Zid):ZbK P w K mg base CX0 3 f fd ["_law_draw", "_law_wide_here"] Zf5:=by
 have sc:=Zd7;refine F.ok sc (fun vs H Q E h=> ?_) (fun cdv A outer s H vs Q E hr h=> ?_)
 ·obtain⟨d,wd,rfl,_⟩:=h;rfl
 ·obtain⟨d,wd,rfl,hP,w1,w2,k⟩:=h;refine⟨_,(Zai (Zax (ZaU ZbC (by rfl) M.tuple QfE (ZaA (Zbj (xs:=["_law_k"]) (Nb:=["_law_draw", "_law_wide_here"]) rfl (Zbg rfl M.range (Zaa (pv 1) Zad)) rfl (by show∀p∈(List.zip ["_law_draw", "_law_wide_here"] ["_law_draw", "_law_wide_here"]:List (Str×Str)),_;decide +kernel) (by decide +kernel) (fun cl C s₂ H₂ fp=>(Zal (i:=0) (by show List.Nodup (["_law_k", "_law_draw", "_law_wide_here"]:List Str);decide +kernel) rfl (Or.inl (Qau rfl)) (Or.inr (Qau rfl)))) (fun cl C s₂ H₂ fp=>Za3) (fun cl C s₂ H₂ fp=>(Zag G_law_number hr rfl (Zaa (pv 1) Zad))) (by decide +kernel) rfl (by decide +kernel) (by show∀y∈(_:List (Str×NameKind)),y.2=NameKind.free→(Zaj Zbs).names.lookup y.1=some .cell;decide +kernel)) Zad)))),?_⟩;refine⟨_,rfl,_,rfl,by omega,by omega,ZpD (fun i ys H'=>(∃ns:List Int,ys=ns.map V.int∧ns.length=i∧∀z∈ns,-(10^62)<z∧z<10^62)∧Zbq H' d∧But d H H') ⟨⟨[],rfl,rfl,fun z hz=>by simp at hz⟩,hP,But.refl _ _⟩ (by omega) (fun i ys H' h=>by obtain⟨⟨ns,rfl,e,_⟩,_⟩:=h;rw[Qac,e];exact Qak _) ?_ ?_⟩
  ·rintro i ys H' pre hp hi ⟨⟨ns,rfl,e,hbd⟩,P1,B1⟩;rcases pre with _|⟨p0,_|⟨p1,pre⟩⟩
   ·cases hp
   ·refine⟨⟨[some _],rfl,rfl⟩,?_⟩;unfold Zc1;dsimp only;rw[if_pos (rfl:true=true)];refine⟨_,rfl,d,rfl,P1,fun r H2 r0 r1 P2 B2=> ?_⟩
    exact⟨⟨ns++ [r],by rw[QaG];rfl,by rw[Qag,e];rfl,fun z hz=>by
     rcases Qaq.mp hz with q|q
     ·exact hbd z q
     ·rw[Qaj.mp q];exact⟨r0,r1⟩⟩,P2,B1.trans B2⟩
   ·cases hp
  ·rintro ys H' ⟨⟨ns,rfl,e,hbd⟩,P1,B1⟩ D hD;refine⟨D,_,rfl,.inl ⟨SqL.of Zab,fun l hl=> ?_⟩⟩;have B2:=B1.new (o:=.lst (ns.map V.int)) hD;have P2:=P1.new (o:=.lst (ns.map V.int)) hD;exact k l ns _ (B2.free P2 hl) Zab ⟨e,hbd⟩ (P2.new hl) (B2.new hl)
end
theorem Zam.own (a:Zam H H')(h:H p=none):Zam H (L2.upd H' p o):=fun c u e=>by
 rw[Zak (Zah e h)];exact a c u e
theorem ZiX (acc:List (Int×List Int))(e:Int×List Int):(Zbl acc e).length≤acc.length+1:=by
 unfold Zbl;split
 ·split
  ·split
   ·rw[Qag,QcD,Qb4];omega
   ·rw[Qag,Qb4];exact Qak _
  ·rw[Qag,Qb4];exact Qak _
 ·omega
theorem Zf6 (L:List (Int×List Int)):(Zb2 L).length≤L.length:=by
 have key:∀(L acc:List (Int×List Int)),(L.foldl Zbl acc).length≤acc.length+L.length:=by
  intro L
  induction L with
  |nil=>intro acc;exact Qak _
  |cons e L ih=>
   intro acc;rw[QbX,QaM]
   have:=ih (Zbl acc e)
   have:=ZiX acc e;omega
 have:=key L [];unfold Zb2;simpa using this
theorem ZkX {p:List Int→Prop}{L:List (Int×List Int)}(h:∀e∈L,p e.2):∀e∈Zb2 L,p e.2:=by
 have key:∀(L acc:List (Int×List Int)),(∀e∈L,p e.2)→(∀e∈acc,p e.2)→∀e∈L.foldl Zbl acc,p e.2:=by
  intro L
  induction L with
  |nil=>intro acc _ h;exact h
  |cons x L ih=>
   intro acc hL ha;rw[QbX];refine ih _ (fun e he=>hL e (Qao _ he)) ?_;have hx:=hL x Qai;have snoc:∀e∈acc++ [x],p e.2:=fun e he=>(Qaq.mp he).elim (ha e) fun z=>by rw[Qaj] at z;subst z;exact hx
   unfold Zbl;split
   ·split
    ·split
     ·intro e he;rcases Qaq.mp he with z|z
      ·exact ha e (QdQ _ z)
      ·rw[Qaj] at z;subst z;exact hx
     ·exact snoc
    ·exact snoc
   ·exact ha
 exact key L [] h (fun e he=>by simp at he)
section
variable {K:PySem.W.Frag}
abbrev Zcn:Stmt:=top 30
theorem Zfd:Zaw ["_law_pieces", "_law_found", "_law_many", "_law_weights_here"] ["_law_pieces"] (Zaj Zcn):=⟨rfl,rfl,rfl,by decide +kernel,rfl,by decide +kernel,by decide +kernel⟩
def ZkY (K:PySem.W.Frag):Sp:=fun vs H Q _=>∃(a:Addr) (xs:List V) (L:List (Int×List Int)),vs=[.ref a]∧SqL K H a xs∧Wg H xs L∧L.length≤1000∧∀(b:Addr) (ys:List V) (H':Hp),H b=none→H' b=some (.lst ys)→Wg H' ys (Zb2 L)→Zam H H'→Q (.ref b) H'
theorem Zmz (F:Fun K "_law_shape" "_law_shape" Zcn f fd)(M:Txt mg):ZbK P w K mg base CX0 1 f fd ["_law_pieces"] (ZkY K):=by
 have sc:=Zfd;refine F.ok sc (fun vs H Q E h=> ?_) (fun cdv A outer s H vs Q E hr h=> ?_)
 ·obtain⟨a,xs,L,rfl,_⟩:=h;rfl
 ·obtain⟨a,xs,L,rfl,hS,g,hL,k⟩:=h
  refine⟨_,(Zac (Zap (i:=1) sc.nd rfl (Or.inl rfl) (ZaO Zad))
   (Zac (Zbh Qa4 rfl (ZaT (pv 0)) (Zce rfl (Zas (Zal (i:=2) sc.nd rfl (Or.inl rfl)) (Zas (Zal (i:=3) sc.nd rfl (Or.inl rfl)) Zbf)))
   (Zai (Zbn (ZaG Zgu (pv 2) Zae (ZaI _)) (Zac (Zbn (PW.pt (Zjj (ZaG (ZdK hr) (pv 1) (ZaO Zad) (ZaI _)) (Zgs (ZaG (Znd hr) (ZaC (ZaJ (K:=K)) (ZaC (Zat (K:=K)) (pv 1) (Zq6 Zpv Zae) (fun _ _=>rfl)) Zae (fun _ _=>rfl)) (pv 3) (ZaI _))))) (Zai (Zap (i:=2) sc.nd rfl (Or.inl rfl) (Zau ZaP (pv 2) (ZaC (ZaJ (K:=K)) (Zjv Qa2 Qfj Qfk Zna (pv 1)) Zae (fun _ _=>rfl))))) ZaF)
   (Zai (ZbH (ZdI Qa2 Qbe Qbf Za6 (pv 1) (Zdr (Zcg (ZcQ (pv 2) (pv 3) Zad)) Zad))))) ZaF)))
   (Zai (Zax (pv 1))))),?_⟩
  refine⟨(by show 0≤sizeLine;decide),fun b fb=> ?_⟩;refine⟨_,rfl,a,rfl,⟨xs,(Zam.new (Zam.refl H) fb).seq hS⟩,Zbi (K:=K) (a:=a) (xs:=xs) (fun i σ H'=>∃(m v:Option V) (ys:List V),σ=[some (.ref a),some (.ref b),m,v]∧H' b=some (.lst ys)∧Wg H' ys (Zb2 (L.take i))∧Zam H H') ⟨_,_,[],rfl,Zab,Wg.nil _,Zam.new (Zam.refl H) fb⟩ (fun i σ H' _ ⟨_,_,_,_,_,_,z⟩=>z.seq hS) ?_ ?_⟩
  ·rintro i x σ H1 hx ⟨m,v,ys,rfl,h1b,g1,s1⟩;obtain⟨e,hei,q,wq,rfl,hq,hw⟩:=g.at' hx;have hq1:=s1 _ _ hq;have hw1:=s1 _ _ hw;have hi:i<L.length:=(Qaf.mp hei).1;have lys:ys.length≤i:=by have:=Zf6 (L.take i);have:=g1.1;rw[QaR] at*;omega
   refine⟨q,_,rfl,SqT.of hq1,rfl,_,_,rfl,_,_,rfl,rfl,?_⟩;refine⟨_,rfl,_,_,rfl,rfl,_,rfl,Zfv (fun hc=> ?_) (fun hc=> ?_)⟩
   ·have hpos:0<e.1:=QaQ hc;refine⟨_,rfl,(by show 0≤sizeLine;decide),fun l hl=> ?_⟩;have nlb:l≠b:=fun z=>by rw[z,h1b] at hl;cases hl
    have s2:Zam H (upd H1 l (.lst [])):=Zam.new s1 hl;have T2:Za8 H1 (upd H1 l (.lst [])):=(Za8.refl H1).new hl;have h2b:(upd H1 l (.lst [])) b=some (.lst ys):=by rw[Zak (Ne.symm nlb)];exact h1b
    have hlN:(upd H1 l (.lst [])) l=some (.lst []):=Zab;have hw2:=T2 _ _ hw1;have hq2:=T2 _ _ hq1;have g2:=g1.up T2;generalize upd H1 l (.lst [])=H2 at s2 T2 h2b hlN hw2 hq2 g2⊢;refine⟨_,_,g2.di (SqL.of h2b),ZpI (SqL.of hlN),ZjD _,ZjD _,Zne _,_,rfl,?_⟩;rw[ZpF]
    cases hlast:(Zb2 (L.take i)).getLast? with
    |none=>
     have hnil:Zb2 (L.take i)=[]:=by
      cases z:Zb2 (L.take i) with
      |nil=>rfl
      |cons y r=>rw[z] at hlast;simp at hlast
     rw[QaK hnil];refine Zgm (Zgm ?_);refine⟨_,rfl,.inl ⟨rfl,_,SqL.of h2b⟩,_,rfl,_,rfl,(by show 2≤sizeLine;decide),fun p hp=> ?_⟩;have npb:p≠b:=fun z=>by rw[z,h2b] at hp;cases hp
     have h8b:=(Zak (H:=H2) (a:=p) (o:=.tup [.int e.1,.ref wq]) (Ne.symm npb)).trans h2b;refine⟨b,_,_,rfl,rfl,h8b,QaN (by have:=lys;omega:ys.length≤1000) (by decide),?_⟩;have T8:Za8 H2 (upd H2 p (.tup [.int e.1,.ref wq])):=(Za8.refl _).new hp;have T9:Za8 (upd H2 p (.tup [.int e.1,.ref wq])) (upd (upd H2 p (.tup [.int e.1,.ref wq])) b (.lst (ys++ [.ref p]))):=(Za8.refl _).lst h8b;refine⟨_,_,_,rfl,Zab,?_,Zam.own (Zam.new s2 hp) fb⟩;rw[Zcr hei];unfold Zbl;rw[if_pos hpos];rw[hlast];dsimp only;exact Wg.snoc (g2.up (T8.trans T9)) ⟨p,wq,rfl,T9 _ _ Zab,T9 _ _ (T8 _ _ hw2)⟩
    |some l0=>
     have hne:Zb2 (L.take i)≠ []:=fun z=>by rw[z] at hlast;cases hlast
     rw[QaC hne];refine Zi8 ?_
     have hlen1:(Zb2 (L.take i)).length-1<ys.length:=by
      have:0<(Zb2 (L.take i)).length:=Qdf.mpr hne
      have:=g2.1;omega
     have hl0:(Zb2 (L.take i))[ys.length-1]?=some l0:=by rw[g2.1,←Qes];exact hlast
     obtain⟨y0,hy0,q0,w0,rfl,hq0,hw0⟩:=g2.get hl0;refine⟨_,rfl,_,rfl,b,_,_,V.ref q0,rfl,rfl,SqL.of h2b,?_,q0,_,_,_,rfl,rfl,SqT.of hq0,rfl,_,rfl,_,_,Zc2 hw0,Zc2 hw2,Zdg _,Zdg _,(by rw[Zeq];decide),_,rfl,?_⟩
     ·have:ys=ys.dropLast++ [V.ref q0]:=ZeT (by rw[Qes];exact hy0);rw[this];exact ZlK _ _
     rw[ZjB];refine Zfv (fun hE=> ?_) (fun hE=> ?_)
     ·have hE:=QaQ hE;refine⟨_,rfl,_,rfl,.inl ⟨rfl,_,SqL.of h2b⟩,b,ys,V.ref q0,rfl,rfl,h2b,hy0,?_⟩;have T3:Za8 H2 (upd H2 b (.lst ys.dropLast)):=(Za8.refl H2).lst h2b;have s3:Zam H (upd H2 b (.lst ys.dropLast)):=Zam.own s2 fb;have h3b:(upd H2 b (.lst ys.dropLast)) b=some (.lst ys.dropLast):=Zab;have hw3:=T3 _ _ hw2;have hq03:=T3 _ _ hq0;have g3:=(g2.up T3).pop;have ld:ys.dropLast.length≤i:=by rw[QcD];omega
      generalize upd H2 b (.lst ys.dropLast)=H3 at s3 T3 h3b hw3 hq03 g3⊢;refine⟨q0,_,_,_,rfl,rfl,SqT.of hq03,rfl,_,_,rfl,rfl,?_⟩;refine⟨_,rfl,.inl ⟨rfl,_,SqL.of h3b⟩,_,rfl,_,rfl,(by show 2≤sizeLine;decide),fun p hp=> ?_⟩;have npb:p≠b:=fun z=>by rw[z,h3b] at hp;cases hp
      have h8b:=(Zak (H:=H3) (a:=p) (o:=.tup [.int (e.1+l0.1),.ref wq]) (Ne.symm npb)).trans h3b;refine⟨b,_,_,rfl,rfl,h8b,QaN (by have:=ld;omega:ys.dropLast.length≤1000) (by decide),?_⟩;have T8:Za8 H3 (upd H3 p (.tup [.int (e.1+l0.1),.ref wq])):=(Za8.refl _).new hp;have T9:Za8 (upd H3 p (.tup [.int (e.1+l0.1),.ref wq])) (upd (upd H3 p (.tup [.int (e.1+l0.1),.ref wq])) b (.lst (ys.dropLast++ [.ref p]))):=(Za8.refl _).lst h8b;refine⟨_,_,_,rfl,Zab,?_,Zam.own (Zam.new s3 hp) fb⟩;rw[Zcr hei];unfold Zbl;rw[if_pos hpos];rw[hlast];dsimp only;rw[if_pos hE];exact Wg.snoc (g3.up (T8.trans T9)) ⟨p,wq,rfl,T9 _ _ Zab,T9 _ _ (T8 _ _ hw3)⟩
     ·have hE:=Qa5 (QdB.mpr hE);refine⟨_,rfl,.inl ⟨rfl,_,SqL.of h2b⟩,_,rfl,_,rfl,(by show 2≤sizeLine;decide),fun p hp=> ?_⟩;have npb:p≠b:=fun z=>by rw[z,h2b] at hp;cases hp
      have h8b:=(Zak (H:=H2) (a:=p) (o:=.tup [.int e.1,.ref wq]) (Ne.symm npb)).trans h2b;refine⟨b,_,_,rfl,rfl,h8b,QaN (by have:=lys;omega:ys.length≤1000) (by decide),?_⟩;have T8:Za8 H2 (upd H2 p (.tup [.int e.1,.ref wq])):=(Za8.refl _).new hp;have T9:Za8 (upd H2 p (.tup [.int e.1,.ref wq])) (upd (upd H2 p (.tup [.int e.1,.ref wq])) b (.lst (ys++ [.ref p]))):=(Za8.refl _).lst h8b;refine⟨_,_,_,rfl,Zab,?_,Zam.own (Zam.new s2 hp) fb⟩;rw[Zcr hei];unfold Zbl;rw[if_pos hpos];rw[hlast];dsimp only;rw[if_neg hE];exact Wg.snoc (g2.up (T8.trans T9)) ⟨p,wq,rfl,T9 _ _ Zab,T9 _ _ (T8 _ _ hw2)⟩
   ·have hc:=Qa5 (QdB.mpr hc);refine⟨_,_,ys,rfl,h1b,?_,s1⟩;rw[Zcr hei];unfold Zbl;rw[if_neg hc];exact g1
  ·rintro σ H1 ⟨m,v,ys,rfl,h1b,g1,s1⟩;have hlx:L.take xs.length=L:=by rw[g.1];exact Qa6
   rw[hlx] at g1;exact⟨_,rfl,k b ys H1 fb h1b g1 s1⟩
abbrev ZcJ:Stmt:=top 31
theorem Zf7:Zaw ["_law_draw"] ["_law_draw"] (Zaj ZcJ):=⟨rfl,rfl,rfl,by decide +kernel,rfl,by decide +kernel,by decide +kernel⟩
def ZnN:Sp:=fun vs H Q _=>∃(d:Addr),vs=[.ref d]∧Zbq H d∧∀(r:Int) (H':Hp),1≤r→r≤24→Zbq H' d→But d H H'→Q (.int r) H'
theorem ZoQ (F:Fun K "_law_wide" "_law_wide" ZcJ f fd)(M:Txt mg)(G_law_take:Kn P w K mg base "_law_take" 1 ["_law_draw", "_law_many"] Zd6):ZbK P w K mg base CX0 2 f fd ["_law_draw"] ZnN:=by
 have sc:=Zf7;refine F.ok sc (fun vs H Q E h=> ?_) (fun cdv A outer s H vs Q E hr h=> ?_)
 ·obtain⟨d,rfl,_⟩:=h;rfl
 ·obtain⟨d,rfl,hP,k⟩:=h;refine⟨_,(Zai (Zax (ZaC (Zat (K:=K)) (ZaO (ZcQ (Zau ZaP Zae (Zag G_law_take hr rfl (Zaa (pv 0) (Zao Zae Zad)))) (Zau ZaP Zae (Zag G_law_take hr rfl (Zaa (pv 0) (Zao Zae Zad)))) Zad)) (ZaU ZbU (by rfl) M.int QfA (ZaA (ZbP ZeI (Zag G_law_take hr rfl (Zaa (pv 0) (Zao Zae Zad))) Zae (ZaI _)) Zad)) (fun _ _=>rfl)))),?_⟩;refine⟨_,rfl,d,3,rfl,hP,by decide,by decide,fun r H1 r0 r1 P1 B1=>⟨_,_,rfl,rfl,?_⟩⟩;refine⟨_,rfl,d,24,rfl,P1,by decide,by decide,fun r' H2 q0 q1 P2 B2=>⟨_,_,rfl,rfl,(by show 2≤sizeLine;decide),fun l hl=> ?_⟩⟩;have nl:=P2.ne hl;refine⟨_,rfl,d,8,rfl,P2.new hl,by decide,by decide,fun t H3 t0 t1 P3 B3=>⟨rfl,?_⟩⟩;have hl3:=B3 l _ Zab nl;have B:=((B1.trans B2).new hl).trans B3;refine .inr ⟨_,rfl,?_⟩
  cases decide (V.int t=V.int 5) with
  |true=>exact⟨l,_,_,_,rfl,rfl,SqL.of hl3,rfl,k _ H3 (by omega) (by omega) P3 B⟩
  |false=>exact⟨l,_,_,_,rfl,rfl,SqL.of hl3,rfl,k _ H3 (by omega) (by omega) P3 B⟩
end
structure Gb (mg:Str→Option Value):Prop where
 mp:∃t,mg "MOST_PLACES" =some (.int 2000 t)
 zp:mg "zip" =none
 st:mg "set" =none
 en:mg "enumerate" =none
theorem ZiY (so:ss.Pairwise (· < ·))(hb:∀s∈ss,0≤s)(z0:(0:Int)∈ss):ss[0]?=some 0:=by
 cases ss with
 |nil=>cases z0
 |cons a r=>
  have ha:=hb a Qai;rcases Qaz.mp z0 with z|z
  ·rw[z];rfl
  ·have:=(QbL.mp so).1 _ z;omega
theorem ZkZ {lg:Int}(so:ss.Pairwise (· < ·))(hb:∀s∈ss,s≤lg)(zl:lg∈ss):ss[ss.length-1]?=some lg:=by
 obtain⟨i,hi⟩:=Qay.mp zl;obtain⟨hlt,he⟩:=Qaf.mp hi;by_cases z:i=ss.length-1
 ·rw[←z];exact hi
 ·have:=Qbb.mp so i (ss.length-1) hlt (by omega) (by omega);have h2:=hb _ (QbG (show ss.length-1<ss.length by omega));omega
section
variable {K:PySem.W.Frag}
abbrev ZbE:Stmt:=top 32
theorem Zej:Zaw ["_law_draw", "_law_wide_here", "_law_long", "_law_spots", "_law_k", "_law_pool", "_law_found"] ["_law_draw", "_law_wide_here", "_law_long"] (Zaj ZbE):=⟨rfl,rfl,rfl,by decide +kernel,rfl,by decide +kernel,by decide +kernel⟩
def Zie:Sp:=fun vs H Q _=>∃(d:Addr) (wd lg:Int),vs=[.ref d,.int wd,.int lg]∧Zbq H d∧1≤wd∧wd≤24∧0≤lg∧lg<10^63∧∀(b:Addr) (ys:List V) (L:Wl) (H':Hp),b≠d→H' b=some (.lst ys)→Wg H' ys L→Zrs wd lg L→Zbq H' d→But d H H'→Q (.ref b) H'
theorem Zk0 (F:Fun K "_law_fitted" "_law_fitted" ZbE f fd)(M:Txt mg)(G_law_take:Kn P w K mg base "_law_take" 1 ["_law_draw", "_law_many"] Zd6)(G_law_weights:Kn P w K mg base "_law_weights" 3 ["_law_draw", "_law_wide_here"] Zf5)(G_law_shape:Kn P w K mg base "_law_shape" 1 ["_law_pieces"] (ZkY K))(B:Gb mg):ZbK P w K mg base CX0 4 f fd ["_law_draw", "_law_wide_here", "_law_long"] Zie:=by
 have sc:=Zej;refine F.ok sc (fun vs H Q E h=> ?_) (fun cdv A outer s H vs Q E hr h=> ?_)
 ·obtain⟨d,wd,lg,rfl,_⟩:=h;rfl
 ·obtain⟨d,wd,lg,rfl,hP,w1,w2,g0,g1,k⟩:=h
  refine⟨_,(Zac (Zbn (ZaG ZeI (pv 2) Zae (ZaI _)) (Zai (Zax (ZaO Zad))) ZaF)
   (Zac (Zap (i:=3) sc.nd rfl (Or.inl rfl) (ZaO (ZcQ Zae (pv 2) Zad)))
   (Zac (Zbh Qa4 rfl (Zbg rfl M.range (ZaD (ZaC (Zat (K:=K)) (ZaO (ZcQ (Zag G_law_take hr rfl (Zaa (pv 0) (Zao Zae Zad))) (Zag G_law_take hr rfl (Zaa (pv 0) (Zao Zae Zad))) Zad)) (ZaU ZbU (by rfl) M.int QfA (ZaA (ZbP ZeI (Zag G_law_take hr rfl (Zaa (pv 0) (Zao Zae Zad))) Zae (ZaI _)) Zad)) (fun _ _=>rfl)) Zad)) (Zal (i:=4) sc.nd rfl (Or.inl rfl))
   (Zai (ZbH (ZdI Qa2 Qbe Qbf Za6 (pv 3) (ZaS (Zag G_law_take hr rfl (Zaa (pv 0) (ZaD (ZaC (Zat (K:=K)) (ZaO (ZcQ (pv 2) (Zaz (Zbu rfl) (by rfl) M.min QeN (Zaa (pv 2) (Zao Zae Zad))) Zad)) (Zag G_law_take hr rfl (Zaa (pv 0) (Zao Zae Zad))) (fun _ _=>rfl)) Zad))) Zad)))))
   (Zac (Zap (i:=3) sc.nd rfl (Or.inl rfl) (ZfO rfl (pv 3) rfl M.sorted rfl B.st))
   (Zac (ZeQ (xs:=["_law_k"]) (Nb:=["_law_draw", "_law_wide_here", "_law_long", "_law_spots", "", "_law_pool", "_law_found"]) (Zal (i:=5) sc.nd rfl (Or.inl rfl)) rfl rfl (Zbg rfl M.range (ZaM (Zau ZaP Zae (Zag G_law_take hr rfl (Zaa (pv 0) (Zao Zae Zad)))) Zad)) rfl (by show∀p∈(List.zip ["_law_draw", "_law_wide_here", "_law_long", "_law_spots", "", "_law_pool", "_law_found"] ["_law_draw", "_law_wide_here", "_law_long", "_law_spots", "_law_k", "_law_pool", "_law_found"]:List (Str×Str)),_;decide +kernel) (by decide +kernel) (fun cl C s₂ H₂ fp=>(Zal (i:=0) (by show List.Nodup (["_law_k", "_law_draw", "_law_wide_here", "_law_long", "_law_spots", "", "_law_pool", "_law_found"]:List Str);decide +kernel) rfl (Or.inl (Qau rfl)) (Or.inr (Qau rfl)))) (fun cl C s₂ H₂ fp=>Za3) (fun cl C s₂ H₂ fp=>(Zag G_law_weights hr rfl (Zaa (pv 1) (Zaa (pv 2) Zad)))) (by decide +kernel) rfl (by decide +kernel) (by show∀y∈(_:List (Str×NameKind)),y.2=NameKind.free→(Zaj ZbE).names.lookup y.1=some .cell;decide +kernel))
   (Zac (Zap (i:=6) sc.nd rfl (Or.inl rfl) (ZaO Zad))
   (Zac (Zbh Qa4 rfl (Zfx rfl M.range (Zao Zae (ZaS (Zaz (Za7 (K:=K)) (by rfl) M.len Qcg (Zaa (pv 3) Zad)) Zad))) (Zal (i:=4) sc.nd rfl (Or.inl rfl))
   (Zai (ZbH (ZdI Qa2 Qbe Qbf Za6 (pv 6) (Zdr (Zcg (ZcQ (Zau Zbz (ZaC (Zat (K:=K)) (pv 3) (pv 4) (fun _ _=>rfl)) (ZaC (Zat (K:=K)) (pv 3) (Zau Zbz (pv 4) Zae) (fun _ _=>rfl))) (ZaC (Zat (K:=K)) (pv 5) (Zag G_law_take hr rfl (Zaa (pv 0) (ZaS (Zaz (Za7 (K:=K)) (by rfl) M.len Qcg (Zaa (pv 5) Zad)) Zad))) (fun _ _=>rfl)) Zad)) Zad)))))
   (Zai (Zax (Zag G_law_shape hr rfl (Zaa (pv 6) Zad))))))))))),?_⟩
  refine⟨_,rfl,rfl,_,rfl,Zfv (fun e=> ?_) (fun e=> ?_)⟩
  ·have e:lg=0:=V.int.inj (QaQ e);exact⟨(by show 0≤sizeLine;decide),fun b hb=>k b [] [] _ (hP.ne hb) Zab (Wg.nil _) ⟨⟨fun e he=>(by cases he),fun e he=>(by cases he),trivial⟩,QaU _,e.symm,fun e he=>(by cases he)⟩ (hP.new hb) ((But.refl d H).new hb)⟩
  have lp:0<lg:=by
   have:lg≠0:=fun z=>e (QaK (congrArg V.int z));omega
  refine⟨_,rfl,(by show 2≤sizeLine;decide),fun b hb=> ?_⟩;have nbd:=hP.ne hb;have P0:=hP.new (o:=.lst [.int 0,.int lg]) hb;have B0:=(But.refl d H).new (o:=.lst [.int 0,.int lg]) hb;have hb0:(upd H b (.lst [.int 0,.int lg])) b=some (.lst (([0,lg]:List Int).map V.int)):=Zab;generalize upd H b (.lst [.int 0,.int lg])=H0 at P0 B0 hb0⊢;refine⟨_,rfl,d,6,rfl,P0,by decide,by decide,fun r1 H1 r10 r11 P1 B1=> ?_⟩;refine⟨_,rfl,d,40,rfl,P1,by decide,by decide,fun r2 H2 r20 r21 P2 B2=>⟨(by show 2≤sizeLine;decide),fun l hl=> ?_⟩⟩;have nl:=P2.ne hl;refine⟨_,rfl,d,8,rfl,P2.new hl,by decide,by decide,fun t H3 t0 t1 P3 B3=>⟨rfl,.inr ⟨_,rfl,?_⟩⟩⟩;have hl3:=B3 l _ Zab nl;have B03:=((B1.trans B2).new hl).trans B3;have hb3:=B03 _ _ hb0 nbd;have BH3:=B0.trans B03
  have key:∃r:Int,atI [V.int r1,V.int r2] (if decide (V.int t=V.int 3)=true then 1 else 0)=some (V.int r)∧0≤r∧r<40:=by
   cases decide (V.int t=V.int 3) with
   |true=>exact⟨r2,rfl,r20,r21⟩
   |false=>exact⟨r1,rfl,r10,by omega⟩
  obtain⟨r,hat,q0,q1⟩:=key;refine⟨l,_,_,_,rfl,rfl,SqL.of hl3,hat,r,rfl,by omega,by omega,?_⟩
  refine ZbI (n:=r.toNat) (fun i σ H'=>∃(kk:Option V) (ps:List Int),σ=[some (.ref d),some (.int wd),some (.int lg),some (.ref b),kk,none,none]∧H' b=some (.lst (ps.map V.int))∧ps.length=2+i∧(∀s∈ps,0≤s∧s≤lg)∧(0:Int)∈ps∧lg∈ps∧Zbq H' d∧But d H H')
    ⟨_,[0,lg],rfl,hb3,rfl,fun s hs=>by
     rcases Qaz.mp hs with rfl|hs
     ·omega
     ·rw[Qaj.mp hs];omega,Qai,Qao _ Qai,P3,BH3⟩ ?_ ?_
  ·rintro i σ H4 hi ⟨kk,ps,rfl,hb4,lps,bp,z0,zl,P4,B4⟩;refine⟨_,rfl,.inl ⟨rfl,_,SqL.of hb4⟩,_,rfl,_,rfl,_,rfl,_,_,rfl,(by show 2≤sizeLine;decide),fun l2 hl2=> ?_⟩;have nl2:=P4.ne hl2;refine⟨_,rfl,d,2,rfl,P4.new hl2,by decide,by decide,fun c H5 c0 c1 P5 B5=> ?_⟩;have hl5:=B5 l2 _ Zab nl2;have B45:=((But.refl d H4).new hl2).trans B5
   have key:∃m:Int,atI [V.int lg,V.int (if 12<lg then 12 else lg)] c=some (V.int m)∧0<m∧m≤lg:=by
    have hc:c=0∨c=1:=by omega
    rcases hc with rfl|rfl
    ·exact⟨lg,rfl,lp,Qb8 _⟩
    ·exact⟨_,rfl,by split<;>omega,by split<;>omega⟩
   obtain⟨m,hat2,m0,m1⟩:=key;refine⟨l2,_,_,_,rfl,rfl,SqL.of hl5,hat2,d,m,rfl,P5,m0,Qbw m1 (Int.lt_trans g1 (by decide)),fun s H6 s0 s1 P6 B6=> ?_⟩;have hb6:=B6 _ _ (B45 _ _ hb4 nbd) nbd;refine⟨b,_,_,rfl,rfl,hb6,QaN (by rw[Qac];omega:_≤1000) (by decide),?_⟩;refine⟨_,ps++ [s],rfl,by rw[Zab,QaG];rfl,by rw[Qag,lps];rfl,fun z hz=> ?_,Qat _ z0,Qat _ zl,P6.own nbd,((B4.trans B45).trans B6).own hb⟩;rcases Qaq.mp hz with z|z
   ·exact bp _ z
   ·rw[Qaj.mp z];omega
  ·rintro σ H4 ⟨kk,ps,rfl,hb4,lps,bp,z0,zl,P4,B4⟩;refine⟨_,rfl,b,ps,rfl,SqL.of hb4,by omega,fun q ms hq hpm hs=> ?_⟩;have ml:ms.length≤41:=by rw[hpm.length_eq];exact QaE (ZcS ps) (by omega)
   have mm:∀s,s∈ms↔s∈ps:=fun s=>by rw[hpm.mem_iff,Zng]
   have nd:ms.Nodup:=hpm.nodup_iff.mpr (ZlU ps);have so:ms.Pairwise (· < ·):=(hs.and nd).imp fun h=>Int.lt_iff_le_and_ne.mpr h;have bm:∀s∈ms,0≤s∧s≤lg:=fun s hs'=>bp s ((mm s).mp hs');have fz:=ZiY so (fun s h=>(bm s h).1) ((mm 0).mpr z0);have fl:=ZkZ so (fun s h=>(bm s h).2) ((mm lg).mpr zl);have mp:0<ms.length:=(Qaf.mp fz).1;have B5:=B4.new (o:=.lst (ms.map V.int)) hq;have P5:=P4.new (o:=.lst (ms.map V.int)) hq;have nqd:=P4.ne hq;have hq5:(upd H4 q (.lst (ms.map V.int))) q=some (.lst (ms.map V.int)):=Zab;generalize upd H4 q (.lst (ms.map V.int))=H5 at B5 P5 hq5⊢;refine⟨_,rfl,d,3,rfl,P5,by decide,by decide,fun r H6 r0 r1 P6 B6=>⟨_,_,rfl,rfl,?_⟩⟩;have hq6:=B6 _ _ hq5 nqd;refine⟨_,rfl,by omega,by omega,ZpD (fun i ys H'=>ys.length=i∧(∀y∈ys,∃(q:Addr) (ns:List Int),y=V.ref q∧H' q=some (.tup (ns.map V.int))∧ZqY wd ns)∧H' q=some (.lst (ms.map V.int))∧Zbq H' d∧But d H H') ⟨rfl,fun y hy=>by simp at hy,hq6,P6,B5.trans B6⟩ (by omega) (fun i ys H' h=>Nat.le_of_eq h.1) ?_ ?_⟩
   ·rintro i ys H' pre hp hi ⟨e,hy,hq',P2,B2⟩;rcases pre with _|⟨p0,_|⟨p1,pre⟩⟩
    ·cases hp
    ·refine⟨⟨[some _],rfl,rfl⟩,?_⟩;unfold Zc1;dsimp only;rw[if_pos (rfl:true=true)];refine⟨_,rfl,_,rfl,d,wd,rfl,P2,w1,w2,fun q2 ns H3 f3 h3 l3 P3 B3=> ?_⟩;refine⟨by rw[Qag,e];rfl,fun y hm=> ?_,B3 _ _ hq' nqd,P3,B2.trans B3⟩;rcases Qaq.mp hm with z|z
     ·obtain⟨q',ns',rfl,t',l'⟩:=hy y z;exact⟨q',ns',rfl,B3.tups P2 _ _ t',l'⟩
     ·rw[Qaj] at z;subst z;exact⟨q2,ns,rfl,h3,l3⟩
    ·cases hp
   ·rintro ys H2 ⟨e,hy,hq2,P2,B2⟩ D hD;have P3:=P2.new (o:=.lst ys) hD;have B3:=B2.new (o:=.lst ys) hD;have nqD:q≠D:=fun z=>by rw[←z,hq2] at hD;cases hD
    refine⟨(by show 0≤sizeLine;decide),fun c hc=> ?_⟩;have P4:=P3.new (o:=.lst []) hc;have B4:=B3.new (o:=.lst []) hc;have fc:=B3.free P3 hc;have ncD:c≠D:=fun z=>by rw[z,Zab] at hc;cases hc
    have ncq:c≠q:=fun z=>by rw[z,Zak nqD,hq2] at hc;cases hc
    have nDd:=P2.ne hD;have ncd:=P3.ne hc;have T4:Za8 H2 (upd (upd H2 D (.lst ys)) c (.lst [])):=((Za8.refl H2).new hD).new hc;have hq4:(upd (upd H2 D (.lst ys)) c (.lst [])) q=some (.lst (ms.map V.int)):=by rw[Zak (Ne.symm ncq),Zak nqD];exact hq2
    have hD4:(upd (upd H2 D (.lst ys)) c (.lst [])) D=some (.lst ys):=by rw[Zak (Ne.symm ncD)];exact Zab
    have hc4:(upd (upd H2 D (.lst ys)) c (.lst [])) c=some (.lst []):=Zab;generalize upd (upd H2 D (.lst ys)) c (.lst [])=HS at P4 B4 T4 hq4 hD4 hc4⊢;have ml':(ms.map V.int).length≤41:=by rw[Qac];exact ml
    refine⟨_,rfl,q,_,rfl,.inl (SqL.of hq4),1,_,rfl,⟨by decide,by decide,by omega,by omega⟩,ZbI (fun i σ H'=>∃(kk:Option V) (xs:List V) (L:Wl),σ=[some (.ref d),some (.int wd),some (.int lg),some (.ref q),kk,some (.ref D),some (.ref c)]∧H' c=some (.lst xs)∧H' D=some (.lst ys)∧H' q=some (.lst (ms.map V.int))∧Za8 H2 H'∧Wg H' xs L∧L.length=i∧(∀e∈L,1≤e.1∧ZqY wd e.2)∧ms[i]?=some (tot L)∧Zbq H' d∧But d H H') ⟨_,[],[],rfl,hc4,hD4,hq4,T4,Wg.nil _,rfl,fun e he=>by simp at he,fz,P4,B4⟩ ?_ ?_⟩
    ·rintro i σ H5 hi ⟨kk,xs,L,rfl,h5c,h5D,h5q,T5,g5,l5,q5,ht5,P5,B5⟩;rw[Qac] at hi;have hv:ms[i+1]?=some ms[i+1]:=Qab (by omega)
     have hlt:tot L<ms[i+1]:=by
      obtain⟨a,ea⟩:=Qaf.mp ht5
      have:=Qbb.mp so i (i+1) a (by omega) (by omega);rw[ea] at this;exact this
     generalize ms[i+1]=v at hv hlt
     have au:atI (ms.map V.int) (1+(i:Int)-1)=some (V.int (tot L)):=by
      rw[show(1+(i:Int)-1)=((i:Nat):Int) by omega];exact ZaZ (by rw[Qam,ht5];rfl)
     have av:atI (ms.map V.int) (1+(i:Int))=some (V.int v):=by
      rw[show(1+(i:Int))=((i+1:Nat):Int) by omega];exact ZaZ (by rw[Qam,hv];rfl)
     refine⟨_,rfl,.inl ⟨rfl,_,SqL.of h5c⟩,_,rfl,_,rfl,q,_,_,_,rfl,rfl,SqL.of h5q,av,?_⟩;refine⟨_,rfl,_,rfl,_,_,rfl,rfl,q,_,_,_,rfl,rfl,SqL.of h5q,au,_,_,rfl,rfl,?_⟩;refine⟨_,rfl,_,rfl,_,rfl,D,_,rfl,.inl (SqL.of h5D),d,_,rfl,P5,by omega,by omega,fun cc H7 c0 c1 P7 B7=> ?_⟩;have h7c:=B7 c _ h5c ncd;have h7D:=B7 D _ h5D nDd;have h7q:=B7 q _ h5q nqd;have hcc:cc.toNat<ys.length:=by omega
     have T57:Za8 H5 H7:=B7.tups P5;have T7:Za8 H2 H7:=T5.trans T57;obtain⟨q',ns,eq,tq,lq⟩:=hy _ (QbG hcc);have tq7:=T7 _ _ tq;refine⟨D,_,_,V.ref q',rfl,rfl,SqL.of h7D,?_,(by show 2≤sizeLine;decide),fun p hp=> ?_⟩
     ·have:=ZaZ (xs:=ys) (j:=cc.toNat) (v:=V.ref q') (by rw[Qab hcc,eq]);rw[Qb2 c0] at this;exact this
     ·have npc:p≠c:=fun z=>by rw[z,h7c] at hp;cases hp
      have npD:p≠D:=fun z=>by rw[z,h7D] at hp;cases hp
      have npq:p≠q:=fun z=>by rw[z,h7q] at hp;cases hp
      have h8c:(upd H7 p (.tup [.int (v-tot L),.ref q'])) c=some (.lst xs):=by rw[Zak (Ne.symm npc)];exact h7c
      have hxl:xs.length=i:=g5.1.trans l5;refine⟨c,xs,_,rfl,rfl,h8c,QaN (by omega:xs.length≤1000) (by decide),?_⟩;have P8:=P7.new (o:=.tup [.int (v-tot L),.ref q']) hp;have B8:=(B5.trans B7).new (o:=.tup [.int (v-tot L),.ref q']) hp;have T8:Za8 H7 (upd H7 p (.tup [.int (v-tot L),.ref q'])):=(Za8.refl H7).new hp;have T9:Za8 (upd H7 p (.tup [.int (v-tot L),.ref q'])) (upd (upd H7 p (.tup [.int (v-tot L),.ref q'])) c (.lst (xs++ [.ref p]))):=(Za8.refl _).lst h8c;refine⟨_,_,L++ [(v-tot L,ns)],rfl,Zab,?_,?_,(T7.trans T8).trans T9,?_,by rw[Qag,l5];rfl,fun e he=> ?_,?_,P8.own ncd,B8.own fc⟩
      ·rw[Zak (Ne.symm ncD),Zak (Ne.symm npD)];exact h7D
      ·rw[Zak (Ne.symm ncq),Zak (Ne.symm npq)];exact h7q
      ·exact Wg.snoc (g5.up ((T57.trans T8).trans T9)) ⟨p,q',rfl,T9 _ _ Zab,T9 _ _ (T8 _ _ tq7)⟩
      ·rcases Qaq.mp he with z|z
       ·exact q5 e z
       ·rw[Qaj] at z;subst z;exact⟨by show 1≤v-tot L;omega,lq⟩
      ·rw[hv,Zbo,ZaW,Zb3,show tot L+((v-tot L)+0)=v by omega]
    ·rintro σ H5 ⟨kk,xs,L,rfl,h5c,h5D,h5q,T5,g5,l5,q5,ht5,P5,B5⟩;rw[Qac] at l5 ht5;rw[show((ms.length:Int)-1).toNat=ms.length-1 by omega] at l5 ht5;rw[fl] at ht5;refine⟨_,rfl,c,xs,L,rfl,SqL.of h5c,g5,by omega,fun b2 ys2 H6 f6 h6 g6 s6=> ?_⟩;refine k b2 ys2 (Zb2 L) H6 (P5.ne f6) h6 g6 ⟨ZjU fun e he=>(q5 e he).2.1,QaE (Zf6 L) (by omega),?_,fun e he z hz=> ?_⟩ (Zam.purse s6 P5) (B5.same s6)
     ·rw[ZjV fun e he=>by have:=(q5 e he).1;omega];exact(Qby ht5).symm
     ·exact(ZkX (p:=ZqY wd) (fun e he=>(q5 e he).2) e he).2 z hz
end
section
variable {K:PySem.W.Frag}
def ZcW (b g l:Int)(t:Bool)(p:Int):V:=if b≤p∧p<b+l then .int (if t=true then g+l-1-(p-b) else g+(p-b)) else .non
abbrev ZoR:Stmt:=top 5
theorem Zqk:Zaw ["begin", "goal", "long", "turned", "place", "steps"] ["begin", "goal", "long", "turned", "place"] (Zaj ZoR):=⟨rfl,rfl,rfl,by decide +kernel,rfl,by decide +kernel,by decide +kernel⟩
def ZoS:Sp:=fun vs H Q _=>∃(b g l:Int) (t:Bool) (p:Int),vs=[.int b,.int g,.int l,.bl t,.int p]∧Q (ZcW b g l t p) H
theorem Zql (F:Fun K "led" "led" ZoR f fd)(M:Txt mg):ZbK P w K mg base CX0 1 f fd ["begin", "goal", "long", "turned", "place"] ZoS:=by
 have sc:=Zqk;refine F.ok sc (fun vs H Q E h=> ?_) (fun cdv A outer s H vs Q E hr h=> ?_)
 ·obtain⟨b,g,l,t,p,rfl,_⟩:=h;rfl
 ·obtain⟨b,g,l,t,p,rfl,k⟩:=h
  refine⟨_,(Zac (Zbn (Zfw (ZlG Zq7 Zit (pv 0) (pv 4) (Zau ZaP (pv 0) (pv 2)))) (Zai (Zax ZhA)) ZaF)
   (Zac (Zap (i:=5) sc.nd rfl (Or.inl rfl) (Zau Zbz (pv 4) (pv 0)))
   (Zai (Zax (ZhB (Zem (pv 3)) (Zau Zbz (Zau Zbz (Zau ZaP (pv 1) (pv 2)) Zae) (pv 5)) (Zau ZaP (pv 1) (pv 5))))))),?_⟩
  refine⟨_,rfl,_,rfl,_,_,rfl,rfl,_,rfl,?_⟩;by_cases e1:b≤p
  ·rw[QaK e1];refine Zi8 ?_;refine⟨_,rfl,_,rfl,_,_,rfl,rfl,_,_,rfl,rfl,_,rfl,?_⟩;by_cases e2:p<b+l
   ·rw[QaK e2];refine Zgm ?_;refine⟨_,rfl,_,rfl,_,_,rfl,rfl,?_⟩;refine⟨_,rfl,_,rfl,?_⟩;unfold ZcW at k;rw[if_pos ⟨e1,e2⟩] at k
    cases t with
    |true=>
     refine Zi8 ?_;exact⟨_,rfl,_,rfl,_,_,rfl,rfl,_,_,rfl,rfl,_,rfl,_,_,rfl,rfl,k⟩
    |false=>
     refine Zgm ?_;exact⟨_,rfl,_,rfl,_,_,rfl,rfl,k⟩
   ·rw[QaC e2];refine Zi8 ?_;unfold ZcW at k;rw[if_neg (fun z=>e2 z.2)] at k;exact k
  ·rw[QaC e1];refine Zgm ?_;refine⟨_,rfl,Zi8 ?_⟩;unfold ZcW at k;rw[if_neg (fun z=>e1 z.1)] at k;exact k
abbrev Zg9:Stmt:=top 6
theorem ZmA:Zaw ["pairing", "place", "low", "high", "long", "turned"] ["pairing", "place"] (Zaj Zg9):=⟨rfl,rfl,rfl,by decide +kernel,rfl,by decide +kernel,by decide +kernel⟩
def Zfe:Sp:=fun vs H Q _=>∃(p:Addr) (low high qg:Int) (t:Bool) (place:Int),vs=[.ref p,.int place]∧H p=some (.tup [.int low,.int high,.int qg,.bl t])∧Q (ZcW low high qg t place) H
theorem ZmB (F:Fun K "forth" "forth" Zg9 f fd)(M:Txt mg)(Gled:Kn P w K mg base "led" 1 ["begin", "goal", "long", "turned", "place"] ZoS):ZbK P w K mg base CX0 2 f fd ["pairing", "place"] Zfe:=by
 have sc:=ZmA;refine F.ok sc (fun vs H Q E h=> ?_) (fun cdv A outer s H vs Q E hr h=> ?_)
 ·obtain⟨p,low,high,qg,t,place,rfl,_⟩:=h;rfl
 ·obtain⟨p,low,high,qg,t,place,rfl,hp,k⟩:=h
  refine⟨_,(Zac (ZcM (pv 0) (Zce rfl (Zas (Zal (i:=2) sc.nd rfl (Or.inl rfl)) (Zas (Zal (i:=3) sc.nd rfl (Or.inl rfl)) (Zas (Zal (i:=4) sc.nd rfl (Or.inl rfl)) (Zas (Zal (i:=5) sc.nd rfl (Or.inl rfl)) Zbf))))))
   (Zai (Zax (Zag Gled hr rfl (Zaa (pv 2) (Zaa (pv 3) (Zaa (pv 4) (Zaa (pv 5) (Zaa (pv 1) Zad))))))))),?_⟩
  refine⟨_,rfl,p,_,rfl,SqT.of hp,rfl,_,_,rfl,_,_,rfl,_,_,rfl,_,_,rfl,rfl,?_⟩;exact⟨_,rfl,_,rfl,_,rfl,_,rfl,_,rfl,_,_,_,_,_,rfl,k⟩
abbrev Zk1:Stmt:=top 7
theorem ZoT:Zaw ["pairing", "place", "low", "high", "long", "turned"] ["pairing", "place"] (Zaj Zk1):=⟨rfl,rfl,rfl,by decide +kernel,rfl,by decide +kernel,by decide +kernel⟩
def Zk2:Sp:=fun vs H Q _=>∃(p:Addr) (low high qg:Int) (t:Bool) (place:Int),vs=[.ref p,.int place]∧H p=some (.tup [.int low,.int high,.int qg,.bl t])∧Q (ZcW high low qg t place) H
theorem ZoU (F:Fun K "back" "back" Zk1 f fd)(M:Txt mg)(Gled:Kn P w K mg base "led" 1 ["begin", "goal", "long", "turned", "place"] ZoS):ZbK P w K mg base CX0 2 f fd ["pairing", "place"] Zk2:=by
 have sc:=ZoT;refine F.ok sc (fun vs H Q E h=> ?_) (fun cdv A outer s H vs Q E hr h=> ?_)
 ·obtain⟨p,low,high,qg,t,place,rfl,_⟩:=h;rfl
 ·obtain⟨p,low,high,qg,t,place,rfl,hp,k⟩:=h
  refine⟨_,(Zac (ZcM (pv 0) (Zce rfl (Zas (Zal (i:=2) sc.nd rfl (Or.inl rfl)) (Zas (Zal (i:=3) sc.nd rfl (Or.inl rfl)) (Zas (Zal (i:=4) sc.nd rfl (Or.inl rfl)) (Zas (Zal (i:=5) sc.nd rfl (Or.inl rfl)) Zbf))))))
   (Zai (Zax (Zag Gled hr rfl (Zaa (pv 3) (Zaa (pv 2) (Zaa (pv 4) (Zaa (pv 5) (Zaa (pv 1) Zad))))))))),?_⟩
  refine⟨_,rfl,p,_,rfl,SqT.of hp,rfl,_,_,rfl,_,_,rfl,_,_,rfl,_,_,rfl,rfl,?_⟩;exact⟨_,rfl,_,rfl,_,rfl,_,rfl,_,rfl,_,_,_,_,_,rfl,k⟩
end
section
variable {K:PySem.W.Frag}
abbrev Zff:Stmt:=top 4
theorem Zk3:Zaw ["one", "other", "long", "turned"] ["one", "other", "long", "turned"] (Zaj Zff):=⟨rfl,rfl,rfl,by decide +kernel,rfl,by decide +kernel,by decide +kernel⟩
def Zfg:Sp:=fun vs H Q _=>∃(i j l:Int) (t:Bool),vs=[.int i,.int j,.int l,.bl t]∧∀p,H p=none→Q (.ref p) (upd H p (.tup [.int (if j<i then j else i),.int (if j>i then j else i),.int l,.bl t]))
theorem Zk4 (F:Fun K "paired" "paired" Zff f fd)(M:Txt mg):ZbK P w K mg base CX0 1 f fd ["one", "other", "long", "turned"] Zfg:=by
 have sc:=Zk3;refine F.ok sc (fun vs H Q E h=> ?_) (fun cdv A outer s H vs Q E hr h=> ?_)
 ·obtain⟨i,j,l,t,rfl,_⟩:=h;rfl
 ·obtain⟨i,j,l,t,rfl,k⟩:=h;refine⟨_,(Zai (Zax (Zcg (Zob (Zaz (Zbu rfl) (by rfl) M.min QeN (Zaa (pv 0) (Zaa (pv 1) Zad))) (Zaz (ZdE rfl) (by rfl) M.max boot_max (Zaa (pv 0) (Zaa (pv 1) Zad))) (pv 2) (pv 3) Zad)))),?_⟩;refine⟨_,rfl,_,rfl,_,_,rfl,_,rfl,_,rfl,_,_,rfl,_,rfl,_,rfl,(by show 4≤sizeLine;decide),fun p hp=>k p hp⟩
end
end Toy
namespace L2
open PySem PySem.Spec PyProof.Rows
variable {n u v i:Nat}{p q:PR}{x y b a l m z:Int}{ps qs:List PR}{H:Hp}{Q:VK}{Z:L2.St→Hp→Prop}{hs gs:List (List Nat)}{d:Addr}{b':List Bool}{L:WL2}
def tgI (g l:Int)(t:Bool)(x:Int):Int:=if t=true then g+l-1-x else g+x
def LkE (a b l:Int)(t:Bool)(x y:Int):Prop:=(a≤x∧x<a+l∧y=tgI b l t (x-a))∨(b≤x∧x<b+l∧y=tgI a l t (x-b))
def LkP (p:PR)(x y:Int):Prop:=LkE p.1 p.2.1 p.2.2.1 p.2.2.2 x y
theorem LkE.swap {t:Bool}(h:LkE a b l t x y):LkE b a l t x y:=h.elim .inr .inl
def prP (a b l:Int)(t:Bool):PR:=(if b<a then b else a,if b>a then b else a,l,t)
theorem Zf8 {t:Bool}:LkP (prP a b l t) x y↔LkE a b l t x y:=by
 unfold LkP prP;dsimp only;by_cases e:b<a
 ·rw[if_pos e,if_neg (by omega)];exact⟨LkE.swap,LkE.swap⟩
 ·rw[if_neg e];by_cases e2:b>a
  ·rw[if_pos e2]
  ·have:a=b:=by omega
   subst this;rw[if_neg e2]
theorem Zk5 (a b l:Int)(t:Bool)(i:Int):tgI a l t (tgI b l t i-b)=a+i:=by
 cases t
 ·show a+(b+i-b)=a+i;omega
 ·show a+l-1-(b+l-1-i-b)=a+i;omega
theorem ZoV {i:Int}(t:Bool)(h0:0≤i)(h1:i<l):b≤tgI b l t i∧tgI b l t i<b+l:=by
 cases t
 ·show b≤b+i∧b+i<b+l;omega
 ·show b≤b+l-1-i∧b+l-1-i<b+l;omega
theorem LkE.symm {t:Bool}(h:LkE a b l t x y):LkE a b l t y x:=by
 rcases h with⟨h1,h2,h3⟩|⟨h1,h2,h3⟩
 ·have z:=ZoV (b:=b) t (show 0≤x-a by omega) (show x-a<l by omega);rw[←h3] at z;exact .inr ⟨z.1,z.2,by rw[h3,Zk5];omega⟩
 ·have z:=ZoV (b:=a) t (show 0≤x-b by omega) (show x-b<l by omega);rw[←h3] at z;exact .inl ⟨z.1,z.2,by rw[h3,Zk5];omega⟩
theorem LkE.fwd {t:Bool}(h:LkE a b l t x y):(a≤x∧x<a+l∧y=tgI b l t (x-a))∨(a≤y∧y<a+l∧x=tgI b l t (y-a)):=by
 rcases h with h|⟨h1,h2,h3⟩
 ·exact .inl h
 ·have z:=ZoV (b:=a) t (show 0≤x-b by omega) (show x-b<l by omega);rw[←h3] at z;exact .inr ⟨z.1,z.2,by rw[h3,Zk5];omega⟩
theorem Zfh (h:PrW n p):(u,v)∈prL p↔p.1≤(u:Int)∧(u:Int)<p.1+p.2.2.1∧(v:Int)=tgI p.2.1 p.2.2.1 p.2.2.2 ((u:Int)-p.1):=by
 obtain⟨a,b,c,d⟩:=h;unfold prL tgI;rw[QaS];constructor
 ·rintro⟨i,hi,e⟩;rw[Qa1] at hi;unfold lnk at e;cases e;refine⟨by omega,by omega,?_⟩;cases p.2.2.2
  ·simp only[Qa3,Qcj];omega
  ·simp only[Qcv];omega
 ·rintro⟨h1,h2,h3⟩;refine⟨((u:Int)-p.1).toNat,Qa1.mpr (by omega),?_⟩;unfold lnk;refine Prod.ext (by show(p.1+(((u:Int)-p.1).toNat:Int)).toNat=u;omega) ?_;dsimp only;cases hb:p.2.2.2
  ·rw[hb] at h3;simp only[Qa3,Qcj] at h3⊢;omega
  ·rw[hb] at h3;simp only[Qcv] at h3⊢;omega
theorem Zk6 {q:Nat×Nat}:q∈psL ps↔∃p∈ps,q∈prL p:=by
 unfold psL;rw[Qbt];constructor
 ·rintro⟨l,hl,hq⟩;obtain⟨p,hp,rfl⟩:=QaS.mp hl;exact⟨p,hp,hq⟩
 ·rintro⟨p,hp,hq⟩;exact⟨_,QaS.mpr ⟨p,hp,rfl⟩,hq⟩
theorem Zfi (h:∀p∈ps,PrW n p):RD (Zcx (psL ps)) u v↔∃p∈ps,LkP p u v:=by
 unfold RD;rw[ZdB,Zk6,Zk6];constructor
 ·rintro(⟨p,hp,q⟩|⟨p,hp,q⟩)
  ·exact⟨p,hp,.inl ((Zfh (h p hp)).mp q)⟩
  ·exact⟨p,hp,LkE.symm (.inl ((Zfh (h p hp)).mp q))⟩
 ·rintro⟨p,hp,q⟩;rcases q with q|q
  ·exact .inl ⟨p,hp,(Zfh (h p hp)).mpr q⟩
  ·refine .inr ⟨p,hp,(Zfh (h p hp)).mpr ?_⟩;obtain⟨q1,q2,q3⟩:=q;unfold tgI at*;cases hb:p.2.2.2
   ·rw[hb] at q3;simp only[Qa3,Qcj] at q3⊢;omega
   ·rw[hb] at q3;simp only[Qcv] at q3⊢;omega
theorem ZnO (h:PrW n p)(k:LkP p x y):0≤x∧x<n∧0≤y∧y<n:=by
 obtain⟨a,b,c,d⟩:=h;unfold LkP LkE tgI at k;cases hb:p.2.2.2
 ·rw[hb] at k;simp only[Qa3,Qcj] at k;omega
 ·rw[hb] at k;simp only[Qcv] at k;omega
def shP (p:PR)(u m:Int):PR:=prP (p.1+u) (p.2.1+(if p.2.2.2=true then p.2.2.1-u-m else u)) m p.2.2.2
theorem Zqm (h:PrW n p){u:Int}(h0:0≤u)(h1:1≤m)(h2:u+m≤p.2.2.1):PrW n (shP p u m):=by
 obtain⟨a,b,c,d⟩:=h;unfold shP prP PrW;dsimp only;cases p.2.2.2
 ·simp only[Qa3,Qcj];refine⟨?_,?_,h1,?_⟩<;>(repeat' split)<;>omega
 ·simp only[Qcv];refine⟨?_,?_,h1,?_⟩<;>(repeat' split)<;>omega
theorem Zif (h l u m i:Int)(t:Bool):tgI (h+(if t=true then l-u-m else u)) m t (i-u)=tgI h l t i:=by
 cases t
 ·show h+u+(i-u)=h+i;omega
 ·show h+(l-u-m)+m-1-(i-u)=h+l-1-i;omega
theorem Zqn {u:Int}(h0:0≤u)(h2:u+m≤p.2.2.1)(k:LkP (shP p u m) x y):LkP p x y:=by
 have fw:∀{x y:Int},p.1+u≤x→x<p.1+u+m→y=tgI (p.2.1+(if p.2.2.2=true then p.2.2.1-u-m else u)) m p.2.2.2 (x-(p.1+u))→LkP p x y:=fun{x y} a b c=>by
  refine .inl ⟨by omega,by omega,?_⟩;rw[c,show x-(p.1+u)=x-p.1-u by omega,Zif]
 rcases(Zf8.mp k).fwd with⟨a,b,c⟩|⟨a,b,c⟩
 ·exact fw a b c
 ·exact LkE.symm (fw a b c)
theorem Zqo {s:Int}(h0:0≤s)(h1:s<p.2.2.1)(k:LkP p x y):LkP (shP p 0 s) x y∨LkP (shP p s (p.2.2.1-s)) x y:=by
 have fw:∀{x y:Int},p.1≤x→x<p.1+p.2.2.1→y=tgI p.2.1 p.2.2.1 p.2.2.2 (x-p.1)→LkP (shP p 0 s) x y∨LkP (shP p s (p.2.2.1-s)) x y:=fun{x y} a b c=>by
  by_cases d:x-p.1<s
  ·refine .inl (Zf8.mpr (.inl ⟨by omega,by omega,?_⟩));rw[c,show x-(p.1+0)=x-p.1-0 by omega,Zif]
  ·refine .inr (Zf8.mpr (.inl ⟨by omega,by omega,?_⟩));rw[c,show x-(p.1+s)=x-p.1-s by omega,Zif]
 rcases LkE.fwd k with⟨a,b,c⟩|⟨a,b,c⟩
 ·exact fw a b c
 ·exact(fw a b c).imp LkE.symm LkE.symm
theorem ZoW (k:LkP p x y):LkP (shP p 0 (p.2.2.1-0)) x y:=by
 have fw:∀{x y:Int},p.1≤x→x<p.1+p.2.2.1→y=tgI p.2.1 p.2.2.1 p.2.2.2 (x-p.1)→LkP (shP p 0 (p.2.2.1-0)) x y:=fun{x y} a b c=>by
  refine Zf8.mpr (.inl ⟨by omega,by omega,?_⟩);rw[c,show x-(p.1+0)=x-p.1-0 by omega,Zif]
 rcases LkE.fwd k with⟨a,b,c⟩|⟨a,b,c⟩
 ·exact fw a b c
 ·exact LkE.symm (fw a b c)
def bgI (h1 l2:Int):Int:=if l2>h1 then l2 else h1
def enI (h1 n1 l2 n2:Int):Int:=if l2+n2<h1+n1 then l2+n2 else h1+n1
def srI (l1 h1 n1:Int)(t1:Bool)(bg en:Int):Int:=if t1=true then l1+n1-1-(en-1-h1) else l1+(bg-h1)
def beP (p q:PR):PR:=prP (srI p.1 p.2.1 p.2.2.1 p.2.2.2 (bgI p.2.1 q.1) (enI p.2.1 p.2.2.1 q.1 q.2.2.1)) (srI q.2.1 q.1 q.2.2.1 q.2.2.2 (bgI p.2.1 q.1) (enI p.2.1 p.2.2.1 q.1 q.2.2.1)) (enI p.2.1 p.2.2.1 q.1 q.2.2.1-bgI p.2.1 q.1) (p.2.2.2 !=q.2.2.2)
theorem ZnP (h1 l2:Int):h1≤bgI h1 l2∧l2≤bgI h1 l2∧(bgI h1 l2=h1∨bgI h1 l2=l2):=by unfold bgI;split<;>omega
theorem ZnQ (h1 n1 l2 n2:Int):enI h1 n1 l2 n2≤h1+n1∧enI h1 n1 l2 n2≤l2+n2∧(enI h1 n1 l2 n2=h1+n1∨enI h1 n1 l2 n2=l2+n2):=by unfold enI;split<;>omega
theorem Zrt (hp:PrW n p)(hq:PrW n q)(h:bgI p.2.1 q.1<enI p.2.1 p.2.2.1 q.1 q.2.2.1):PrW n (beP p q):=by
 have B:=ZnP p.2.1 q.1;have E:=ZnQ p.2.1 p.2.2.1 q.1 q.2.2.1;unfold beP prP;generalize bgI p.2.1 q.1=bg at*;generalize enI p.2.1 p.2.2.1 q.1 q.2.2.1=en at*;obtain⟨a,b,c,d⟩:=hp;obtain⟨a',b',c',d'⟩:=hq;have s1:p.1≤srI p.1 p.2.1 p.2.2.1 p.2.2.2 bg en∧srI p.1 p.2.1 p.2.2.1 p.2.2.2 bg en+(en-bg)≤p.1+p.2.2.1:=by unfold srI;cases p.2.2.2<;>simp only[Qa3,Qcj,Qcv]<;>omega
 have s2:q.2.1≤srI q.2.1 q.1 q.2.2.1 q.2.2.2 bg en∧srI q.2.1 q.1 q.2.2.1 q.2.2.2 bg en+(en-bg)≤q.2.1+q.2.2.1:=by unfold srI;cases q.2.2.2<;>simp only[Qa3,Qcj,Qcv]<;>omega
 generalize srI p.1 p.2.1 p.2.2.1 p.2.2.2 bg en=S at*;generalize srI q.2.1 q.1 q.2.2.1 q.2.2.2 bg en=G at*;unfold PrW;dsimp only;refine⟨?_,?_,by omega,?_⟩<;>(repeat' split)<;>omega
theorem Zqp {l1 h1 n1 l2 h2 n2 bg en:Int}{t1 t2:Bool}(b1:h1≤bg)(b2:l2≤bg)(e1:en≤h1+n1)(e2:en≤l2+n2)(k:LkE (srI l1 h1 n1 t1 bg en) (srI h2 l2 n2 t2 bg en) (en-bg) (t1 !=t2) x z):∃y,(LkE l1 h1 n1 t1 x y∧LkE l2 h2 n2 t2 y z)∨(LkE l2 h2 n2 t2 x y∧LkE l1 h1 n1 t1 y z):=by
 rcases k with k|k
 ·refine⟨tgI h1 n1 t1 (x-l1),.inl ⟨.inl ⟨?_,?_,rfl⟩,.inl ?_⟩⟩<;>unfold tgI srI at* <;>cases t1<;>cases t2<;>simp only[Qa3,Qcj,Qcv,Qex,Bool.bne_true,Bool.bne_false,Qfw,Bool.not_false] at* <;>omega
 ·refine⟨tgI l2 n2 t2 (x-h2),.inr ⟨.inr ⟨?_,?_,rfl⟩,.inr ?_⟩⟩<;>unfold tgI srI at* <;>cases t1<;>cases t2<;>simp only[Qa3,Qcj,Qcv,Qex,Bool.bne_true,Bool.bne_false,Qfw,Bool.not_false] at* <;>omega
theorem Zru (k:LkP (beP p q) x z):∃y,(LkP p x y∧LkP q y z)∨(LkP q x y∧LkP p y z):=by
 have B:=ZnP p.2.1 q.1;have E:=ZnQ p.2.1 p.2.2.1 q.1 q.2.2.1;exact Zqp B.1 B.2.1 E.1 E.2.1 (Zf8.mp k)
structure ZbF (n:Nat)(ps qs:List PR):Prop where
 pw:∀q∈qs,PrW n q
 to:∀q∈qs,∀x y,LkP q x y→(∃p∈ps,LkP p x y)∨∃w,(∃p∈ps,LkP p x w)∧∃p∈ps,LkP p w y
 fro:∀p∈ps,∀x y,LkP p x y→∃q∈qs,LkP q x y
theorem Zc9.bind {α:Type}{R S:α→α→Prop}(hi:∀a b,R a b→Zc9 S a b){a b:α}(h:Zc9 R a b):Zc9 S a b:=by
 induction h with
 |refl=>exact .refl _
 |step _ r ih=>exact ih.trans (hi _ _ r)
theorem ZbF.conn (h:ZbF n ps qs)(hp:∀p∈ps,PrW n p):(∀u v,RD (Zcx (psL qs)) u v→Zc9 (RD (Zcx (psL ps))) u v)∧∀u v,RD (Zcx (psL ps)) u v→RD (Zcx (psL qs)) u v:=by
 constructor
 ·intro u v r;obtain⟨q,hq,k⟩:=(Zfi h.pw).mp r;rcases h.to q hq _ _ k with⟨p,h1,h2⟩|⟨w,⟨p,h1,h2⟩,p',h3,h4⟩
  ·exact .one ((Zfi hp).mpr ⟨p,h1,h2⟩)
  ·have wl:=ZnO (hp p h1) h2;have ew:w=((w.toNat:Nat):Int):=by omega
   rw[ew] at h2 h4;exact .step (.one ((Zfi hp).mpr ⟨p,h1,h2⟩)) ((Zfi hp).mpr ⟨p',h3,h4⟩)
 ·intro u v r;obtain⟨p,h1,h2⟩:=(Zfi hp).mp r;obtain⟨q,h3,h4⟩:=h.fro p h1 _ _ h2;exact(Zfi h.pw).mpr ⟨q,h3,h4⟩
theorem ZmC {α:Type}{R S:α→α→Prop}{ts:List α}{hs:List (List α)}(p:Zb8 R ts hs)(to:∀a b,R a b→Zc9 S a b)(fro:∀a b,S a b→R a b):Zb8 S ts hs:=
 ⟨p.perm,p.ne,fun h hh x hx y hy=>(p.conn h hh x hx y hy).bind to,fun h hh x hx y r=>p.closed h hh x hx y (fro x y r)⟩
theorem Zk7 {b:List Bool}(hp:∀p∈ps,PrW n p)(sc:ZbF n ps qs)(h:LkI n (Zcx (psL ps)) n b hs)(g:LkI n (Zcx (psL qs)) n b' gs):gs=hs:=by
 obtain⟨to,fro⟩:=sc.conn hp
 exact(ZmC g.parts to fro).uni (lt:=fun x y=>x<y) (ll:=fun g h=>∃x t y u,g=x::t∧h=y::u∧x<y) (ZbX fun x y h1 h2=>absurd h1 (by omega)) (ZbX fun x y h1 h2=>by
  obtain⟨a,t,b,u,e1,e2,l1⟩:=h1
  obtain⟨c,t',d,u',e3,e4,l2⟩:=h2
  rw[e1] at e4
  rw[e2] at e3
  cases e4
  cases e3
  omega) h.parts Qcw g.up h.up g.hds h.hds
theorem ZmD {b:List Bool}(hp:∀p∈ps,PrW n p)(sub:∀q∈qs,q∈ps)(h:LkI n (Zcx (psL ps)) n b hs)(g:LkI n (Zcx (psL qs)) n b' gs):∀r∈gs,∃s∈hs,∀x∈r,x∈s:=by
 intro r hr
 cases e:r with
 |nil=>exact absurd e (g.pt.ne r hr)
 |cons x t=>
  have hx:x∈r:=by rw[e];exact Qai
  obtain⟨s,hs',xs⟩:=h.parts.mem (Qa1.mpr (g.lt x (Qbt.mpr ⟨r,hr,hx⟩)));refine⟨s,hs',fun y hy=> ?_⟩;rw[←e] at hy;refine(h.parts.class hs' xs y).mpr ((g.parts.conn r hr x hx y hy).imp fun u v q=> ?_);obtain⟨q',h1,h2⟩:=(Zfi fun q hq=>hp q (sub q hq)).mp q;exact(Zfi hp).mpr ⟨q',sub q' h1,h2⟩
theorem ZoX {b:List Bool}(hp:∀p∈ps,PrW n p)(h:LkI n (Zcx (psL ps)) n b hs){r:List Nat}(hr:r∈hs)(hpp:p∈ps){x:Nat}(hx:x∈r)(k:LkP p x y):∃m∈r,y=(m:Int):=by
 have wl:=ZnO (hp p hpp) k;have ey:y=((y.toNat:Nat):Int):=by omega
 rw[ey] at k;exact⟨y.toNat,h.pt.closed r hr x hx y.toNat ((Zfi hp).mpr ⟨p,hpp,k⟩),ey⟩
section
variable {K:PySem.W.Frag}
def Zrv (b g l:Int)(t:Bool)(p:Int):V:=if b≤p∧p<b+l then .int (if t=true then g+l-1-(p-b) else g+(p-b)) else .non
def ZmE:Sp:=fun vs H Q _=>∃(p:Addr) (low high qg:Int) (t:Bool) (place:Int),vs=[.ref p,.int place]∧H p=some (.tup [.int low,.int high,.int qg,.bl t])∧Q (Zrv low high qg t place) H
def Zfj:Sp:=fun vs H Q _=>∃(q:Addr) (p:PR) (n:Nat),vs=[.ref q]∧H q=some (.tup (pV p))∧PrW n p∧n≤2500∧∀(c:Addr) (ps:List V) (H':Hp),Zam H H'→H c=none→H' c=some (.lst ps)→TuL H' ps ((prL p).map pc)→Q (.ref c) H'
structure Zqq (n:Nat)(ps:List PR):Prop where
 n2:n≤2000
 ok:∀p∈ps,PrW n p
 len:ps.length≤64
 mul:ps.length*n≤40000
def ZrT (H:Hp)(n:Nat)(ps:List PR)(Q:VK):Prop:=∀(c:Addr) (zs:List V) (hs:List (List Nat)) (b':List Bool) (H':Hp),Zam H H'→H c=none→H' c=some (.lst zs)→LsL H' false zs (hs.map (List.map nc))→LkI n (Zcx (psL ps)) n b' hs→(∀y∈zs,∀a,y= .ref a→H a=none)→Q (.ref c) H'
def Zcc:Sp:=fun vs H Q _=>∃(a pa pb:Addr) (n:Nat) (ps:List PR) (L:WL2) (ya yb:List V),vs=[.ref a]∧Za1 H a pa pb (n:Int) ps L ya yb∧Zqq n ps∧ZrT H n ps Q
structure HlW (n:Nat)(ps:List PR)(L:WL2):Prop where
 n2:n≤200
 ok:∀p∈ps,PrW n p
 len:ps.length≤64
 fit:∃wd:Int,1≤wd∧wd≤24∧Zrs wd (n:Int) L
def Zk8:Sp:=fun vs H Q _=>∃(d:Addr) (n:Nat),vs=[.ref d,nv n]∧Zay H d∧n≤200∧∀(c:Addr) (ya:List V) (ps:List PR) (H':Hp),c≠d→H' c=some (.lst ya)→CpL H' ya (ps.map pV)→(∀p∈ps,PrW n p)→ps.length≤64→Zay H' d→Zbw d H H'→Q (.ref c) H'
def ZmF (K:PySem.W.Frag):Sp:=fun vs H Q _=>∃(a:Addr) (ns:List Int) (k:Int),vs=[.ref a,.int k]∧SqL K H a (ns.map V.int)∧0≤k∧k≤1000∧∀(d:Addr) (H':Hp),H d=none→Zay H' d→Zam H H'→Q (.ref d) H'
def ZoY (K:PySem.W.Frag):TS:=(ZaX (Zbk (tOp (rI0 fun i j=>V.int (i+j)) (tC (V.int 1)) (ZaK Za4 [] E0 (Zaf (Zan 0) (Zaf (tCB (fun xs H Q=>∃i j,xs=[V.int i,V.int j]∧Q (V.int (if j<i then j else i)) H) (Zaf (Zan 1) (Zaf (Zan 6) ZaB))) ZaB)))) (Zar 7)) (ZaX (Zbk (ZaK Za4 [] E0 (Zaf (Zan 0) (Zaf (tOp (rI0 fun i j=>V.int (i+j)) (tOp (rI0 fun i j=>V.int (i-j)) (Zan 1) (Zan 7)) (tC (V.int 1))) ZaB))) (Zar 8)) (ZaX (Zbk (tOp (ZfE K) (ZeJ (Zaf (Zan 8) (Zaf (ZaK Za4 [] E0 (Zaf (Zan 0) (Zaf (tOp (rI0 fun i j=>V.int (i+j)) (tOp (rI0 fun i j=>V.int (i-j)) (Zan 1) (Zan 7)) (tC (V.int 1))) ZaB))) ZaB))) (tCB (fun xs H Q=>(∃i,xs=[V.int i]∧Q (V.int i) H)∨∃k,xs=[V.bl k]∧Q (V.int (if k=true then 1 else 0)) H) (Zaf (tOp (rI0 fun i j=>V.bl (decide (j<i))) (ZaK Za4 [] E0 (Zaf (Zan 0) (Zaf (tC (V.int 8)) ZaB))) (tC (V.int 0))) ZaB))) (Zar 9)) (ZeH (tBM K "list" Zb0 (Zan 4) (Zaf (ZlC (Zaf (tCB (fun xs H Q=>∃i j,xs=[V.int i,V.int j]∧Q (V.int (if j<i then j else i)) H) (Zaf (Zan 8) (Zaf (Zan 9) ZaB))) (Zaf (tCB (fun xs H Q=>∃i j,xs=[V.int i,V.int j]∧Q (V.int (if j>i then j else i)) H) (Zaf (Zan 8) (Zaf (Zan 9) ZaB))) (Zaf (Zan 7) (Zaf (tOp rEq (ZaK Za4 [] E0 (Zaf (Zan 0) (Zaf (tC (V.int 2)) ZaB))) (tC (V.int 1))) ZaB))))) ZaB))))))
def Zqr (K:PySem.W.Frag):TS:=(ZaX (Zbk (ZeJ ZaB) (Zar 4)) (ZaX (Zgt (Zjm (Zaf (tOp (rI ZqO fun i j=>V.int (i*j)) (Zan 2) (tCB (fun xs H Q=>(∃i,xs=[V.int i]∧Q (V.int i) H)∨∃k,xs=[V.bl k]∧Q (V.int (if k=true then 1 else 0)) H) (Zaf (tOp (rI0 fun i j=>V.bl (decide (j<i))) (Zan 1) (tC (V.int 0))) ZaB))) ZaB)) (Zar 5) (ZaX (Zbk (tOp (ZfE K) (ZeJ (Zaf (tC (V.int 3)) (Zaf (tC (V.int 9)) (Zaf (Zan 1) (Zaf (tOp (rI0 fun i j=>V.int (i+j)) (tC (V.int 1)) (tOp (rI ZpC fun i j=>V.int (i/j)) (Zan 1) (tC (V.int 2)))) ZaB))))) (ZaK Za4 [] E0 (Zaf (Zan 0) (Zaf (tC (V.int 4)) ZaB)))) (Zar 6)) (ZaX (Zen (ZbZ (tOp (rI0 fun i j=>V.bl (decide (j<i))) (Zan 2) (tC (V.int 24)))) (Zbk (tC (V.int 9)) (Zar 6)) ZbT) (ZoY K)))) (ZcY (Zan 4))))
def Zqs (K:PySem.W.Frag):TS:=(ZaX (Zen (ZbZ (tOp rEq (Zan 3) (tC (V.int 2)))) (Zbk (tC (V.int 64)) (Zar 2)) ZbT) (Zqr K))
def ZoZ (K:PySem.W.Frag):TS:=ZcY (ZbL 1 (Zpu (Zaf (tOp (Zgw K) (Zan 0) (tC (V.int 0))) (Zaf (tOp (rI0 fun i j=>V.int (i+j)) (tOp (Zgw K) (Zan 0) (tC (V.int 0))) (tOp (Zgw K) (Zan 0) (tC (V.int 2)))) ZaB))) (Zar 0) Zc1 (ZlC (Zaf (Zan 0) (Zaf (ZaK ZmE [] E0 (Zaf (Zan 1) (Zaf (Zan 0) ZaB))) ZaB))))
def Zo0 (K:PySem.W.Frag):TS:=ZaX (Zbk (Zan 0) (Zjk K 3 (ZbN (Zar 1) (ZbN (Zar 2) (ZbN (Zar 3) ZlB))))) (ZaX (Zen (ZbZ (tOp (rI0 fun i j=>V.bl (decide (j<i))) (Zan 1) (tC (V.int 2000)))) (fun x x_1 x_2=>False) ZbT) (ZcY (ZaK Zd4 [] E0 (Zaf (Zan 1) (Zaf (Zj2 2 (ZbO K (Zan 2)) (Zar 0) Zc1 (ZbO K (ZaK Zfj [] E0 (Zaf (Zan 0) ZaB))) (Zar 1) Zc1 (Zan 1)) ZaB)))))
def Zrw (K:PySem.W.Frag):TS:=ZaX (Zbk (ZaK Za4 [] E0 (Zaf (Zan 0) (Zaf (tC (V.int 9)) ZaB))) (Zar 2)) (ZaX (Zbk (ZaK Za4 [] E0 (Zaf (Zan 0) (Zaf (tC (V.int 16)) ZaB))) (Zar 3)) (ZaX (Zen (ZbZ (tOp (rI0 fun i j=>V.bl (decide (i<j))) (Zan 3) (tC (V.int 2)))) (Zbk (ZaK Za4 [] E0 (Zaf (Zan 0) (Zaf (tC (V.int 25)) ZaB))) (Zar 2)) ZbT) (Zqs K)))
end
section
variable {K:PySem.W.Frag}
theorem ZnR {b:Bool}{A B:Prop}(h:b=false)(x:B):if b=true then A else B:=by
 rw[h];exact Zgm x
theorem Zo1 (hi:i<p.2.2.1.toNat):Zrv p.1 p.2.1 p.2.2.1 p.2.2.2 (p.1+(i:Int))= .int (if p.2.2.2=true then p.2.1+p.2.2.1-1-(i:Int) else p.2.1+(i:Int)):=by
 unfold Zrv;rw[if_pos ⟨by omega,by omega⟩,show p.1+(i:Int)-p.1=(i:Int) by omega]
def prI (p:PR)(i:Nat):List (Nat×Nat):=(List.range i).map (lnk p)
theorem ZmG (p:PR)(i:Nat):(prI p (i+1)).map pc=(prI p i).map pc++ [pc (lnk p i)]:=by
 unfold prI;rw[List.range_succ,QaG,QaG];rfl
theorem Zo2 (p:PR)(i:Nat):((prI p i).map pc).length=i:=by simp[prI]
theorem Zha {q:Addr}(hq:H q=some (.tup (pV p)))(hp:PrW n p)(hn:n≤2500)(k:∀(c:Addr) (ps:List V) (H':Hp),Zam H H'→H c=none→H' c=some (.lst ps)→TuL H' ps ((prL p).map pc)→Q (.ref c) H'):ZoZ K {nx:=Z,rt:=Q } [some (.ref q)] H:=by
 have hp':=hp;obtain⟨a0,a1,a2,a3⟩:=hp';have el:(p.1+p.2.2.1-p.1).toNat=p.2.2.1.toNat:=by rw[show p.1+p.2.2.1-p.1=p.2.2.1 by omega]
 refine⟨_,rfl,q,_,_,.int p.1,rfl,rfl,SqT.of hq,rfl,_,rfl,q,_,_,.int p.1,rfl,rfl,SqT.of hq,rfl,_,rfl,q,_,_,.int p.2.2.1,rfl,rfl,SqT.of hq,rfl,_,_,rfl,rfl,p.1,p.1+p.2.2.1,rfl,⟨by omega,by omega,by omega,by omega⟩,?_⟩;rw[el];refine ZnH (lo:=p.1) (n:=p.2.2.1.toNat) (fun i ys H'=>TuL H' ys ((prI p i).map pc)∧Zam H H') ⟨TuL.nil _,Zam.refl H⟩ (by omega) (fun i ys H' h=>by rw[h.1.1,Zo2];exact Qak _) ?_ ?_
 ·rintro i ys H1 pre qh hi ⟨t1,s1⟩;rcases pre with _|⟨q0,_|⟨q1,pre⟩⟩
  ·cases qh
  ·refine⟨⟨[some _],rfl,rfl⟩,?_⟩;unfold Zc1;dsimp only;rw[if_pos (rfl:true=true)];refine⟨_,rfl,_,rfl,_,rfl,q,p.1,p.2.1,p.2.2.1,p.2.2.2,_,rfl,s1 _ _ hq,?_⟩;rw[Zo1 hi];refine⟨(by show 2≤sizeLine;decide),fun r hr=> ?_⟩;have s2:=Zam.nw (o:=.tup [.int (p.1+(i:Int)),.int (if p.2.2.2=true then p.2.1+p.2.2.1-1-(i:Int) else p.2.1+(i:Int))]) (Zam.refl H1) hr;refine⟨?_,s1.trans s2⟩;rw[ZmG];refine TuL.snoc (t1.up s2.tups) ?_;rw[Zqe hp hi];exact Zab
  ·cases qh
 ·rintro ys H1 ⟨t1,s1⟩ c hc;have s2:=Zam.nw (o:=.lst ys) (Zam.refl H1) hc;exact k c ys _ (s1.trans s2) (s1.free hc) Zab (t1.up s2.tups)
theorem Zhb {a pa pb:Addr}{ya yb:List V}(x:Za1 H a pa pb (n:Int) ps L ya yb)(ok:Zqq n ps)(k:ZrT H n ps Q):Zo0 K {nx:=Z,rt:=Q } [some (.ref a),none,none,none] H:=by
 obtain⟨n2,okp,pl,pm⟩:=ok;refine⟨_,rfl,a,_,rfl,SqT.of x.h,rfl,_,_,rfl,_,_,rfl,_,_,rfl,rfl,?_⟩;refine⟨_,rfl,_,_,rfl,rfl,_,rfl,Zfv (fun e=>absurd (QaQ e) (by omega)) (fun e=> ?_)⟩;refine⟨_,rfl,_,rfl,pa,rfl,⟨_,SqL.of x.ha⟩,Zog (K:=K) (a:=pa) (xs:=ya) (fun i ys H'=>Zam H H'∧TuL H' ys ((psL (ps.take i)).map pc)) ⟨Zam.refl H,TuL.nil _⟩ (fun i ys H' _ h=>SqL.of (h.1 _ _ x.ha)) ?_ ?_⟩
 ·rintro i y ys H1 pre qh hy ⟨s1,t1⟩;have il:i<ps.length:=by rw[←x.len];exact(Qaf.mp hy).1
  have ep:ps[i]?=some ps[i]:=Qab il;obtain⟨q,eq,hq⟩:=x.at ep;rw[eq] at hy;cases hy;have mp:ps[i]∈ps:=QbG il;generalize ps[i]=p at ep hq mp;have tl:(psL (ps.take i)).length≤40000:=QaE (Zg5 (n:=n) fun p hp=>okp p (Qbx hp)) (QaE (Nat.mul_le_mul_right n (by rw[QaR];exact Nat.min_le_right _ _)) pm);have yl:ys.length≤40000:=by rw[t1.1,Qac];exact tl
  rcases pre with _|⟨q0,_|⟨q1,_|⟨q2,pre⟩⟩⟩
  ·cases qh
  ·cases qh
  ·refine⟨⟨[some _,q1],rfl,rfl⟩,?_⟩;unfold Zc1;dsimp only;rw[if_pos (rfl:true=true)];refine⟨_,rfl,q,p,n,rfl,s1 _ _ hq,okp p mp,by omega,fun c zs H2 s2 cf hc tL=>⟨c,rfl,⟨_,SqL.of hc⟩,ZoH (K:=K) (a:=c) (xs:=zs) (fun j ys' σ' H'=>H2=H'∧(∃pre':L2.St,σ'=pre'++ [some (.ref a),some (.int (n:Int)),some (.ref pa),some (.ref pb)]∧pre'.length=2)∧ys'=ys++zs.take j) ⟨rfl,⟨[some _,q1],rfl,rfl⟩,by simp⟩ ?_ ?_ ?_ ?_⟩⟩
   ·rintro j ys' σ' H' ⟨rfl,_,rfl⟩
    have zl:zs.length≤n:=by
     rw[tL.1,Qac,ZkR];obtain⟨b0,b1,b2,b3⟩:=okp p mp;omega
    rw[Qag,QaR];omega
   ·rintro j ys' σ' H' _ ⟨rfl,_,_⟩;exact SqL.of hc
   ·rintro j z ys' σ' H' hz ⟨rfl,⟨pre',eσ,pl'⟩,rfl⟩;rcases pre' with _|⟨r0,_|⟨r1,_|⟨r2,pre'⟩⟩⟩
    ·cases pl'
    ·cases pl'
    ·rw[eσ];refine⟨⟨[r0,some z],rfl,rfl⟩,?_⟩;dsimp only;rw[if_pos (rfl:true=true)];exact⟨_,rfl,rfl,⟨[r0,some z],rfl,rfl⟩,by rw[Zaq hz,QaP]⟩
    ·cases pl'
   ·rintro ys' σ' H' ⟨rfl,_,rfl⟩;rw[Qa6];refine⟨s1.trans s2,?_⟩;rw[Zaq ep,Zmx,QaG];exact((TuL.it (t1.up s2.tups)).append (TuL.it tL)).tu
  ·cases qh
 ·rintro ys H1 ⟨s1,t1⟩ D hD;rw[x.len,Qa6] at t1;have s2:=Zam.nw (o:=.lst ys) (Zam.refl H1) hD;have s02:=s1.trans s2;refine⟨D,n,ys,psL ps,rfl,Zab,t1.up s2.tups,by omega,QaE (Zg5 okp) pm,Zqg okp,fun c zs hs b' H' s cf hc l lk fr=> ?_⟩;exact k c zs hs b' H' (s02.trans s) (s02.free cf) hc l lk fun y hy b e=>s02.free (fr y hy b e)
end
section
variable {K:PySem.W.Frag}
theorem Zo3 {n:Int}(h1:a≤n)(h2:b≤n):(if b>a then b else a)≤n:=by split<;>omega
theorem ZiZ {D:Zi6}{H0:Hp}{c:Addr}{rm:Int}{x3 x5 x7 x8 x9:Option V}{ya:List V}(P:Zay H d)(B:Zbw d H0 H)(fc:H0 c=none)(ncd:c≠d)(hc:H c=some (.lst ya))(cp:CpL H ya (ps.map pV))(n0:0<n)(n2:n≤200)(r1:1≤rm)(pl:ps.length≤64)
  (k:∀(x7 x8 x9:Option V) (ya':List V) (p:PR) (H':Hp),Zay H' d→Zbw d H0 H'→H' c=some (.lst ya')→CpL H' ya' ((ps++ [p]).map pV)→PrW n p→D.nx [some (.ref d),some (.int (n:Int)),some (.int m),x3,some (.ref c),x5,some (.int rm),x7,x8,x9] H'):ZoY K D [some (.ref d),some (.int (n:Int)),some (.int m),x3,some (.ref c),x5,some (.int rm),x7,x8,x9] H:=by
 have mp:0<(if rm<(n:Int) then rm else(n:Int)):=by split<;>omega
 have ml:(if rm<(n:Int) then rm else(n:Int))≤200:=by split<;>omega
 have mn:(if rm<(n:Int) then rm else(n:Int))≤(n:Int):=by split<;>omega
 refine⟨_,rfl,_,rfl,_,rfl,_,_,rfl,d,_,rfl,P,mp,Qbw ml (by decide),fun r H1 r0 r1 P1 B1=>⟨_,_,rfl,rfl,?_⟩⟩;have lr:1+r≤(n:Int):=by omega
 refine⟨_,rfl,_,rfl,_,rfl,_,_,rfl,rfl,_,_,rfl,rfl,d,_,rfl,P1,by omega,Qbw (show _≤(300:Int) by omega) (by decide),fun one H2 o0 o1 P2 B2=> ?_⟩;refine⟨_,rfl,_,rfl,_,rfl,_,rfl,_,_,rfl,rfl,_,_,rfl,rfl,d,_,rfl,P2,by omega,Qbw (show _≤(300:Int) by omega) (by decide),fun tw H3 t0 t1 P3 B3=>⟨(by show 2≤sizeLine;decide),fun l hl=> ?_⟩⟩;have nl:=P3.ne hl;refine⟨_,rfl,d,8,rfl,P3.new hl,by decide,by decide,fun t H4 u0 u1 P4 B4=>⟨_,_,rfl,rfl,.inr ⟨_,rfl,?_⟩⟩⟩;have hl4:=B4 l _ Zab nl;have B34:Zbw d H3 H4:=((Zbw.refl d H3).new hl).trans B4;have Bt4:Zbw d H H4:=((B1.trans B2).trans B3).trans B34
 have key:∃o:Int,atI [V.int one,V.int tw] (if decide (0<t)=true then 1 else 0)=some (.int o)∧0≤o∧o+(1+r)≤(n:Int):=by
  cases decide (0<t) with
  |true=>exact⟨tw,rfl,t0,by omega⟩
  |false=>exact⟨one,rfl,o0,by omega⟩
 obtain⟨o,ea,p0,p1⟩:=key;refine⟨l,_,_,_,rfl,rfl,SqL.of hl4,ea,?_⟩;have hc4:=Bt4 _ _ hc ncd;have cp4:=cp.up (Bt4.tups P);refine⟨_,rfl,.inl ⟨rfl,_,SqL.of hc4⟩,_,rfl,_,rfl,_,_,rfl,_,rfl,_,rfl,_,_,rfl,_,rfl,_,rfl,d,2,rfl,P4,by decide,by decide,fun t2 H5 v0 v1 P5 B5=>⟨rfl,(by show 4≤sizeLine;decide),fun q hq=> ?_⟩⟩;have hc5:=B5 _ _ hc4 ncd;have cp5:=cp4.up (B5.tups P4)
 have pw:PrW n (if o<one then o else one,if o>one then o else one,1+r,decide (V.int t2=V.int 1)):=⟨by dsimp only;split<;>omega,by dsimp only;split<;>split<;>omega,by dsimp only;omega,by
  dsimp only
  have:=Zo3 (a:=one) (b:=o) (n:=(n:Int)-(1+r)) (by omega) (by omega)
  omega⟩
 have fq:(upd H5 q (.tup (pV (if o<one then o else one,if o>one then o else one,1+r,decide (V.int t2=V.int 1))))) q=some (.tup (pV (if o<one then o else one,if o>one then o else one,1+r,decide (V.int t2=V.int 1)))):=Zab;have s6:=Zam.nw (o:=.tup (pV (if o<one then o else one,if o>one then o else one,1+r,decide (V.int t2=V.int 1)))) (Zam.refl H5) hq;have P6:=P5.new (o:=.tup (pV (if o<one then o else one,if o>one then o else one,1+r,decide (V.int t2=V.int 1)))) hq;dsimp only[ZaB];show Zb0 (V.ref c) [V.ref q] (upd H5 q (.tup (pV (if o<one then o else one,if o>one then o else one,1+r,decide (V.int t2=V.int 1))))) _;generalize(if o<one then o else one,if o>one then o else one,1+r,decide (V.int t2=V.int 1))=p at pw fq s6 P6⊢;generalize upd H5 q (.tup (pV p))=H6 at fq s6 P6⊢;have hc6:=s6 _ _ hc5;have yl:ya.length≤64:=by rw[cp.1,Qac];exact pl
 refine⟨c,ya,_,rfl,rfl,hc6,QaN yl (by decide),?_⟩;refine k _ _ _ (ya++ [.ref q]) p _ (P6.at ncd) (((B.trans (Bt4.trans B5)).same s6).own fc) Zab ?_ pw;rw[QaG];exact CpL.up (CpL.snoc (cp5.up s6.tups) fq) (Za8.lst (Za8.refl H6) hc6)
theorem ZeD {x3:Option V}(P:Zay H d)(n2:n≤200)(m0:0≤m)(m1:m≤64)(k:∀(c:Addr) (ya:List V) (ps:List PR) (H':Hp),c≠d→H' c=some (.lst ya)→CpL H' ya (ps.map pV)→(∀p∈ps,PrW n p)→ps.length≤64→Zay H' d→Zbw d H H'→Q (.ref c) H'):Zqr K {nx:=Z,rt:=Q } [some (.ref d),some (nv n),some (.int m),x3,none,none,none,none,none,none] H:=by
 refine⟨(by show 0≤sizeLine;decide),fun c hc=> ?_⟩;have ncd:=P.ne hc;have P0:=P.new (o:=.lst []) hc;have B0:=(Zbw.refl d H).new (o:=.lst []) hc;have hc0:(upd H c (.lst [])) c=some (.lst []):=Zab;generalize upd H c (.lst [])=H0 at P0 B0 hc0⊢
 have hb:(m*(if decide ((0:Int)<(n:Int))=true then 1 else 0)).toNat≤64∧-(2^62)≤m*(if decide ((0:Int)<(n:Int))=true then(1:Int) else 0)∧m*(if decide ((0:Int)<(n:Int))=true then(1:Int) else 0)<2^62∧(0<(m*(if decide ((0:Int)<(n:Int))=true then 1 else 0)).toNat→0<n):=by
  by_cases c0:(0:Int)<(n:Int)
  ·rw[QaK c0,if_pos rfl];omega
  ·rw[QaC c0,if_neg (by decide)];omega
 obtain⟨h64,hb1,hb2,hn0⟩:=hb;refine⟨_,rfl,_,rfl,_,_,rfl,rfl,.inr ⟨_,rfl,_,_,rfl,rfl,.inl ⟨by omega,by omega⟩,_,rfl,hb1,hb2,?_⟩⟩;generalize(m*(if decide ((0:Int)<(n:Int))=true then 1 else 0)).toNat=N at h64 hn0⊢;refine ZbI (lo:=0) (n:=N) (fun i σ H'=>∃(x5 x6 x7 x8 x9:Option V) (ya:List V) (ps:List PR),σ=[some (.ref d),some (nv n),some (.int m),x3,some (.ref c),x5,x6,x7,x8,x9]∧Zay H' d∧Zbw d H H'∧H' c=some (.lst ya)∧CpL H' ya (ps.map pV)∧(∀p∈ps,PrW n p)∧ps.length=i) ⟨_,_,_,_,_,[],[],rfl,P0,B0,hc0,CpL.nil _,fun p hp=>(by cases hp),rfl⟩ ?_ ?_
 ·rintro i σ H1 hi ⟨x5,x6,x7,x8,x9,ya,ps,rfl,P1,B1,hc1,cp1,ok1,l1⟩;have n0:=hn0 (by omega);refine⟨_,rfl,_,rfl,_,_,rfl,rfl,⟨by decide,by decide⟩,_,_,rfl,rfl,(by show 4≤sizeLine;decide),fun l hl=> ?_⟩;have nl:=P1.ne hl;refine⟨_,rfl,d,4,rfl,P1.new hl,by decide,by decide,fun r H2 r0 r1 P2 B2=> ?_⟩;have hl2:=B2 l _ Zab nl;have B12:Zbw d H1 H2:=((Zbw.refl d H1).new hl).trans B2
  have key:∃rm:Int,atI [V.int 3,V.int 9,V.int (n:Int),V.int (1+(n:Int)/2)] r=some (.int rm)∧1≤rm:=by
   have hr:r=0∨r=1∨r=2∨r=3:=by omega
   rcases hr with rfl|rfl|rfl|rfl
   ·exact⟨3,rfl,by decide⟩
   ·exact⟨9,rfl,by decide⟩
   ·exact⟨(n:Int),rfl,by omega⟩
   ·exact⟨1+(n:Int)/2,rfl,by omega⟩
  obtain⟨rm,ea,rp⟩:=key;refine⟨l,_,_,_,rfl,rfl,SqL.of hl2,ea,?_⟩
  have fin:∀rm:Int,1≤rm→∀D:Zi6,(∀σ H',(∃(x5 x6 x7 x8 x9:Option V) (ya:List V) (ps:List PR),σ=[some (.ref d),some (nv n),some (.int m),x3,some (.ref c),x5,x6,x7,x8,x9]∧Zay H' d∧Zbw d H H'∧H' c=some (.lst ya)∧CpL H' ya (ps.map pV)∧(∀p∈ps,PrW n p)∧ps.length=i+1)→D.nx σ H')→ZoY K D [some (.ref d),some (.int (n:Int)),some (.int m),x3,some (.ref c),some (.int (0+(i:Int))),some (.int rm),x7,x8,x9] H2:=fun rm rp D kd=>by
   refine ZiZ (K:=K) (D:=D) (H0:=H) (ps:=ps) (rm:=rm) (m:=m) P2 (B1.trans B12) hc ncd (B12 _ _ hc1 ncd) (cp1.up (B12.tups P1)) n0 n2 rp (by omega) fun x7 x8 x9 ya' p H' P' B' h' cp' pw=> ?_;refine kd _ _ ⟨_,_,_,_,_,ya',ps++ [p],rfl,P',B',h',cp',fun z hz=> ?_,by rw[Qag,l1];rfl⟩;rcases Qaq.mp hz with z'|z'
   ·exact ok1 z z'
   ·rw[Qaj.mp z'];exact pw
  refine⟨_,rfl,_,_,rfl,rfl,_,rfl,Zfv (fun e=> ?_) (fun e=> ?_)⟩
  ·exact fin 9 (by decide) _ fun σ H' h=>h
  ·exact fin rm rp _ fun σ H' h=>h
 ·rintro σ H1 ⟨x5,x6,x7,x8,x9,ya,ps,rfl,P1,B1,hc1,cp1,ok1,l1⟩;exact⟨_,rfl,k c ya ps H1 ncd hc1 cp1 ok1 (by omega) P1 B1⟩
theorem Zk9 (P:Zay H d)(n2:n≤200)(k:∀(c:Addr) (ya:List V) (ps:List PR) (H':Hp),c≠d→H' c=some (.lst ya)→CpL H' ya (ps.map pV)→(∀p∈ps,PrW n p)→ps.length≤64→Zay H' d→Zbw d H H'→Q (.ref c) H'):Zrw K {nx:=Z,rt:=Q } [some (.ref d),some (nv n),none,none,none,none,none,none,none,none] H:=by
 refine⟨_,rfl,d,9,rfl,P,by decide,by decide,fun m H1 m0 m1 P1 B1=> ?_⟩;refine⟨_,rfl,d,16,rfl,P1,by decide,by decide,fun w H2 w0 w1 P2 B2=> ?_⟩;have B02:=B1.trans B2
 have fin:∀(m:Int) (H2:Hp),0≤m→m≤24→Zay H2 d→Zbw d H H2→Zqs K {nx:=Z,rt:=Q } [some (.ref d),some (nv n),some (.int m),some (.int w),none,none,none,none,none,none] H2:=fun m H2 m0 m1 P2 B2=>by
  refine⟨_,rfl,rfl,_,rfl,Zfv (fun e=> ?_) (fun e=> ?_)⟩
  ·exact ZeD (K:=K) P2 n2 (by decide) (by decide) fun c ya ps H' a1 a2 a3 a4 a5 a6 a7=>k c ya ps H' a1 a2 a3 a4 a5 a6 (B2.trans a7)
  ·exact ZeD (K:=K) P2 n2 m0 (by omega) fun c ya ps H' a1 a2 a3 a4 a5 a6 a7=>k c ya ps H' a1 a2 a3 a4 a5 a6 (B2.trans a7)
 refine⟨_,rfl,_,_,rfl,rfl,_,rfl,Zfv (fun e=> ?_) (fun e=> ?_)⟩
 ·exact⟨_,rfl,d,25,rfl,P2,by decide,by decide,fun m' H3 u0 u1 P3 B3=>fin m' H3 u0 (by omega) P3 (B02.trans B3)⟩
 ·exact fin m H2 m0 (by omega) P2 B02
end
section
variable {K:PySem.W.Frag}
theorem Zla {α:Type}:∀{hs:List (List α)},(∀h∈hs,h≠ [])→hs.length≤hs.flatten.length
 | [],_=>Qak _
 |h::hs,ne=>by
  rw[QaM,Qbq,Qag]
  have:=Zla fun g hg=>ne g (Qao _ hg)
  have:=Qdf.mpr (ne h Qai);omega
theorem Zig {α:Type}:∀{hs:List (List α)} {h:List α},h∈hs→h.length≤hs.flatten.length
 | [],_,hh=>by cases hh
 |g::hs,h,hh=>by
  rw[Qbq,Qag];rcases Qaz.mp hh with e|e
  ·rw[e];omega
  ·have:=Zig e;omega
theorem Zhc {D:List (Nat×Nat)}{b:List Bool}(h:LkI n D n b hs):hs.length≤n∧∀g∈hs,g.length≤n:=by
 have fl:hs.flatten.length≤n:=by
  have:=Zcl (m:=List.range n) h.nd fun x hx=>Qa1.mpr (h.lt x hx)
  rwa [QbB] at this
 exact⟨QaE (Zla h.pt.ne) fl,fun g hg=>QaE (Zig hg) fl⟩
end
section
variable {K:PySem.W.Frag}
def zpl (u v:List Int):List Int:=List.zipWith (· + ·) u v
theorem Zd8 {u v:List Int}(h:u.length=v.length):(zpl u v).length=u.length:=by unfold zpl;rw[List.length_zipWith];omega
def Zdj:Sp:=fun vs H Q _=>∃(a b:Addr) (u v:List Int),vs=[.ref a,.ref b]∧H a=some (.tup (u.map V.int))∧H b=some (.tup (v.map V.int))∧u.length=v.length∧u.length≤24∧∀(c:Addr) (H':Hp),Zam H H'→H' c=some (.tup ((zpl u v).map V.int))→Q (.ref c) H'
def wpl (L:WL2):List (List Int):=(L.map fun e=>List.replicate e.1.toNat e.2).flatten
theorem ZmH (L:WL2)(e:Int×List Int):wpl (L++ [e])=wpl L++List.replicate e.1.toNat e.2:=by simp[wpl]
theorem Zd9:∀{L:WL2},(∀e∈L,0≤e.1)→((wpl L).length:Int)=tot L
 | [],_=>rfl
 |e::L,h=>by
  have e1:wpl (e::L)=List.replicate e.1.toNat e.2++wpl L:=by simp[wpl]
  rw[e1,Qag,Qax,ZaW]
  have:=Zd9 fun x hx=>h x (Qao _ hx)
  have:=h e Qai;omega
theorem Zhd {u:List Int}(h:u∈wpl L):∃e∈L,u=e.2:=by
 obtain⟨l,hl,hu⟩:=Qbt.mp h;obtain⟨e,he,rfl⟩:=QaS.mp hl;exact⟨e,he,(List.mem_replicate.mp hu).2⟩
def Zjc (wd:Nat)(W:List (List Int)):Prop:=wd≤24∧∀u∈W,u.length=wd
def Zek (W:List (List Int))(a:List Int)(m:Nat):List Int:=zpl a (W.getD m [])
def Zgp (W:List (List Int)):List Nat→List Int
 | []=>[]
 |x::t=>t.foldl (Zek W) (W.getD x [])
theorem Zcy {wd:Nat}{W:List (List Int)}(h:Zjc wd W){m:Nat}(hm:m<W.length):(W.getD m []).length=wd:=by
 rw[QaA,Qab hm];exact h.2 _ (QbG hm)
theorem Zfk {wd:Nat}{W:List (List Int)}(h:Zjc wd W):∀{t:List Nat} {a:List Int},a.length=wd→(∀m∈t,m<W.length)→(t.foldl (Zek W) a).length=wd
 | [],a,ha,_=>ha
 |m::t,a,ha,ht=>by
  rw[QbX];refine Zfk h ?_ fun k hk=>ht k (Qao _ hk);unfold Zek;rw[Zd8 (by rw[ha,Zcy h (ht m Qai)])];exact ha
def Zlb:Sp:=fun vs H Q _=>∃(r p:Addr) (h:List Nat) (ps:List V) (W:List (List Int)) (wd:Nat),vs=[.ref r,.ref p]∧H r=some (.lst (h.map nv))∧H p=some (.lst ps)∧TuL H ps W∧Zjc wd W∧h≠ []∧(∀m∈h,m<W.length)∧∀(c:Addr) (H':Hp),Zam H H'→H' c=some (.tup ((Zgp W h).map V.int))→Q (.ref c) H'
def dkS (ks:List (List Int×Int))(e:Int×List Int):List (List Int×Int):=Zgn ks e.2 (Zdn ks e.2+e.1)
def dkF (W:WL2):List (List Int×Int):=W.foldl dkS []
theorem ZmI (W:WL2)(e:Int×List Int):dkF (W++ [e])=dkS (dkF W) e:=by unfold dkF;rw[Qc1];rfl
theorem Zfl {W:WL2}{e:Int×List Int}(h:W[i]?=some e):dkF (W.take (i+1))=dkS (dkF (W.take i)) e:=by rw[Zaq h,ZmI]
theorem Zdk (W:WL2):DIs W (dkF W):=by
 have key:∀i,DIs (W.take i) (dkF (W.take i)):=by
  intro i
  induction i with
  |zero=>exact DIs.nil
  |succ i ih=>
   cases e:W[i]? with
   |none=>
    have:W.length≤i:=Qbh.mp e;rw[QaL (by omega)];rw[QaL (by omega)] at ih;exact ih
   |some x=>
    rw[Zfl e,Zaq e];exact ih.put x
 have:=key W.length;rw[Qa6] at this;exact this
def SrO (ws ks:List (List Int×Int)):Prop:=ws.Perm ks∧ws.Pairwise (fun x y=>ZbR y.1 x.1=false)
theorem SrO.uni {ws us ks:List (List Int×Int)}(h:SrO ws ks)(g:SrO us ks)(nd:(ks.map (·.1)).Nodup):ws=us:=by
 have st:∀{l:List (List Int×Int)},SrO l ks→l.Pairwise fun x y=>ZbR y.1 x.1=false∧x.1≠y.1:=fun{l} s=>by
  have n1:(l.map (·.1)).Nodup:=(s.1.map (·.1)).nodup_iff.mpr nd;exact s.2.and (Qb5.mp n1)
 exact ZbX (r:=fun x y=>ZbR y.1 x.1=false∧x.1≠y.1) (fun x y a b=>a.2 (Zdu b.1 a.1)) ws us (h.1.trans g.1.symm) (st h) (st g)
def ZcX:Sp:=fun vs H Q _=>∃(a:Addr) (xs:List V) (W:WL2),vs=[.ref a]∧H a=some (.lst xs)∧Wg H xs W∧W.length≤900∧∀(l:Addr) (ps:List V) (ws:List (List Int×Int)) (H':Hp),H l=none→H' l=some (.lst ps)→PrL H' ps ws→SrO ws (dkF W)→Zam H H'→Q (.ref l) H'
def rws (L:WL2)(hs:List (List Nat)):WL2:=hs.map fun h=>(1,Zgp (wpl L) h)
structure ZqZ (n:Nat)(ps:List PR)(L:WL2):Prop where
 rm:Zqq n ps
 n2:n≤900
 wd:∃wd:Nat,Zjc wd (wpl L)
 pos:∀e∈L,0≤e.1
 tot:tot L=(n:Int)
 len:L.length≤900
def SwK (H:Hp)(n:Nat)(ps:List PR)(L:WL2)(Q:VK):Prop:=∀(l:Addr) (zs:List V) (ws:List (List Int×Int)) (hs:List (List Nat)) (b:List Bool) (H':Hp),Zam H H'→H l=none→H' l=some (.lst zs)→PrL H' zs ws→LkI n (Zcx (psL ps)) n b hs→SrO ws (dkF (rws L hs))→Q (.ref l) H'
def ZmJ:Sp:=fun vs H Q _=>∃(a pa pb:Addr) (n:Nat) (ps:List PR) (L:WL2) (ya yb:List V),vs=[.ref a]∧Za1 H a pa pb (n:Int) ps L ya yb∧ZqZ n ps L∧SwK H n ps L Q
def Zqt (K:PySem.W.Frag):TS:=ZcY (tCB (fun xs H_1 Q=>∃p ys,xs=[V.ref p]∧((SqL K H_1 p ys∧∀(l:Addr),H_1 l=none→Q (V.ref l) (upd H_1 l (HO.tup ys)))∨SqT K H_1 p ys∧Q (V.ref p) H_1)) (Zaf (ZbL 2 (ZpP K (Zaf (Zan 0) (Zaf (Zan 1) ZaB))) (Zjk K 2 (ZbN (Zar 0) (ZbN (Zar 1) ZlB))) Zc1 (tOp (rI0 fun i j=>V.int (i+j)) (Zan 0) (Zan 1))) ZaB))
def ZmK (K:PySem.W.Frag):TS:=ZaX (Zbk Znk (Zar 1)) (ZaX (Zgt (ZbO K (Zan 0)) (Zjk K 2 (ZbN (Zar 2) (ZbN (Zar 3) ZlB))) (Zoi (Zan 1) (Zan 3) (tOp (rI0 fun i j=>V.int (i+j)) (Znm (Zan 1) (Zan 3) (tC (V.int 0))) (Zan 2)))) (ZcY (tCB (fun xs H Q=>∃v d ks,xs=[V.ref v]∧H v=some (HO.ext (ZiU v d))∧H d=some (HO.dT (List.map (fun k=>(List.map Sum.inl k.fst,V.int k.snd)) ks))∧ks.length≤1000∧∀(l:Addr) (ps:List V) (ws:List (List Int×Int)) (H':Hp),H l=none→(∀(b:Addr) (o:HO),H b=some o→H' b=some o)→H' l=some (HO.lst ps)→PrL H' ps ws→ws.Perm ks→List.Pairwise (fun x y=>ZbR y.fst x.fst=false) ws→Q (V.ref l) H') (Zaf (ZkG (Zan 1)) ZaB))))
def Zqu (K:PySem.W.Frag):TS:=ZaX (Zbk (tOp (ZfE K) (Zan 1) (tOp (ZfE K) (Zan 0) (tC (V.int 0)))) (Zar 2)) (ZaX (Zgt (ZbO K (tSl (Zph K) (Zan 0) (Ziw (tC (V.int 1))) Zc0)) (Zar 3) (Zbk (ZaK Zdj [] E0 (Zaf (Zan 2) (Zaf (tOp (ZfE K) (Zan 1) (Zan 3)) ZaB))) (Zar 2))) (ZcY (Zan 2)))
def Zrx (K:PySem.W.Frag):TS:=ZaX (Zbk (ZaK Zcc [] E0 (Zaf (Zan 0) ZaB)) (Zar 1)) (ZaX (Zbk (ZeJ ZaB) (Zar 2)) (ZaX (Zgt (ZbO K (tOp (Zgw K) (Zan 0) (tC (V.int 2)))) (Zjk K 2 (ZbN (Zar 3) (ZbN (Zar 4) ZlB))) (ZeH (tBM K "list" Zjw (Zan 2) (Zaf (tOp Zq9 (ZeJ (Zaf (Zan 4) ZaB)) (Zan 3)) ZaB)))) (ZcY (ZaK ZcX [] E0 (Zaf (ZbL 1 (ZbO K (Zan 1)) (Zar 0) Zc1 (ZlC (Zaf (tC (V.int 1)) (Zaf (ZaK Zlb [] E0 (Zaf (Zan 0) (Zaf (Zan 3) ZaB))) ZaB)))) ZaB)))))
end
end L2
namespace Toy
open PySem L2 PyProof.Rows
variable {u v:List Int}
abbrev Sl:=List (Int×Int×List Int)
def co (u:List Int)(i:Nat):Int:=u.getD i 0
theorem ZeE (hl:u.length=v.length)(h:∀i,co u i=co v i):u=v:=by
 apply Qcd;intro i
 have:=h i;unfold co at this;rw[QaA,QaA] at this;by_cases z:i<u.length
 ·rw[Qab z,Qab (by omega)] at this⊢;exact congrArg some this
 ·rw[QaW (by omega),QaW (by omega)]
theorem Zdb (i:Nat)(hl:u.length=v.length):co (List.zipWith (fun a b=>a+b) u v) i=co u i+co v i:=by
 unfold co;rw[QaA,QaA,QaA,Qfl];by_cases z:i<u.length
 ·rw[Qab z,Qab (by omega)];rfl
 ·rw[QaW (by omega),QaW (by omega)];rfl
theorem ZbY (n i:Nat):co (List.replicate n 0) i=0:=by
 unfold co;rw[QaA,QbD];split<;>rfl
def st (x p:Int):Int:=if x≤p then 1 else 0
def eqi (x k:Int):Int:=if x=k then 1 else 0
def rt (s:Int×Int×List Int)(k:Int)(i:Nat):Int:=co s.2.2 i*(eqi s.1 k-eqi s.2.1 k)
def mn (b t:Int):Int:=if t<b then t else b
def mx (b:Int):Int:=if 0>b then 0 else b
end Toy
namespace L2
open PySem PySem.Spec PyProof.Rows
variable {H H' H0:Hp}{n wd i m j x:Nat}{ps qs rs:List PR}{L W:WL2}{Q:VK}{Z:L2.St→Hp→Prop}{a pa d pb c r q l e s:Addr}{ws S:List (List Int×Int)}{h:List Nat}{hs:List (List Nat)}{p o:PR}{u b v:List Int}{z:Int}{f:List Int→Int}{vs:List (List Int)}
section
open Toy (co ZeE Zdb ZbY)
def kF (f:List Int→Int)(ks:List (List Int×Int)):Int:=(ks.map fun k=>k.2*f k.1).sum
def tF (f:List Int→Int)(W:WL2):Int:=(W.map fun e=>e.1*f e.2).sum
theorem Zqv {ks:List (List Int×Int)}(h:∀k∈ks,k.1≠u):(ks.map fun k=>if k.1=u then(k.1,z) else k)=ks:=by
 induction ks with
 |nil=>rfl
 |cons k ks ih=>
  rw[QaV,if_neg (h k Qai),ih fun x hx=>h x (Qao _ hx)]
theorem ZnS {f:List Int→Int}{u:List Int}{x:Int}:∀{ks:List (List Int×Int)},(ks.map (·.1)).Nodup→kF f (Zgn ks u (Zdn ks u+x))=kF f ks+x*f u
 | [],_=>by
  show kF f ([]++ [(u,0+x)])=0+x*f u;unfold kF;simp
 |k::ks,nd=>by
  have nd2:=(Qcu.mp (show((k::ks).map (·.1)).Nodup from nd)).2;have nd1:=(Qcu.mp (show((k::ks).map (·.1)).Nodup from nd)).1;by_cases e:k.1=u
  ·have hn:∀y∈ks,y.1≠u:=fun y hy z=>nd1 (QaS.mpr ⟨y,hy,by rw[z];exact e.symm⟩);have ga:Zdn (k::ks) u=k.2:=by unfold Zdn;rw[Qch,QaK e];rfl
   unfold Zgn;rw[if_pos (by rw[Qcy,QaK e];rfl),QaV,if_pos e,Zqv hn,ga];unfold kF;rw[QaV,QaV,QbT,QbT,e];show(k.2+x)*f u+_=k.2*f u+_+x*f u;rw[Int.add_mul];omega
  ·have ih:=ZnS (f:=f) (u:=u) (x:=x) nd2;have ga:Zdn (k::ks) u=Zdn ks u:=by unfold Zdn;rw[Qch,QaC e]
   rw[ga]
   have pe:Zgn (k::ks) u (Zdn ks u+x)=k::Zgn ks u (Zdn ks u+x):=by
    unfold Zgn;rw[Qcy,QaC e,Bool.false_or];by_cases c:(ks.any fun k=>decide (k.1=u))=true
    ·rw[if_pos c,if_pos c,QaV,if_neg e]
    ·rw[if_neg c,if_neg c];rfl
   rw[pe];unfold kF at ih⊢;rw[QaV,QbT,QaV,QbT,ih];omega
theorem Zry (f:List Int→Int)(W:WL2):kF f (dkF W)=tF f W:=by
 have key:∀n,kF f (dkF (W.take n))=tF f (W.take n):=by
  intro n
  induction n with
  |zero=>rfl
  |succ n ih=>
   cases e:W[n]? with
   |none=>
    have:W.length≤n:=Qbh.mp e;rw[QaL (by omega)];rw[QaL (by omega)] at ih;exact ih
   |some x=>
    rw[Zfl e];show kF f (Zgn (dkF (W.take n)) x.2 (Zdn (dkF (W.take n)) x.2+x.1))=_;rw[ZnS (Zdk _).nd,ih,Zaq e];unfold tF;rw[QaG,QcZ];simp
 have:=key W.length;rw[Qa6] at this;exact this
theorem Zf9 {a:List Int}(h:a.Perm b):a.sum=b.sum:=by
 induction h with
 |nil=>rfl
 |cons x _ ih=>simp only[QbT,ih]
 |swap x y l=>simp only[QbT];omega
 |trans _ _ i1 i2=>exact i1.trans i2
theorem Zo4 (h:SrO ws (dkF W)):kF f ws=tF f W:=by
 rw[←Zry];unfold kF;exact Zf9 (h.1.map fun k:List Int×Int=>k.2*f k.1)
def rco (W:List (List Int))(i:Nat)(h:List Nat):Int:=(h.map fun m=>co (W.getD m []) i).sum
theorem Zhe {W:List (List Int)}(ok:Zjc wd W)(hm:∀m∈h,m<W.length)(hne:h≠ [])(i:Nat):co (Zgp W h) i=rco W i h∧(Zgp W h).length=wd:=by
 cases h with
 |nil=>exact absurd rfl hne
 |cons x t=>
  have key:∀(t:List Nat) (a:List Int),a.length=wd→(∀m∈t,m<W.length)→co (t.foldl (Zek W) a) i=co a i+rco W i t:=by
   intro t
   induction t with
   |nil=>intro a _ _;show _=co a i+0;rw[QfK];rfl
   |cons m t ih=>
    intro a ha ht;have hl:=Zcy ok (ht m Qai);rw[QbX,ih _ (by unfold Zek;rw[Zd8 (by rw[ha,hl])];exact ha) fun k hk=>ht k (Qao _ hk)]
    have:co (Zek W a m) i=co a i+co (W.getD m []) i:=by
     unfold Zek zpl;exact Zdb i (by rw[ha,hl])
    rw[this];unfold rco;rw[QaV,QbT];omega
  have hx:=Zcy ok (hm x Qai);refine⟨?_,Zfk ok hx fun k hk=>hm k (Qao _ hk)⟩;show co (t.foldl (Zek W) (W.getD x [])) i=_;rw[key t _ hx fun k hk=>hm k (Qao _ hk)];unfold rco;rw[QaV,QbT]
theorem Zih (W:List (List Int))(i:Nat):∀hs:List (List Nat),(hs.map fun h=>rco W i h).sum=rco W i hs.flatten
 | []=>rfl
 |h::hs=>by
  rw[QaV,QbT,Zih W i hs,Qbq];unfold rco;rw[QaG,QcZ]
theorem Zo5 (W:List (List Int))(i:Nat):rco W i (List.range W.length)=(W.map fun u=>co u i).sum:=by
 unfold rco;congr 1;apply Qcd;intro k;rw[Qam,Qam];by_cases c:k<W.length
 ·rw[QcL c,Qab c];show some (co (W.getD k []) i)=some _;rw[QaA,Qab c];rfl
 ·rw[QaW (by rw[QbB];omega),QaW (by omega)];rfl
theorem Zlc (i:Nat):∀{L:WL2},(∀e∈L,0≤e.1)→((wpl L).map fun u=>co u i).sum=tF (fun u=>co u i) L
 | [],_=>rfl
 |e::L,h=>by
  have e1:wpl (e::L)=List.replicate e.1.toNat e.2++wpl L:=by simp[wpl]
  have rs:∀(n:Nat) (x:Int),(List.replicate n x).sum=(n:Int)*x:=by
   intro n x
   induction n with
   |zero=>simp
   |succ n ih=>rw[Qbm,QbT,ih,Int.natCast_succ,Int.add_mul,Int.one_mul];omega
  rw[e1,QaG,QcZ,Zlc i fun x hx=>h x (Qao _ hx),Qei,rs];unfold tF;rw[QaV,QbT,Qb2 (h e Qai)]
theorem Zld {D:List (Nat×Nat)}{b:List Bool}(ok:Zjc wd (wpl L))(pos:∀e∈L,0≤e.1)(wl:(wpl L).length=n)(lk:LkI n D n b hs)(i:Nat):tF (fun u=>co u i) (rws L hs)=tF (fun u=>co u i) L:=by
 rw[←Zlc i pos,←Zo5,wl]
 have e1:tF (fun u=>co u i) (rws L hs)=(hs.map fun h=>rco (wpl L) i h).sum:=by
  unfold tF rws;rw[QbV];congr 1;refine QcM fun h hh=> ?_;show 1*co (Zgp (wpl L) h) i=_;rw[Int.one_mul];exact(Zhe ok (fun m hm=>by rw[wl];exact lk.lt m (Qbt.mpr ⟨h,hh,hm⟩)) (lk.pt.ne h hh) i).1
 rw[e1,Zih];unfold rco;exact Zf9 (lk.parts.perm.map fun m=>co ((wpl L).getD m []) i)
theorem Zi0 (hs:List (List Nat)):tF (fun _=>1) (rws L hs)=(hs.length:Int):=by
 unfold tF rws;rw[QbV]
 induction hs with
 |nil=>rfl
 |cons h hs ih=>
  rw[QaV,QbT,ih,QaM];show 1*1+(hs.length:Int)=_;omega
theorem ZnT:∀{L:WL2} {m:Nat},(∀e∈L,0<e.1)→(m:Int)<tot L→∃(j:Nat) (e:Int×List Int),L[j]?=some e∧tot (L.take j)≤(m:Int)∧(m:Int)<tot (L.take (j+1))∧(wpl L).getD m []=e.2
 | [],m,_,h=>by have:tot ([]:WL2)=0:=rfl;omega
 |e::L,m,pos,h=>by
  have e0:=pos e Qai;have e1:wpl (e::L)=List.replicate e.1.toNat e.2++wpl L:=by simp[wpl]
  by_cases c:(m:Int)<e.1
  ·refine⟨0,e,rfl,by rw[Qcr];exact Qeh m,by rw[Qd5,Qcr,ZaW];show _<e.1+0;omega,?_⟩;rw[e1,QaA,QaF (by rw[Qax];omega),QbD,if_pos (by omega)];rfl
  ·rw[ZaW] at h;obtain⟨j,x,h1,h2,h3,h4⟩:=ZnT (L:=L) (m:=m-e.1.toNat) (fun z hz=>pos z (Qao _ hz)) (by omega);refine⟨j+1,x,by rw[QeK];exact h1,by rw[Qd5,ZaW];omega,by rw[Qd5,ZaW];omega,?_⟩;rw[←h4,e1,QaA,Qav (by rw[Qax];omega),Qax,QaA]
theorem Zhf (so:SrO ws (dkF W))(pv:vs.Perm (ddT (W.map (·.2))))(sv:vs.Pairwise (fun x y=>ZbR y x=false)):vs=ws.map (·.1):=by
 have D:=Zdk W;have p1:(ws.map (·.1)).Perm ((dkF W).map (·.1)):=so.1.map _;have p2:((dkF W).map (·.1)).Perm (ddT (W.map (·.2))):=Zb9 D.nd (Zkp _) fun u=>by rw[D.mem,Zko]
 exact Zd1 (lt:=ZbR) Zdu _ _ (pv.trans (p1.trans p2).symm) sv (Qb5.mpr so.2)
theorem Zga {W:List (List Int)}{B:Int}(hB:0≤B)(h:∀u∈W,∀z∈u,-B≤z∧z≤B)(i:Nat):∀r:List Nat,-((r.length:Int)*B)≤rco W i r∧rco W i r≤(r.length:Int)*B
 | []=>by show -(((0:Nat):Int)*B)≤0∧0≤((0:Nat):Int)*B;simp
 |m::r=>by
  have ih:=Zga hB h i r
  have cb: -B≤co (W.getD m []) i∧co (W.getD m []) i≤B:=by
   unfold co;rw[QaA,QaA]
   cases e:W[m]? with
   |none=>show -B≤0∧(0:Int)≤B;omega
   |some u=>
    show -B≤(u[i]?).getD 0∧(u[i]?).getD 0≤B
    cases e2:u[i]? with
    |none=>show -B≤0∧(0:Int)≤B;omega
    |some z=>exact h u (Qap e) z (Qap e2)
  have e1:rco W i (m::r)=co (W.getD m []) i+rco W i r:=by unfold rco;rw[QaV,QbT]
  rw[e1,QaM,Int.natCast_succ,Int.add_mul,Int.one_mul];omega
end
section
variable {K:PySem.W.Frag}
def prO (a b l:Int)(t:Bool):HO:=.tup [.int (if b<a then b else a),.int (if b>a then b else a),.int l,.bl t]
def Zii:Sp:=fun vs H Q _=>∃(p:Addr) (low high qg:Int) (t:Bool) (u m:Int),vs=[.ref p,.int u,.int m]∧H p=some (.tup [.int low,.int high,.int qg,.bl t])∧∀q,H q=none→Q (.ref q) (upd H q (prO (low+u) (high+(if t=true then qg-u-m else u)) m t))
def beO (l1 h1 n1:Int)(t1:Bool)(l2 h2 n2:Int)(t2:Bool):HO:=prO (srI l1 h1 n1 t1 (bgI h1 l2) (enI h1 n1 l2 n2)) (srI h2 l2 n2 t2 (bgI h1 l2) (enI h1 n1 l2 n2)) (enI h1 n1 l2 n2-bgI h1 l2) (t1 !=t2)
def BeW (H:Hp)(m:V)(l1 h1 n1:Int)(t1:Bool)(l2 h2 n2:Int)(t2:Bool):Prop:=(m= .non∧enI h1 n1 l2 n2≤bgI h1 l2)∨∃r,m= .ref r∧bgI h1 l2<enI h1 n1 l2 n2∧H r=some (beO l1 h1 n1 t1 l2 h2 n2 t2)
def Zle:Sp:=fun vs H Q _=>∃(p q:Addr) (l1 h1 n1:Int) (t1:Bool) (l2 h2 n2:Int) (t2:Bool),vs=[.ref p,.ref q]∧H p=some (.tup [.int l1,.int h1,.int n1,.bl t1])∧H q=some (.tup [.int l2,.int h2,.int n2,.bl t2])∧
 ∀m H',BeW H' m l1 h1 n1 t1 l2 h2 n2 t2→Zam H H'→Q m H'
def Zqw (low high qg:Int)(t:Bool)(p:Int):List Int:=
 (if low≤p∧p<low+qg then [if t=true then high+qg-1-(p-low) else high+(p-low)] else [])++(if high≤p∧p<high+qg then [if t=true then low+qg-1-(p-high) else low+(p-high)] else [])
def Zhg:Sp:=fun vs H Q _=>∃(p:Addr) (low high qg:Int) (t:Bool) (place:Int),vs=[.ref p,.int place]∧H p=some (.tup [.int low,.int high,.int qg,.bl t])∧∀(q:Addr) (ms:List Int) (H':Hp),H q=none→H' q=some (.lst (ms.map V.int))→ms.Perm (dd (Zqw low high qg t place))→ms.Pairwise (· ≤ ·)→Zam H H'→Q (.ref q) H'
structure ZrU (L:List (Int×List Int))(p:Int)(j:Nat)(e:Int×List Int):Prop where
 get:L[j]?=some e
 lo:tot (L.take j)≤p
 hi:p<tot (L.take (j+1))
 pos:∀e∈L,0<e.1
def Zrz (K:PySem.W.Frag):Sp:=fun vs H Q _=>∃(a:Addr) (xs:List V) (L:List (Int×List Int)) (p:Int) (j:Nat) (e:Int×List Int) (q wq:Addr),vs=[.ref a,.int p]∧SqL K H a xs∧Wg H xs L∧ZrU L p j e∧xs[j]?=some (.ref q)∧H q=some (.tup [.int e.1,.ref wq])∧Q (.ref wq) H
def Zhh:Sp:=fun vs H Q _=>∃(d:Addr) (m:Int),vs=[.ref d,.int m]∧Zay H d∧0≤m∧m≤200∧∀(a pa pb:Addr) (n:Nat) (ps:List PR) (L:WL2) (ya yb:List V) (H':Hp),a≠d→pa≠d→pb≠d→Zay H' d→Zbw d H H'→Za1 H' a pa pb (n:Int) ps L ya yb→HlW n ps L→Q (.ref a) H'
def Zhi:Sp:=fun vs H Q _=>∃(d pa:Addr) (n:Nat) (ps:List PR) (ya:List V),vs=[.ref d,.ref pa]∧Zay H d∧pa≠d∧H pa=some (.lst ya)∧CpL H ya (ps.map pV)∧(∀p∈ps,PrW n p)∧n≤200∧ps.length≤64∧∀(c:Addr) (yc:List V) (qs:List PR) (H':Hp),H' c=some (.lst yc)→CpL H' yc (qs.map pV)→ZbF n ps qs→qs.length≤70→Zay H' d→Zbw d H H'→Q (.ref c) H'
def Zq0 (us:List Int):Prop:=∀z∈us,z.natAbs<2^9000
def Zij:Sp:=fun vs H Q _=>∃(l:Addr) (wd:Nat) (ps:List V) (ws:List (List Int×Int)),vs=[.ref l,nv wd]∧H l=some (.lst ps)∧PrL H ps ws∧1≤wd∧wd≤24∧(∀k∈ws,k.1.length=wd)∧(∀k∈ws,k.2.natAbs<2^9000∧Zq0 k.1)∧∀(c:Addr) (u:List Int) (H':Hp),Zam H H'→H' c=some (.tup (u.map V.int))→u.length=wd→(∀i,Toy.co u i=kF (fun u=>Toy.co u i) ws)→Q (.ref c) H'
structure RgW (n:Nat)(ps:List PR)(L:WL2)(h:List Nat)(wd:Nat):Prop where
 ne:h≠ []
 lt:∀m∈h,m<n
 mate:∀p∈ps,∀x∈h,∀y:Int,LkP p (x:Int) y→∃m∈h,y=(m:Int)
 w1:1≤wd
 pl:Zjc wd (wpl L)
 pos:∀e∈L,0<e.1
 sum:tot L=(n:Int)
def Zhj:Sp:=fun vs H Q _=>∃(a r pa pb:Addr) (n:Nat) (ps:List PR) (L:WL2) (ya yb:List V) (h:List Nat) (wd:Nat),vs=[.ref a,.ref r,nv wd]∧Za1 H a pa pb (n:Int) ps L ya yb∧H r=some (.lst (h.map nv))∧RgW n ps L h wd∧∀(c:Addr) (H':Hp),Zam H H'→H' c=some (.tup ((Zgp (wpl L) h).map V.int))→Q (.ref c) H'
structure ZrA (gs hs:List (List Nat)):Prop where
 ne:∀g∈gs,g≠ []
 sub:∀g∈gs,∃h∈hs,∀x∈g,x∈h
 nd:hs.flatten.Nodup
 lf:hs.flatten.length≤200
 lg:gs.length≤200
 lg2:∀g∈gs,g.length≤200
def Zhk:Sp:=fun vs H Q _=>∃(f r:Addr) (xf xr:List V) (gs hs:List (List Nat)),vs=[.ref f,.ref r]∧H f=some (.lst xf)∧LsL H false xf (gs.map (List.map nc))∧H r=some (.lst xr)∧LsL H false xr (hs.map (List.map nc))∧ZrA gs hs∧∀H',Zam H H'→Q (.bl true) H'
def ZdD:Sp:=fun vs H Q _=>∃(d a pa pb:Addr) (n:Nat) (ps:List PR) (L:WL2) (ya yb:List V) (wd:Nat),vs=[.ref d,.ref a,nv wd]∧Zay H d∧a≠d∧pa≠d∧pb≠d∧Za1 H a pa pb (n:Int) ps L ya yb∧HlW n ps L∧1≤wd∧Zjc wd (wpl L)∧∀H',Zbw d H H'→Q (.bl true) H'
def Zqx (K:PySem.W.Frag):TS:=ZaX (Zbk (tOp (ZfE K) (ZeJ (Zaf (ZaK Za4 [] E0 (Zaf (Zan 0) (Zaf (tC (V.int 61)) ZaB))) (Zaf (ZaK Za4 [] E0 (Zaf (Zan 0) (Zaf (tOp (rI0 fun i j=>V.int (i+j)) (Zan 1) (tC (V.int 1))) ZaB))) ZaB))) (tCB (fun xs H Q=>(∃i,xs=[V.int i]∧Q (V.int i) H)∨∃k,xs=[V.bl k]∧Q (V.int (if k=true then 1 else 0)) H) (Zaf (tOp rEq (ZaK Za4 [] E0 (Zaf (Zan 0) (Zaf (tC (V.int 8)) ZaB))) (tC (V.int 5))) ZaB))) (Zar 2)) (ZaX (Zbk (ZaK Zk8 [] E0 (Zaf (Zan 0) (Zaf (Zan 2) ZaB))) (Zar 3)) (ZcY (ZlC (Zaf (Zan 2) (Zaf (Zan 3) (Zaf (ZaK ZkS [] E0 (Zaf (Zan 0) (Zaf (ZaK ZoK [] E0 (Zaf (Zan 0) ZaB)) (Zaf (Zan 2) ZaB)))) ZaB))))))
def ZrV (K:PySem.W.Frag):TS:=(ZaX (Zen (Zq2 (ZbZ (tOp rEq (ZaK Za4 [] E0 (Zaf (Zan 0) (Zaf (tC (V.int 2)) ZaB))) (tC (V.int 0)))) (ZbZ (tOp (rI0 fun i j=>V.bl (decide (i<j))) (tCB (fun xs H Q=>∃p ys,xs=[V.ref p]∧(SqL K H p ys∨SqT K H p ys)∧Q (V.int ys.length) H) (Zaf (Zan 2) ZaB)) (tC (V.int 63))))) (ZeH (tBM K "list" Zb0 (Zan 2) (Zaf (Zan 5) ZaB))) ZbT) (ZcY (Zan 2)))
def ZrW (K:PySem.W.Frag):TS:=(ZaX (Zbk (ZaK Zle [] E0 (Zaf (Zan 4) (Zaf (Zan 5) ZaB))) (Zar 7)) (ZaX (Zen (tB (Zpp (Zan 7))) (Zbk (tOp Znb (ZeJ (Zaf (Zan 7) ZaB)) (Zan 2)) (Zar 2)) ZbT) (ZrV K)))
def ZrX (K:PySem.W.Frag):TS:=(ZaX (Zbk (tOp Znb (Zan 2) (ZeJ (Zaf (ZaK Zii [] E0 (Zaf (Zan 4) (Zaf (Zan 6) (Zaf (tOp (rI0 fun i j=>V.int (i-j)) (tOp (Zgw K) (Zan 4) (tC (V.int 2))) (Zan 6)) ZaB)))) ZaB))) (Zar 2)) (ZrW K))
def ZrY (K:PySem.W.Frag):TS:=(ZaX (Zbk (ZaK Za4 [] E0 (Zaf (Zan 0) (Zaf (tOp (Zgw K) (Zan 4) (tC (V.int 2))) ZaB))) (Zar 6)) (ZaX (Zen (ZbZ (tOp (rI0 fun i j=>V.bl (decide (j<i))) (Zan 6) (tC (V.int 0)))) (Zbk (tOp Znb (Zan 2) (ZeJ (Zaf (ZaK Zii [] E0 (Zaf (Zan 4) (Zaf (tC (V.int 0)) (Zaf (Zan 6) ZaB)))) ZaB))) (Zar 2)) ZbT) (ZrX K)))
def ZrZ (K:PySem.W.Frag):TS:=(ZaX (Zbk (ZaK Za4 [] E0 (Zaf (Zan 0) (Zaf (tCB (fun xs H Q=>∃p ys,xs=[V.ref p]∧(SqL K H p ys∨SqT K H p ys)∧Q (V.int ys.length) H) (Zaf (Zan 2) ZaB)) ZaB))) (Zar 3)) (ZaX (Zbk (tOp (ZfE K) (Zan 2) (Zan 3)) (Zar 4)) (ZaX (Zbk (tOp (ZfE K) (Zan 2) (ZaK Za4 [] E0 (Zaf (Zan 0) (Zaf (tCB (fun xs H Q=>∃p ys,xs=[V.ref p]∧(SqL K H p ys∨SqT K H p ys)∧Q (V.int ys.length) H) (Zaf (Zan 2) ZaB)) ZaB)))) (Zar 5)) (ZaX (Zbk (tOp Znb (tSl (Zph K) (Zan 2) (Ziw (tOp (rI0 fun i j=>V.int (i+j)) (Zan 3) (tC (V.int 1)))) Zc0) (tSl (Zph K) (Zan 2) Zc0 (Ziw (Zan 3)))) (Zar 2)) (ZrY K)))))
def Zqy (K:PySem.W.Frag):TS:=ZaX (Zbk (tCB (fun xs H_1 Q=>∃p ys,xs=[V.ref p]∧(SqL K H_1 p ys∨SqT K H_1 p ys)∧∀(l:Addr),H_1 l=none→Q (V.ref l) (upd H_1 l (HO.lst ys))) (Zaf (Zan 1) ZaB)) (Zar 2)) (ZaX (Zen (ZbZ (tOp (ZlN K fun b=>b) (Zan 2) (ZeJ ZaB))) (ZcY (Zan 2)) ZbT) (ZrZ K))
def Zqz (K:PySem.W.Frag):TS:=(ZaX (Zgt (ZbO K (Zan 0)) (Zjk K 2 (ZbN (Zar 3) (ZbN (Zar 4) ZlB))) (Zbk (ZaK Zdj [] E0 (Zaf (Zan 2) (Zaf (tCB (fun xs H_1 Q=>∃p ys,xs=[V.ref p]∧((SqL K H_1 p ys∧∀(l:Addr),H_1 l=none→Q (V.ref l) (upd H_1 l (HO.tup ys)))∨SqT K H_1 p ys∧Q (V.ref p) H_1)) (Zaf (ZbL 1 (ZrF K (Zan 3)) (Zar 0) Zc1 (tOp (rI ZpX fun i j=>V.int (i*j)) (Zan 5) (Zan 0))) ZaB)) ZaB))) (Zar 2))) (ZcY (Zan 2)))
def Zsg (K:PySem.W.Frag):TS:=ZaX (Zbk (tOp (ZhQ K) (ZlC (Zaf (tC (V.int 0)) ZaB)) (Zan 1)) (Zar 2)) (Zqz K)
def Zr0 (K:PySem.W.Frag):TS:=(Zgt (ZbO K (tOp (Zgw K) (Zan 0) (tC (V.int 1)))) (Zar 5) (Zen (Zpe (tB (tCB (fun xs H_1 Q=>∃p bs,xs=[V.ref p]∧SqL K H_1 p (List.map V.bl bs)∧Q (V.bl (bs.all id)) H_1) (Zaf (ZbL 1 (ZbO K (ZaK Zhg [] E0 (Zaf (Zan 5) (Zaf (Zan 4) ZaB)))) (Zar 0) Zc1 (tOp (rIn K false) (Zan 0) (Zan 2))) ZaB)))) (ZcY (tC V.non)) ZbT))
def Zsh (K:PySem.W.Frag):TS:=(ZaX (Zgt (ZbO K (Zan 1)) (Zar 4) (ZaX (Zr0 K) (Zbk (ZaK Zdj [] E0 (Zaf (Zan 3) (Zaf (ZaK (Zrz K) [] E0 (Zaf (tOp (Zgw K) (Zan 0) (tC (V.int 2))) (Zaf (Zan 4) ZaB))) ZaB))) (Zar 3)))) (ZcY (Zan 3)))
def ZqA (K:PySem.W.Frag):TS:=ZaX (Zbk (tOp (ZhQ K) (ZlC (Zaf (tC (V.int 0)) ZaB)) (Zan 2)) (Zar 3)) (Zsh K)
def Zr1 (K:PySem.W.Frag):TS:=(ZcY (tCB (fun xs H_1 Q=>∃p bs,xs=[V.ref p]∧SqL K H_1 p (List.map V.bl bs)∧Q (V.bl (bs.all id)) H_1) (Zaf (ZbL 1 (ZbO K (Zan 0)) (Zar 0) Zc1 (tOp rEq (fun σ H Q=>ZbL 1 (ZbO K (Zan 0)) (Zar 0) Zc1 (ZpT (Zan 4) (Zan 0)) σ H fun x H1=>∃l ns,x=V.ref l∧SqL K H1 l (List.map V.int ns)∧ns.length≤1000∧Q (V.int ↑(dd ns).length) H1) (tC (V.int 1)))) ZaB)))
def Zsi (K:PySem.W.Frag):TS:=(ZaX (Zgt (ZpW K (Zaf (Zan 1) ZaB)) (Zjk K 2 (ZbN (Zar 3) (ZbN (Zar 4) ZlB))) (Zgt (ZbO K (Zan 4)) (Zar 5) (Zoi (Zan 2) (Zan 5) (Zan 3)))) (Zr1 K))
def ZqB (K:PySem.W.Frag):TS:=ZaX (Zbk Znj (Zar 2)) (Zsi K)
def Zr2 (K:PySem.W.Frag):TS:=(ZcY (ZaK Zhk [] E0 (Zaf (ZaK Zcc [] E0 (Zaf (ZlC (Zaf (Zan 3) (Zaf (tSl (Zph K) (Zan 4) (Ziw (tC (V.int 1))) Zc0) (Zaf (Zan 5) ZaB)))) ZaB)) (Zaf (Zan 6) ZaB))))
def Zr3 (K:PySem.W.Frag):TS:=(ZaX (Zen (tOr (ZbZ (tOp (ZrS K) (tC V.non) (Zan 11))) (ZbZ (tOp (ZlN K fun b=> !b) (fun σ H_1 Q=>Zan 11 σ H_1 fun x H1=>∃l xs us,x=V.ref l∧SqL K H1 l xs∧TuL H1 xs us∧us.length≤300∧(∀(u:List Int),u∈us→u≠ [])∧∀(q:Addr) (ys:List V) (ws:List (List Int)),H1 q=none→TuL H1 ys ws→ws.Perm (ddT us)→List.Pairwise (fun x y=>ZbR y x=false) ws→Q (V.ref q) (upd H1 q (HO.lst ys))) (ZbL 1 (ZbO K (Zan 7)) (Zar 0) Zc1 (tOp (Zgw K) (Zan 0) (tC (V.int 0))))))) (ZcY (tC (V.bl false))) ZbT) (Zr2 K))
def Zr4 (K:PySem.W.Frag):TS:=(ZaX (Zbk (ZbL 1 (ZbO K (Zan 6)) (Zar 0) Zc1 (ZaK Zhj [] E0 (Zaf (Zan 2) (Zaf (Zan 0) (Zaf (Zan 3) ZaB))))) (Zar 11)) (Zr3 K))
def Zr5 (K:PySem.W.Frag):TS:=(ZaX (Zbk (ZeJ ZaB) (Zar 9)) (ZaX (Zgt (ZbO K (Zan 6)) (Zar 10) (Zbk (tOp Znb (Zan 9) (Zan 10)) (Zar 9))) (ZaX (Zen (ZbZ (tOp (ZlN K fun b=> !b) (tCB (fun xs H_1 Q=>∃p ns,xs=[V.ref p]∧SqL K H_1 p (List.map V.int ns)∧ns.length≤3000∧∀(l:Addr) (ms:List Int),H_1 l=none→ms.Perm ns→List.Pairwise (fun x1 x2=>x1≤x2) ms→Q (V.ref l) (upd H_1 l (HO.lst (List.map V.int ms)))) (Zaf (Zan 9) ZaB)) (tCB (fun xs H Q=>∃p i j,xs=[V.ref p]∧H p=some (HO.rng i j)∧-1000≤i∧i≤j∧j≤1000∧∀(l:Addr),H l=none→Q (V.ref l) (upd H l (HO.lst (List.map V.int (Zgo i (j-i).toNat))))) (Zaf (tCB (fun xs H Q=>∃j,xs=[V.int j]∧-2^62≤j∧j<2^62∧∀(p:Addr),H p=none→Q (V.ref p) (upd H p (HO.rng 0 j))) (Zaf (Zan 3) ZaB)) ZaB)))) (ZcY (tC (V.bl false))) ZbT) (Zr4 K))))
def Zr6 (K:PySem.W.Frag):TS:=(ZaX (Zen (ZbZ (tOp (ZlN K fun b=> !b) (ZaK Zij [] E0 (Zaf (Zan 7) (Zaf (Zan 2) ZaB))) (ZaK Zij [] E0 (Zaf (ZaK ZcX [] E0 (Zaf (Zan 5) ZaB)) (Zaf (Zan 2) ZaB))))) (ZcY (tC (V.bl false))) ZbT) (Zr5 K))
def Zr7 (K:PySem.W.Frag):TS:=(ZaX (Zen (ZbZ (tOp rNe (tCB (fun xs H_1 Q=>∃p ns,xs=[V.ref p]∧SqL K H_1 p (List.map V.int ns)∧Q (V.int ns.sum) H_1) (Zaf (ZbL 2 (ZbO K (Zan 7)) (Zjk K 2 (ZbN (Zar 0) (ZbN (Zar 1) ZlB))) Zc1 (Zan 1)) ZaB)) (tCB (fun xs H Q=>∃p ys,xs=[V.ref p]∧(SqL K H p ys∨SqT K H p ys)∧Q (V.int ys.length) H) (Zaf (Zan 6) ZaB)))) (ZcY (tC (V.bl false))) ZbT) (Zr6 K))
def Zr8 (K:PySem.W.Frag):TS:=(ZaX (Zen (Zq2 (ZbZ (tOp (rI0 fun i j=>V.bl (decide (i<j))) (tCB (fun xs H Q=>∃p ys,xs=[V.ref p]∧(SqL K H p ys∨SqT K H p ys)∧Q (V.int ys.length) H) (Zaf (tOp (Zgw K) (Zan 8) (tC (V.int 1))) ZaB)) (tC (V.int 64)))) (tOr (ZbZ (tOp (ZlN K fun b=> !b) (ZaK Zcc [] E0 (Zaf (Zan 8) ZaB)) (Zan 6))) (ZbZ (tOp (ZlN K fun b=> !b) (ZaK ZmJ [] E0 (Zaf (Zan 8) ZaB)) (Zan 7))))) (ZcY (tC (V.bl false))) ZbT) (Zr7 K))
def Zo6 (K:PySem.W.Frag):TS:=ZaX (Zbk (Zan 1) (Zjk K 3 (ZbN (Zar 3) (ZbN (Zar 4) (ZbN (Zar 5) ZlB))))) (ZaX (Zbk (ZaK Zcc [] E0 (Zaf (Zan 1) ZaB)) (Zar 6)) (ZaX (Zbk (ZaK ZmJ [] E0 (Zaf (Zan 1) ZaB)) (Zar 7)) (ZaX (Zbk (ZlC (Zaf (Zan 3) (Zaf (tSl (Zph K) (ZaK Zhi [] E0 (Zaf (Zan 0) (Zaf (Zan 4) ZaB))) Zc0 (Ziw (tC (V.int 64)))) (Zaf (Zan 5) ZaB)))) (Zar 8)) (Zr8 K))))
def ZqC (K:PySem.W.Frag):TS:=ZaX (Zgt (Zjm (Zaf (tOp (rI0 fun i j=>V.int (i+j)) (tC (V.int 1)) (tCB (fun xs H Q=>∃i j,xs=[V.int i,V.int j]∧Q (V.int (if j<i then j else i)) H) (Zaf (tC (V.int 2)) (Zaf (tCB (fun xs H Q=>∃p ys,xs=[V.ref p]∧(SqL K H p ys∨SqT K H p ys)∧Q (V.int ys.length) H) (Zaf (Zan 0) ZaB)) ZaB)))) ZaB)) (Zar 1) (ZaX (Zbk (ZaK (ZmF K) [] E0 (Zaf (Zan 0) (Zaf (Zan 1) ZaB))) (Zar 2)) (ZaX (Zbk (ZaK Zhh [] E0 (Zaf (Zan 2) (Zaf (tOp (ZfE K) (ZeJ (Zaf (tC (V.int 200)) (Zaf (tC (V.int 60)) ZaB))) (tCB (fun xs H Q=>(∃i,xs=[V.int i]∧Q (V.int i) H)∨∃k,xs=[V.bl k]∧Q (V.int (if k=true then 1 else 0)) H) (Zaf (tOp (rI0 fun i j=>V.bl (decide (j<i))) (Zan 1) (tC (V.int 0))) ZaB))) ZaB))) (Zar 3)) (ZaX (Zbk (tC (V.int 1)) (Zar 4)) (ZaX (Zen (ZbZ (tOp (ZlN K fun b=> !b) (tOp (Zgw K) (Zan 3) (tC (V.int 2))) (ZeJ ZaB))) (Zbk (tCB (fun xs H Q=>∃p ys,xs=[V.ref p]∧(SqL K H p ys∨SqT K H p ys)∧Q (V.int ys.length) H) (Zaf (tOp (Zgw K) (tOp (ZfE K) (tOp (Zgw K) (Zan 3) (tC (V.int 2))) (tC (V.int 0))) (tC (V.int 1))) ZaB)) (Zar 4)) ZbT) (Zen (Zpe (tB (ZaK ZdD [] E0 (Zaf (Zan 2) (Zaf (Zan 3) (Zaf (Zan 4) ZaB)))))) (ZcY (tC (V.bl false))) ZbT)))))) (ZcY (tC (V.bl true)))
end
theorem CpL.take {H:Hp}{ys:List V}{vss:List (List V)}(h:CpL H ys vss)(k:Nat):CpL H (ys.take k) (vss.take k):=⟨by rw[QaR,QaR,h.1],fun i y vs h1 h2=>by
 rw[QbC] at h1 h2
 split at h1
 ·rename_i c
  rw[if_pos c] at h2
  exact h.2 i y vs h1 h2
 ·cases h1⟩
theorem CpL.drop {H:Hp}{ys:List V}{vss:List (List V)}(h:CpL H ys vss)(k:Nat):CpL H (ys.drop k) (vss.drop k):=⟨by rw[Qbp,Qbp,h.1],fun i y vs h1 h2=>by
 rw[Qbv] at h1 h2
 exact h.2 _ y vs h1 h2⟩
theorem CpL.append {ys zs:List V}{vss wss:List (List V)}(h:CpL H ys vss)(g:CpL H zs wss):CpL H (ys++zs) (vss++wss):=by
 refine⟨by rw[Qag,Qag,h.1,g.1],fun i y vs h1 h2=> ?_⟩;by_cases c:i<ys.length
 ·rw[QaF c] at h1;rw[QaF (by rw[←h.1];exact c)] at h2;exact h.2 i y vs h1 h2
 ·rw[Qav (by omega)] at h1;rw[Qav (by rw[←h.1];omega),←h.1] at h2;exact g.2 _ y vs h1 h2
section
variable {K:PySem.W.Frag}
theorem Zhl {m:Int}(P:Zay H d)(m0:0≤m)(m2:m≤200)(k:∀(a pa pb:Addr) (n:Nat) (ps:List PR) (L:WL2) (ya yb:List V) (H':Hp),a≠d→pa≠d→pb≠d→Zay H' d→Zbw d H H'→Za1 H' a pa pb (n:Int) ps L ya yb→HlW n ps L→Q (.ref a) H'):Zqx K {nx:=Z,rt:=Q } [some (.ref d),some (.int m),none,none] H:=by
 refine⟨_,rfl,d,61,rfl,P,by decide,by decide,fun u H1 u0 u1 P1 B1=> ?_⟩;refine⟨_,rfl,_,rfl,_,_,rfl,rfl,d,m+1,rfl,P1,by omega,Qbw (show m+1≤201 by omega) (by decide),fun v H2 v0 v1 P2 B2=>⟨(by show 2≤sizeLine;decide),fun l hl=> ?_⟩⟩;have nl:=P2.ne hl;refine⟨_,rfl,d,8,rfl,P2.new hl,by decide,by decide,fun t H3 t0 t1 P3 B3=>⟨rfl,.inr ⟨_,rfl,?_⟩⟩⟩;have hl3:=B3 l _ Zab nl;have B03:Zbw d H H3:=((B1.trans B2).new hl).trans B3
 have key:∃n:Nat,atI [V.int u,V.int v] (if decide (V.int t=V.int 5)=true then 1 else 0)=some (nv n)∧n≤200:=by
  cases decide (V.int t=V.int 5) with
  |true=>exact⟨v.toNat,by show some (V.int v)=some (V.int ((v.toNat:Nat):Int));rw[Qb2 v0],by omega⟩
  |false=>exact⟨u.toNat,by show some (V.int u)=some (V.int ((u.toNat:Nat):Int));rw[Qb2 u0],by omega⟩
 obtain⟨n,ea,n2⟩:=key;refine⟨l,_,_,_,rfl,rfl,SqL.of hl3,ea,?_⟩;refine⟨_,rfl,_,rfl,d,n,rfl,P3,n2,fun c ya ps H4 cd hc cp ok pl P4 B4=> ?_⟩;refine⟨_,rfl,_,rfl,_,rfl,_,rfl,d,rfl,P4,fun wd H5 w1 w2 P5 B5=>⟨_,rfl,d,wd,(n:Int),rfl,P5,w1,w2,by omega,Qbw (show(n:Int)≤200 by omega) (by decide),fun b yb L H6 bd hb wg ft P6 B6=>⟨(by show 3≤sizeLine;decide),fun a ha=> ?_⟩⟩⟩;have B46:=B5.trans B6;have s7:=Zam.nw (o:=.tup [nv n,.ref c,.ref b]) (Zam.refl H6) ha;refine k a c b n ps L ya yb _ (P6.ne ha) cd bd (P6.new ha) (((B03.trans B4).trans B46).same s7) ⟨Zab,s7 _ _ (B46 _ _ hc cd),(cp.up (B46.tups P4)).up s7.tups,s7 _ _ hb,wg.up s7.tups⟩ ⟨n2,ok,pl,wd,w1,w2,ft⟩
structure MdI (H0 H:Hp)(d c:Addr)(yc:List V)(qs:List PR):Prop where
 P:Zay H d
 B:Zbw d H0 H
 hc:H c=some (.lst yc)
 fc:H0 c=none
 cd:c≠d
 cp:CpL H yc (qs.map pV)
theorem Zay.same (P:Zay H d)(s:Zam H H'):Zay H' d:=by
 obtain⟨a,b,e,r⟩:=P;exact⟨a,b,s _ _ e,r⟩
section
variable {yc:List V}
theorem MdI.up (m:MdI H0 H d c yc qs)(s:Zam H H'):MdI H0 H' d c yc qs:=⟨m.P.same s,m.B.same s,s _ _ m.hc,m.fc,m.cd,m.cp.up s.tups⟩
theorem MdI.but (m:MdI H0 H d c yc qs)(b:Zbw d H H')(P:Zay H' d):MdI H0 H' d c yc qs:=⟨P,m.B.trans b,b _ _ m.hc m.cd,m.fc,m.cd,m.cp.up (b.tups m.P)⟩
theorem MdI.new (m:MdI H0 H d c yc qs){p:Addr}(hp:H p=none){zs:List V}{rs:List PR}(cz:CpL H zs (rs.map pV)):MdI H0 (upd H p (.lst zs)) d p zs rs:=
 ⟨m.P.new hp,m.B.new hp,Zab,m.B.fr m.P hp,m.P.ne hp,cz.up (Zam.nw (Zam.refl H) hp).tups⟩
theorem MdI.len (m:MdI H0 H d c yc qs):yc.length=qs.length:=by rw[m.cp.1,Qac]
end
theorem Zik (h:H q=some (.tup (pV p))):H q=some (.tup [.int p.1,.int p.2.1,.int p.2.2.1,.bl p.2.2.2]):=h
theorem CpL.one (h:H q=some (.tup (pV p))):CpL H [.ref q] ([p].map pV):=CpL.snoc (CpL.nil H) h
theorem ZbF.more (s:ZbF n ps qs)(hp:PrW n o)(ho:o∈ps):ZbF n ps (qs++ [o]) where
 pw:=fun q hq=>by
  rcases Qaq.mp hq with z|z
  ·exact s.pw q z
  ·rw[Qaj.mp z];exact hp
 to:=fun q hq x y k=>by
  rcases Qaq.mp hq with z|z
  ·exact s.to q z x y k
  ·rw[Qaj.mp z] at k;exact .inl ⟨o,ho,k⟩
 fro:=fun p hp' x y k=>by
  obtain⟨q,h1,h2⟩:=s.fro p hp' x y k;exact⟨q,Qat _ h1,h2⟩
theorem ZbF.far (s:ZbF n ps qs)(hp:PrW n p)(hpp:p∈ps)(ho:PrW n o)(hoo:o∈ps)(l:bgI p.2.1 o.1<enI p.2.1 p.2.2.1 o.1 o.2.2.1):ZbF n ps ([beP p o]++qs) where
 pw:=fun q hq=>by
  rcases Qaq.mp hq with z|z
  ·rw[Qaj.mp z];exact Zrt hp ho l
  ·exact s.pw q z
 to:=fun q hq x y k=>by
  rcases Qaq.mp hq with z|z
  ·rw[Qaj.mp z] at k;obtain⟨w,h⟩:=Zru k;rcases h with⟨h1,h2⟩|⟨h1,h2⟩
   ·exact .inr ⟨w,⟨p,hpp,h1⟩,o,hoo,h2⟩
   ·exact .inr ⟨w,⟨o,hoo,h1⟩,p,hpp,h2⟩
  ·exact s.to q z x y k
 fro:=fun p hp' x y k=>by
  obtain⟨q,h1,h2⟩:=s.fro p hp' x y k;exact⟨q,Qah _ h1,h2⟩
theorem ZbF.cut {s:Int}(hp:∀p∈ps,PrW n p)(hpp:p∈ps)(hr:∀q∈rs,q∈ps)(hr2:∀q∈ps,q∈rs∨q=p)(h0:0≤s)(h1:s<p.2.2.1)(ts:List PR)(ht:ts=(if 0<s then rs++ [shP p 0 s] else rs)++ [shP p s (p.2.2.1-s)]):ZbF n ps ts:=by
 have in1:0<s→shP p 0 s∈ts:=fun z=>by rw[ht,if_pos z];simp
 have in2:shP p s (p.2.2.1-s)∈ts:=by rw[ht];simp
 have inr:∀q∈rs,q∈ts:=fun q hq=>by
  rw[ht];by_cases z:0<s
  ·rw[if_pos z];exact Qat _ (Qat _ hq)
  ·rw[if_neg z];exact Qat _ hq
 have all:∀q∈ts,q∈rs∨(0<s∧q=shP p 0 s)∨q=shP p s (p.2.2.1-s):=fun q hq=>by
  rw[ht] at hq;rcases Qaq.mp hq with z|z
  ·by_cases y:0<s
   ·rw[if_pos y] at z;rcases Qaq.mp z with z|z
    ·exact .inl z
    ·exact .inr (.inl ⟨y,Qaj.mp z⟩)
   ·rw[if_neg y] at z;exact .inl z
  ·exact .inr (.inr (Qaj.mp z))
 refine⟨fun q hq=> ?_,fun q hq x y k=> .inl ?_,fun q hq x y k=> ?_⟩
 ·rcases all q hq with z|⟨y,z⟩|z
  ·exact hp q (hr q z)
  ·rw[z];exact Zqm (hp p hpp) (by omega) (by omega) (by omega)
  ·rw[z];exact Zqm (hp p hpp) h0 (by omega) (by omega)
 ·rcases all q hq with z|⟨_,z⟩|z
  ·exact⟨q,hr q z,k⟩
  ·rw[z] at k;exact⟨p,hpp,Zqn (by omega) (by omega) k⟩
  ·rw[z] at k;exact⟨p,hpp,Zqn h0 (by omega) k⟩
 ·rcases hr2 q hq with z|z
  ·exact⟨q,inr q z,k⟩
  ·rw[z] at k;by_cases y':0<s
   ·rcases Zqo h0 h1 k with z|z
    ·exact⟨_,in1 y',z⟩
    ·exact⟨_,in2,z⟩
   ·have e:s=0:=by omega
    subst e;exact⟨_,in2,ZoW k⟩
section
variable {q4 q5:Addr}{yc:List V}{x3 x6 x7:Option V}{sk:Int}
theorem Zgb (m:MdI H0 H d c yc qs)(sc:ZbF n ps qs)(lq:qs.length≤68)(h5:H q5=some (.tup (pV o)))(ho:PrW n o)(hoo:o∈ps)
  (k:∀(c:Addr) (yc:List V) (qs:List PR) (H':Hp),H' c=some (.lst yc)→CpL H' yc (qs.map pV)→ZbF n ps qs→qs.length≤70→Zay H' d→Zbw d H0 H'→Q (.ref c) H'):ZrV K {nx:=Z,rt:=Q } [some (.ref d),some (.ref pa),some (.ref c),x3,some (.ref q4),some (.ref q5),x6,x7] H:=by
 refine⟨_,rfl,d,2,rfl,m.P,by decide,by decide,fun r H1 r0 r1 P1 B1=> ?_⟩;have m1:=m.but B1 P1;have h51:=(B1.tups m.P) _ _ h5;refine⟨rfl,_,rfl,Zfv (fun e=> ?_) (fun e=> ?_)⟩
 ·refine⟨_,rfl,c,yc,rfl,.inl (SqL.of m1.hc),_,_,rfl,rfl,_,rfl,Zfv (fun e=> ?_) (fun e=> ?_)⟩
  ·have e:=QaQ e;refine⟨_,rfl,.inl ⟨rfl,_,SqL.of m1.hc⟩,_,rfl,c,yc,_,rfl,rfl,m1.hc,QaN (show yc.length≤1000 by omega) (by decide),?_⟩;have t2:Za8 H1 (upd H1 c (.lst (yc++ [.ref q5]))):=Za8.lst (Za8.refl H1) m1.hc;refine⟨_,rfl,k c (yc++ [.ref q5]) (qs++ [o]) _ Zab ?_ (sc.more ho hoo) (by rw[Qag];show _+1≤70;omega) (m1.P.at m1.cd) (m1.B.own m1.fc)⟩;rw[QaG];exact CpL.snoc (m1.cp.up t2) (t2 _ _ h51)
  ·exact⟨_,rfl,k c yc qs _ m1.hc m1.cp sc (by omega) m1.P m1.B⟩
 ·refine Zgm ⟨_,rfl,k c yc qs _ m1.hc m1.cp sc (by omega) m1.P m1.B⟩
theorem Zlf (m:MdI H0 H d c yc qs)(sc:ZbF n ps qs)(lq:qs.length≤66)(h4:H q4=some (.tup (pV p)))(hp:PrW n p)(hpp:p∈ps)(h5:H q5=some (.tup (pV o)))(ho:PrW n o)(hoo:o∈ps)
  (k:∀(c:Addr) (yc:List V) (qs:List PR) (H':Hp),H' c=some (.lst yc)→CpL H' yc (qs.map pV)→ZbF n ps qs→qs.length≤70→Zay H' d→Zbw d H0 H'→Q (.ref c) H'):ZrW K {nx:=Z,rt:=Q } [some (.ref d),some (.ref pa),some (.ref c),x3,some (.ref q4),some (.ref q5),x6,x7] H:=by
 refine⟨_,rfl,_,rfl,q4,q5,_,_,_,_,_,_,_,_,rfl,Zik h4,Zik h5,fun v H1 bw s1=> ?_⟩;have m1:=m.up s1;rcases bw with⟨rfl,_⟩|⟨r,rfl,l,hr⟩
 ·exact⟨_,rfl,_,rfl,Zgm (Zgb (K:=K) m1 sc (by omega) (s1 _ _ h5) ho hoo k)⟩
 ·refine⟨_,rfl,_,rfl,Zi8 ⟨_,rfl,(by show 1≤sizeLine;decide),fun l1 hl1=> ?_⟩⟩;have s2:=Zam.nw (o:=.lst [.ref r]) (Zam.refl H1) hl1;have f2:(upd H1 l1 (.lst [.ref r])) l1=some (.lst [.ref r]):=Zab;generalize upd H1 l1 (.lst [.ref r])=H2 at s2 f2⊢;have m2:=m1.up s2;have hr':H2 r=some (.tup (pV (beP p o))):=s2 _ _ hr;have ll:=m.len;refine⟨_,rfl,l1,c,_,_,rfl,rfl,f2,m2.hc,QaE (show 1+yc.length≤1000 by omega) (by decide),fun c2 hc2=> ?_⟩;have cz:CpL H2 ([.ref r]++yc) (([beP p o]++qs).map pV):=by rw[QaG];exact CpL.append (CpL.one hr') m2.cp
  have s3:=Zam.nw (o:=.lst ([.ref r]++yc)) (Zam.refl H2) hc2;exact Zgb (K:=K) (m2.new hc2 cz) (sc.far hp hpp ho hoo l) (by rw[Qag];show 1+_≤68;omega) (s3 _ _ (s2 _ _ (s1 _ _ h5))) ho hoo k
theorem Zgc (m:MdI H0 H d c yc rs)(lr:rs.length≤65)(h4:H q4=some (.tup (pV p)))(hp:PrW n p)(hpp:p∈ps)(sc:ZbF n ps (rs++ [shP p sk (p.2.2.1-sk)]))(h5:H q5=some (.tup (pV o)))(ho:PrW n o)(hoo:o∈ps)
  (k:∀(c:Addr) (yc:List V) (qs:List PR) (H':Hp),H' c=some (.lst yc)→CpL H' yc (qs.map pV)→ZbF n ps qs→qs.length≤70→Zay H' d→Zbw d H0 H'→Q (.ref c) H'):ZrX K {nx:=Z,rt:=Q } [some (.ref d),some (.ref pa),some (.ref c),x3,some (.ref q4),some (.ref q5),some (.int sk),none] H:=by
 refine⟨_,rfl,_,rfl,_,rfl,_,rfl,q4,_,_,_,rfl,rfl,SqT.of h4,rfl,_,rfl,_,_,rfl,rfl,q4,_,_,_,_,_,_,rfl,Zik h4,fun q hq=>⟨(by show 1≤sizeLine;decide),fun l hl=> ?_⟩⟩;have s1:=Zam.nw (o:=.tup (pV (shP p sk (p.2.2.1-sk)))) (Zam.refl H) hq;have f1:(upd H q (.tup (pV (shP p sk (p.2.2.1-sk))))) q=some (.tup (pV (shP p sk (p.2.2.1-sk)))):=Zab;have hl:(upd H q (.tup (pV (shP p sk (p.2.2.1-sk))))) l=none:=hl;show Znb _ _ (upd (upd H q (.tup (pV (shP p sk (p.2.2.1-sk))))) l (.lst [.ref q])) _;generalize upd H q (.tup (pV (shP p sk (p.2.2.1-sk))))=H1 at s1 f1 hl⊢;have s2:=Zam.nw (o:=.lst [.ref q]) (Zam.refl H1) hl;have f2:(upd H1 l (.lst [.ref q])) l=some (.lst [.ref q]):=Zab;generalize upd H1 l (.lst [.ref q])=H2 at s2 f2⊢;have m2:=(m.up s1).up s2;have ll:=m.len;refine⟨c,l,_,_,rfl,rfl,m2.hc,f2,QaE (show yc.length+1≤1000 by omega) (by decide),fun c2 hc2=> ?_⟩;have cz:CpL H2 (yc++ [.ref q]) ((rs++ [shP p sk (p.2.2.1-sk)]).map pV):=by rw[QaG];exact CpL.append m2.cp (CpL.one (s2 _ _ f1))
 have s3:=Zam.nw (o:=.lst (yc++ [.ref q])) (Zam.refl H2) hc2;have s:=(s1.trans s2).trans s3;exact Zlf (K:=K) (m2.new hc2 cz) sc (by rw[Qag];show _+1≤66;omega) (s _ _ h4) hp hpp (s _ _ h5) ho hoo k
theorem Zlg (m:MdI H0 H d c yc rs)(lr:rs.length≤64)(h4:H q4=some (.tup (pV p)))(hps:∀p∈ps,PrW n p)(n2:n≤200)(hpp:p∈ps)(hr:∀q∈rs,q∈ps)(hr2:∀q∈ps,q∈rs∨q=p)(h5:H q5=some (.tup (pV o)))(hoo:o∈ps)
  (k:∀(c:Addr) (yc:List V) (qs:List PR) (H':Hp),H' c=some (.lst yc)→CpL H' yc (qs.map pV)→ZbF n ps qs→qs.length≤70→Zay H' d→Zbw d H0 H'→Q (.ref c) H'):ZrY K {nx:=Z,rt:=Q } [some (.ref d),some (.ref pa),some (.ref c),x3,some (.ref q4),some (.ref q5),none,none] H:=by
 have hp:=hps p hpp;have ho:=hps o hoo;obtain⟨a1,a2,a3,a4⟩:=hp;refine⟨_,rfl,_,rfl,q4,_,_,_,rfl,rfl,SqT.of h4,rfl,d,p.2.2.1,rfl,m.P,by omega,Qbw (show p.2.2.1≤200 by omega) (by decide),fun sk H1 k0 k1 P1 B1=> ?_⟩;have m1:=m.but B1 P1;have t1:=B1.tups m.P;have h41:=t1 _ _ h4;have h51:=t1 _ _ h5;have ll:=m.len;refine⟨_,rfl,_,_,rfl,rfl,_,rfl,Zfv (fun e=> ?_) (fun e=> ?_)⟩
 ·have e:0<sk:=QaQ e;refine⟨_,rfl,_,rfl,_,rfl,q4,_,_,_,_,_,_,rfl,Zik h41,fun q hq=>⟨(by show 1≤sizeLine;decide),fun l hl=> ?_⟩⟩;have s1:=Zam.nw (o:=.tup (pV (shP p 0 sk))) (Zam.refl H1) hq;have f1:(upd H1 q (.tup (pV (shP p 0 sk)))) q=some (.tup (pV (shP p 0 sk))):=Zab;have hl:(upd H1 q (.tup (pV (shP p 0 sk)))) l=none:=hl;show Znb _ _ (upd (upd H1 q (.tup (pV (shP p 0 sk)))) l (.lst [.ref q])) _;generalize upd H1 q (.tup (pV (shP p 0 sk)))=H2 at s1 f1 hl⊢;have s2:=Zam.nw (o:=.lst [.ref q]) (Zam.refl H2) hl;have f2:(upd H2 l (.lst [.ref q])) l=some (.lst [.ref q]):=Zab;generalize upd H2 l (.lst [.ref q])=H3 at s2 f2⊢;have m3:=(m1.up s1).up s2;refine⟨c,l,_,_,rfl,rfl,m3.hc,f2,QaE (show yc.length+1≤1000 by omega) (by decide),fun c2 hc2=> ?_⟩;have cz:CpL H3 (yc++ [.ref q]) ((rs++ [shP p 0 sk]).map pV):=by rw[QaG];exact CpL.append m3.cp (CpL.one (s2 _ _ f1))
  have s3:=Zam.nw (o:=.lst (yc++ [.ref q])) (Zam.refl H3) hc2;have s:=(s1.trans s2).trans s3;exact Zgc (K:=K) (m3.new hc2 cz) (by rw[Qag];show _+1≤65;omega) (s _ _ h41) ⟨a1,a2,a3,a4⟩ hpp (ZbF.cut hps hpp hr hr2 k0 k1 _ (by rw[if_pos e])) (s _ _ h51) ho hoo k
 ·have e:¬0<sk:=fun z=>e (QaK z);exact Zgc (K:=K) m1 (by omega) h41 ⟨a1,a2,a3,a4⟩ hpp (ZbF.cut hps hpp hr hr2 k0 k1 _ (by rw[if_neg e])) h51 ho hoo k
theorem CpL.atW {ys:List V}(h:CpL H ys (ps.map pV))(hi:i<ps.length):∃(q:Addr),ys[i]?=some (.ref q)∧H q=some (.tup (pV ps[i])):=by
 have il:i<ys.length:=by rw[h.1,Qac];exact hi
 obtain⟨q,e,hq⟩:=h.2 i ys[i] (pV ps[i]) (Qab il) (by rw[Qam,Qab hi];rfl);exact⟨q,by rw[Qab il,e],hq⟩
theorem Zlh (m:MdI H0 H d c yc ps)(lr:ps.length≤64)(ne:ps≠ [])(hps:∀p∈ps,PrW n p)(n2:n≤200)
  (k:∀(c:Addr) (yc:List V) (qs:List PR) (H':Hp),H' c=some (.lst yc)→CpL H' yc (qs.map pV)→ZbF n ps qs→qs.length≤70→Zay H' d→Zbw d H0 H'→Q (.ref c) H'):ZrZ K {nx:=Z,rt:=Q } [some (.ref d),some (.ref pa),some (.ref c),none,none,none,none,none] H:=by
 have ll:=m.len;have l0:=Qdf.mpr ne;refine⟨_,rfl,_,rfl,c,yc,rfl,.inl (SqL.of m.hc),d,_,rfl,m.P,by omega,Qbw (show((yc.length:Nat):Int)≤64 by omega) (by decide),fun sp H1 s0 s1 P1 B1=> ?_⟩;have m1:=m.but B1 P1;have se:sp=((sp.toNat:Nat):Int):=by omega
 have sl:sp.toNat<ps.length:=by omega
 generalize sp.toNat=i at se sl;subst se;obtain⟨q4,e4,h4⟩:=m1.cp.atW sl;refine⟨_,rfl,_,rfl,c,yc,_,_,rfl,rfl,SqL.of m1.hc,ZaZ e4,?_⟩;refine⟨_,rfl,_,rfl,_,rfl,c,yc,rfl,.inl (SqL.of m1.hc),d,_,rfl,m1.P,by omega,Qbw (show((yc.length:Nat):Int)≤64 by omega) (by decide),fun sp2 H2 s02 s12 P2 B2=> ?_⟩;have m2:=m1.but B2 P2;have se2:sp2=((sp2.toNat:Nat):Int):=by omega
 have sl2:sp2.toNat<ps.length:=by omega
 generalize sp2.toNat=j at se2 sl2;subst se2;have h42:=(B2.tups m1.P) _ _ h4;obtain⟨q5,e5,h5⟩:=m2.cp.atW sl2;refine⟨c,yc,_,_,rfl,rfl,SqL.of m2.hc,ZaZ e5,?_⟩;refine⟨_,rfl,_,rfl,_,_,rfl,rfl,((i+1:Nat):Int),rfl,c,yc,rfl,SqL.of m2.hc,fun l1 hl1=> ?_⟩;rw[ZjG (by omega)];have s3:=Zam.nw (o:=.lst (yc.drop (i+1))) (Zam.refl H2) hl1;have f3:(upd H2 l1 (.lst (yc.drop (i+1)))) l1=some (.lst (yc.drop (i+1))):=Zab;generalize upd H2 l1 (.lst (yc.drop (i+1)))=H3 at s3 f3⊢;have m3:=m2.up s3;refine⟨_,rfl,_,rfl,((i:Nat):Int),rfl,c,yc,rfl,SqL.of m3.hc,fun l2 hl2=> ?_⟩;rw[ZjF (by omega)];have s4:=Zam.nw (o:=.lst (yc.take i)) (Zam.refl H3) hl2;have f4:(upd H3 l2 (.lst (yc.take i))) l2=some (.lst (yc.take i)):=Zab;generalize upd H3 l2 (.lst (yc.take i))=H4 at s4 f4⊢;have m4:=m3.up s4;refine⟨l1,l2,_,_,rfl,rfl,s4 _ _ f3,f4,QaE (show _≤1000 by rw[Qbp,QaR];omega) (by decide),fun c2 hc2=> ?_⟩;have cz:CpL H4 (yc.drop (i+1)++yc.take i) ((ps.drop (i+1)++ps.take i).map pV):=by rw[QaG,Qfz,List.map_take];exact CpL.append (m4.cp.drop _) (m4.cp.take _)
 have s5:=Zam.nw (o:=.lst (yc.drop (i+1)++yc.take i)) (Zam.refl H4) hc2;have s:=(s3.trans s4).trans s5;refine Zlg (K:=K) (m4.new hc2 cz) (by rw[Qag,Qbp,QaR];omega) (s _ _ h42) hps n2 (QbG sl) (fun q hq=> ?_) (fun q hq=> ?_) (s _ _ h5) (QbG sl2) k
 ·rcases Qaq.mp hq with z|z
  ·exact Qco z
  ·exact Qbx z
 ·rw[←QaX i ps] at hq;rcases Qaq.mp hq with z|z
  ·exact .inl (Qah _ z)
  ·rw[QcC sl] at z;rcases Qaz.mp z with z|z
   ·exact .inr z
   ·exact .inl (Qat _ z)
theorem Zil (xs:List PyData):PyData.eqv (.list xs) (.list [])=decide (xs=[]):=by
 cases xs<;>rfl
theorem Zhm {ya:List V}(P:Zay H d)(pd:pa≠d)(ha:H pa=some (.lst ya))(cp:CpL H ya (ps.map pV))(hps:∀p∈ps,PrW n p)(n2:n≤200)(lr:ps.length≤64)
  (k:∀(c:Addr) (yc:List V) (qs:List PR) (H':Hp),H' c=some (.lst yc)→CpL H' yc (qs.map pV)→ZbF n ps qs→qs.length≤70→Zay H' d→Zbw d H H'→Q (.ref c) H'):Zqy K {nx:=Z,rt:=Q } [some (.ref d),some (.ref pa),none,none,none,none,none,none] H:=by
 refine⟨_,rfl,pa,ya,rfl,.inl (SqL.of ha),fun c hc=> ?_⟩;have m:MdI H (upd H c (.lst ya)) d c ya ps:=⟨P.new hc,(Zbw.refl d H).new hc,Zab,hc,P.ne hc,cp.up (Zam.nw (Zam.refl H) hc).tups⟩;generalize upd H c (.lst ya)=H1 at m⊢;refine⟨_,rfl,(by show 0≤sizeLine;decide),fun l hl=> ?_⟩;have s2:=Zam.nw (o:=.lst []) (Zam.refl H1) hl;have f2:(upd H1 l (.lst [])) l=some (.lst []):=Zab;generalize upd H1 l (.lst [])=H2 at s2 f2⊢;have m2:=m.up s2
 have d1:DI K H2 (.ref c) (.list ((ps.map pV).map dCp)):=m2.cp.di (SqL.of m2.hc) fun vs hv=>by
  obtain⟨p,_,rfl⟩:=QaS.mp hv;exact ZoG p
 have d2:DI K H2 (.ref l) (.list []):=.lst (SqL.of f2) rfl fun i x d h=>by cases h
 refine⟨_,_,d1,d2,Zia _,rfl,(by show PyData.depthAll _+1≤60;have:=Zib (ps.map pV);omega),_,rfl,?_⟩;rw[Zil];refine Zfv (fun e=> ?_) (fun e=> ?_)
 ·have e:ps=[]:=by
   have:=QaQ e;exact List.map_eq_nil_iff.mp (List.map_eq_nil_iff.mp this)
  subst e;exact⟨_,rfl,k c ya [] _ m2.hc m2.cp ⟨fun q hq=>(by cases hq),fun q hq=>(by cases hq),fun q hq=>(by cases hq)⟩ (QaU _) m2.P m2.B⟩
 ·exact Zlh (K:=K) m2 lr (fun z=>e (by rw[z];rfl)) hps n2 k
end
end
section
variable {K:PySem.W.Frag}
theorem Zgd {b:Addr}(ha:H a=some (.tup (u.map V.int)))(hb:H b=some (.tup (v.map V.int)))(el:u.length=v.length)(l24:u.length≤24)(k:∀(c:Addr) (H':Hp),Zam H H'→H' c=some (.tup ((zpl u v).map V.int))→Q (.ref c) H'):Zqt K {nx:=Z,rt:=Q } [some (.ref a),some (.ref b)] H:=by
 refine⟨_,rfl,_,rfl,a,b,rfl,⟨_,SqT.of ha⟩,⟨_,SqT.of hb⟩,ZpQ (K:=K) (a:=a) (b:=b) (xs:=u.map V.int) (ys:=v.map V.int) (n:=u.length) (fun i zs H'=>zs=((zpl u v).take i).map V.int∧Zam H H') ⟨rfl,Zam.refl H⟩ (by rw[Qac,Qac];omega) (by omega) (fun i zs H' h=>by rw[h.1,Qac,QaR];exact QcI _ _) (fun i zs H' _ h=>⟨SqT.of (h.2 _ _ ha),SqT.of (h.2 _ _ hb)⟩) ?_ ?_⟩
 ·rintro i x y zs H1 pre p qh hx hy ⟨rfl,s1⟩ hp;rw[Qam] at hx hy
  cases ex:u[i]? with
  |none=>rw[ex] at hx;cases hx
  |some xi=>
   cases ey:v[i]? with
   |none=>rw[ey] at hy;cases hy
   |some yi=>
    rw[ex] at hx;rw[ey] at hy;cases hx;cases hy;rcases pre with _|⟨q0,_|⟨q1,_|⟨q2,pre⟩⟩⟩
    ·cases qh
    ·cases qh
    ·refine⟨p,_,rfl,SqT.of Zab,rfl,_,_,rfl,_,_,rfl,rfl,⟨[some _,some _],rfl,rfl⟩,?_⟩;unfold Zc1;dsimp only;rw[if_pos (rfl:true=true)];refine⟨_,rfl,_,rfl,_,_,rfl,rfl,?_,s1.nw hp⟩;have ez:(zpl u v)[i]?=some (xi+yi):=by unfold zpl;rw[Qfl,ex,ey]
     rw[Zaq ez,QaG];rfl
    ·cases qh
 ·rintro zs H1 ⟨rfl,s1⟩ D hD;rw[QaL (by rw[Zd8 el];exact Qak _)];refine⟨D,_,rfl,.inl ⟨SqL.of Zab,fun l hl=> ?_⟩⟩;exact k l _ ((s1.nw hD).nw hl) Zab
theorem Zr9 (x:V)(xs:List V):ZhJ (x::xs) (some 1) none=xs:=by
 have:=Zmw (x::xs) (k:=1) (by simp);exact this
theorem Zli {p:Addr}{ps:List V}{W:List (List Int)}(hr:H r=some (.lst (h.map nv)))(hp:H p=some (.lst ps))(tp:TuL H ps W)(ok:Zjc wd W)(hne:h≠ [])(hm:∀m∈h,m<W.length)(k:∀(c:Addr) (H':Hp),Zam H H'→H' c=some (.tup ((Zgp W h).map V.int))→Q (.ref c) H'):Zqu K {nx:=Z,rt:=Q } [some (.ref r),some (.ref p),none,none] H:=by
 cases h with
 |nil=>exact absurd rfl hne
 |cons x t=>
  have at':∀{H':Hp},Zam H H'→∀m,m<W.length→∃a:Addr,ps[m]?=some (.ref a)∧H' a=some (.tup ((W.getD m []).map V.int)):=fun{H'} s m ml=>by
   have e:W[m]?=some (W.getD m []):=by rw[QaA,Qab ml];rfl
   obtain⟨a,h1,h2⟩:=(tp.up s.tups).get e;exact⟨a,h2,h1⟩
  have hx:=hm x Qai;obtain⟨a0,e0,h0⟩:=at' (Zam.refl H) x hx;refine⟨_,rfl,_,rfl,r,_,0,nv x,rfl,rfl,SqL.of hr,ZaZ (j:=0) rfl,p,ps,(x:Int),.ref a0,rfl,rfl,SqL.of hp,ZaZ e0,?_⟩;refine⟨_,rfl,1,rfl,r,_,rfl,SqL.of hr,fun q hq=> ?_⟩;rw[QaV,Zr9];have s1:=Zam.nw (o:=.lst (t.map nv)) (Zam.refl H) hq;have fq:(upd H q (.lst (t.map nv))) q=some (.lst (t.map nv)):=Zab;generalize upd H q (.lst (t.map nv))=H1 at s1 fq⊢;refine⟨q,rfl,⟨_,SqL.of fq⟩,Zbi (K:=K) (a:=q) (xs:=t.map nv) (fun i σ H'=>∃(x3:Option V) (c:Addr),σ=[some (.ref r),some (.ref p),some (.ref c),x3]∧Zam H H'∧H' q=some (.lst (t.map nv))∧H' c=some (.tup (((t.take i).foldl (Zek W) (W.getD x [])).map V.int))) ⟨_,a0,rfl,s1,fq,s1 _ _ h0⟩ (fun i σ H' _ h=>by obtain⟨_,_,_,_,h',_⟩:=h;exact SqL.of h') ?_ ?_⟩
  ·rintro i y σ H2 hy ⟨x3,c,rfl,s2,fq2,hc2⟩;rw[Qam] at hy
   cases em:t[i]? with
   |none=>rw[em] at hy;cases hy
   |some m=>
    rw[em] at hy;cases hy;have ml:=hm m (Qao _ (Qap em));obtain⟨am,e1,h1⟩:=at' s2 m ml;have l1:((t.take i).foldl (Zek W) (W.getD x [])).length=wd:=Zfk ok (Zcy ok hx) fun z hz=>hm z (Qao _ (Qbx hz));have l2:=Zcy ok ml;have w24:=ok.1;refine⟨_,rfl,_,rfl,_,rfl,p,ps,(m:Int),.ref am,rfl,rfl,SqL.of (s2 _ _ hp),ZaZ e1,c,am,_,_,rfl,hc2,h1,by rw[l1,l2],by omega,fun c' H3 s3 hc3=> ?_⟩;refine⟨_,c',rfl,s2.trans s3,s3 _ _ fq2,?_⟩;rw[Zaq em,Qc1];exact hc3
  ·rintro σ H2 ⟨x3,c,rfl,s2,fq2,hc2⟩;rw[Qac,Qa6] at hc2;exact⟨_,rfl,k c H2 s2 hc2⟩
theorem Zhn {xs:List V}(ha:H a=some (.lst xs))(g:Wg H xs W)(wl:W.length≤900)(k:∀(l:Addr) (ps:List V) (ws:List (List Int×Int)) (H':Hp),H l=none→H' l=some (.lst ps)→PrL H' ps ws→SrO ws (dkF W)→Zam H H'→Q (.ref l) H'):ZmK K {nx:=Z,rt:=Q } [some (.ref a),none,none,none] H:=by
 refine fun d fd0=> ?_;have s1:=Zam.nw (o:=.dT []) (Zam.refl H) fd0;have hd1:(upd H d (.dT [])) d=some (.dT (([]:List (List Int×Int)).map emb)):=Zab;generalize upd H d (.dT [])=H1 at s1 hd1⊢;refine⟨_,rfl,a,rfl,⟨_,SqL.of (s1 _ _ ha)⟩,Zbi (K:=K) (a:=a) (xs:=xs) (fun i σ H'=>∃(x2 x3:Option V),σ=[some (.ref a),some (.ref d),x2,x3]∧H' d=some (.dT ((dkF (W.take i)).map emb))∧Zam H H') ⟨_,_,rfl,hd1,s1⟩ (fun i σ H' _ h=>by obtain⟨_,_,_,_,z⟩:=h;exact SqL.of (z _ _ ha)) ?_ ?_⟩
 ·rintro i x σ H2 hx ⟨x2,x3,rfl,hd2,s2⟩;obtain⟨e,he,q,wq,rfl,hq,hw⟩:=(g.up s2.tups).at' hx;have hw':H2 wq=some (.tup ((e.2.map Sum.inl).map kV)):=by rw[QbV];exact hw
  have kl:(dkF (W.take i)).length≤1000:=by have:=(Zdk (W.take i)).len;rw[QaR] at this;omega
  refine⟨q,_,rfl,SqT.of hq,rfl,_,_,rfl,_,_,rfl,rfl,?_⟩;refine⟨_,rfl,d,rfl,.inr ⟨_,.inl hd2⟩,_,rfl,_,Zi9.t (k:=e.2.map Sum.inl) hd2 hw',_,rfl,Zdn (dkF (W.take i)) e.2,e.1,ZoB (dkF (W.take i)) e.2,rfl,_,rfl,_,rfl,d,_,rfl,Zni.t (k:=e.2.map Sum.inl) hd2 hw' (QaN (by rw[Qac];exact kl:((dkF (W.take i)).map emb).length≤1000) (by decide)),?_⟩;refine⟨_,_,rfl,?_,Zam.ow s2 fd0⟩;rw[Zab,Zfl he];exact congrArg (fun z=>some (HO.dT z)) (ZoA (dkF (W.take i)) e.2 (Zdn (dkF (W.take i)) e.2+e.1))
 ·rintro σ H2 ⟨x2,x3,rfl,hd2,s2⟩;rw[QaL (by rw[g.1];exact Qak _)] at hd2;have kl:=(Zdk W).len;refine⟨_,rfl,d,_,rfl,hd2,fun v hv=>⟨v,d,dkF W,rfl,Zab,?_,by omega,fun l ps ws H' f1 old h2 pr pm sr=> ?_⟩⟩
  ·rw[Zak (Zah hd2 hv)];exact hd2
  ·have s3:=Zam.nw (o:=.ext (ZiU v d)) s2 hv;exact k l ps ws H' (s3.free f1) h2 pr ⟨pm,sr⟩ (s3.trans fun b o q=>old b o q)
theorem TuL.rep {H:Hp}{a:Addr}{u:List Int}(h:H a=some (.tup (u.map V.int))):∀n:Nat,TuL H (List.replicate n (.ref a)) (List.replicate n u)
 |0=>TuL.nil _
 |n+1=>by
  rw[Qb9,Qb9];exact TuL.snoc (TuL.rep h n) h
theorem TuL.app {xs ys:List V}{us:List (List Int)}(h:TuL H xs us)(k:TuL H ys vs):TuL H (xs++ys) (us++vs):=((TuL.it h).append (TuL.it k)).tu
theorem Zfm (pos:∀e∈L,0≤e.1)(i:Nat):0≤tot (L.take i)∧tot (L.take i)≤tot L:=by
 have nn:∀{M:WL2},(∀e∈M,0≤e.1)→0≤tot M:=by
  intro M
  induction M with
  |nil=>intro _;exact Qb8 _
  |cons e M ih=>
   intro h;rw[ZaW]
   have:=ih fun x hx=>h x (Qao _ hx)
   have:=h e Qai;omega
 have e:tot L=tot (L.take i)+tot (L.drop i):=by rw[←Zbo,QaX]
 have a1:=nn (M:=L.take i) fun x hx=>pos x (Qbx hx);have a2:=nn (M:=L.drop i) fun x hx=>pos x (Qco hx);omega
theorem ZmL {ya yb:List V}(x:Za1 H a pa pb (n:Int) ps L ya yb)(ok:ZqZ n ps L)(k:SwK H n ps L Q):Zrx K {nx:=Z,rt:=Q } [some (.ref a),none,none,none,none] H:=by
 obtain⟨rm,n9,⟨wd,pok⟩,pos,tt,ll⟩:=ok;refine⟨_,rfl,a,pa,pb,n,ps,L,ya,yb,rfl,x,rm,fun c zs hs b' H1 s1 cf hc lz lk fr=> ?_⟩;have lens:=Zhc lk;refine⟨(by show 0≤sizeLine;decide),fun p hp=> ?_⟩;have s2:=Zam.nw (o:=.lst []) (Zam.refl H1) hp;have fp:(upd H1 p (.lst [])) p=some (.lst []):=Zab;generalize upd H1 p (.lst [])=H2 at s2 fp⊢;have x2:=(x.up s1).up s2;have p1:H1 p=none:=hp;refine⟨_,rfl,a,_,_,_,rfl,rfl,SqT.of x2.h,rfl,pb,rfl,⟨_,SqL.of x2.hb⟩,Zbi (K:=K) (a:=pb) (xs:=yb) (fun i σ H'=>∃(x3 x4:Option V) (qs:List V),σ=[some (.ref a),some (.ref c),some (.ref p),x3,x4]∧Zam H1 H'∧H' p=some (.lst qs)∧TuL H' qs (wpl (L.take i))) ⟨_,_,[],rfl,s2,fp,TuL.nil _⟩ (fun i σ H' _ h=>by obtain⟨_,_,_,_,s',_⟩:=h;exact SqL.of (s' _ _ ((x.up s1).hb))) ?_ ?_⟩
 ·rintro i y σ H3 hy ⟨x3,x4,qs,rfl,s3,hp3,t3⟩;obtain⟨e,he,q,w,rfl,hq,hw⟩:=((x.up s1).wb.up s3.tups).at' hy;have me:=Qap he
  have ql:(qs.length:Int)≤n:=by
   rw[t3.1,Zd9 fun z hz=>pos z (Qbx hz)]
   have:=(Zfm pos i).2;omega
  have el:e.1≤(n:Int):=by
   have h1:=ZeS he;have h2:=(Zfm pos i).1;have h3:=(Zfm pos (i+1)).2;omega
  have e0:=pos e me;refine⟨q,_,rfl,SqT.of hq,rfl,_,_,rfl,_,_,rfl,rfl,?_⟩;refine⟨_,rfl,.inl ⟨rfl,_,SqL.of hp3⟩,_,rfl,(by show 1≤sizeLine;decide),fun l hl=> ?_⟩;have s4:=Zam.nw (o:=.lst [.ref w]) (Zam.refl H3) hl;have fl:(upd H3 l (.lst [.ref w])) l=some (.lst [.ref w]):=Zab;generalize upd H3 l (.lst [.ref w])=H4 at s4 fl⊢;refine⟨_,rfl,l,e.1,[.ref w],rfl,rfl,fl,by omega,by omega,QaE (show [V.ref w].length*e.1.toNat≤1000 by simp;omega) (by decide),fun m hm=> ?_⟩;rw[Zg1];have s5:=Zam.nw (o:=.lst (List.replicate e.1.toNat (.ref w))) (Zam.refl H4) hm;have fm:(upd H4 m (.lst (List.replicate e.1.toNat (.ref w)))) m=some (.lst (List.replicate e.1.toNat (.ref w))):=Zab;generalize upd H4 m (.lst (List.replicate e.1.toNat (.ref w)))=H5 at s5 fm⊢;have s35:=s4.trans s5;have hp5:=s35 _ _ hp3;refine⟨p,m,qs,_,rfl,rfl,hp5,fm,QaE (show qs.length+(List.replicate e.1.toNat (V.ref w)).length≤2000 by rw[Qax];omega) (by decide),?_⟩;refine⟨_,_,qs++List.replicate e.1.toNat (.ref w),rfl,(s3.trans s35).ow p1,Zab,?_⟩;rw[Zaq he,ZmH];exact TuL.up (TuL.app (t3.up s35.tups) (TuL.rep (s35 _ _ hw) _)) (Za8.lst (Za8.refl H5) hp5)
 ·rintro σ H3 ⟨x3,x4,qs,rfl,s3,hp3,t3⟩;rw[show yb.length=L.length from x.wb.1,Qa6] at t3;have wl:(wpl L).length=n:=by have:=Zd9 pos;omega
  have lz3:=lz.up s3;have zl:zs.length=hs.length:=by rw[lz.1,Qac]
  refine⟨_,rfl,c,rfl,⟨_,SqL.of (s3 _ _ hc)⟩,Zd2 (K:=K) (a:=c) (xs:=zs) (fun i ys H'=>Wg H' ys (rws L (hs.take i))∧Zam H3 H') ⟨Wg.nil _,Zam.refl H3⟩ (by omega) (fun i ys H' h=>by rw[h.1.1];unfold rws;rw[Qac,QaR];exact QcI _ _) (fun i ys H' _ h=>SqL.of (h.2 _ _ (s3 _ _ hc))) ?_ ?_⟩
  ·rintro i y ys H4 pre qh hy ⟨w4,s4⟩;have il:i<hs.length:=by rw[←zl];exact(Qaf.mp hy).1
   have eh:hs[i]?=some hs[i]:=Qab il;obtain⟨r,xs,rfl,hr,it⟩:=(lz3.up s4).2 i y (hs[i].map nc) hy (by rw[Qam,eh];rfl);have xe:=ZkM it;subst xe;have mh:hs[i]∈hs:=QbG il;generalize hs[i]=h at eh hr it mh;rcases pre with _|⟨q0,_|⟨q1,pre⟩⟩
   ·cases qh
   ·refine⟨⟨[some _],rfl,rfl⟩,?_⟩;unfold Zc1;dsimp only;rw[if_pos (rfl:true=true)];refine⟨_,rfl,_,rfl,r,p,h,qs,wpl L,wd,rfl,hr,s4 _ _ hp3,t3.up s4.tups,pok,lk.pt.ne h mh,fun m hm=>by rw[wl];exact lk.lt m (Qbt.mpr ⟨h,mh,hm⟩),fun w H5 s5 hw=>⟨(by show 2≤sizeLine;decide),fun q hq=> ?_⟩⟩;have s6:=Zam.nw (o:=.tup [.int 1,.ref w]) (Zam.refl H5) hq;refine⟨?_,s4.trans (s5.trans s6)⟩;have e2:rws L (hs.take (i+1))=rws L (hs.take i)++ [(1,Zgp (wpl L) h)]:=by unfold rws;rw[Zaq eh,QaG];rfl
    rw[e2];exact Wg.snoc (w4.up (s5.trans s6).tups) ⟨q,w,rfl,Zab,s6 _ _ hw⟩
   ·cases qh
  ·rintro ys H4 ⟨w4,s4⟩ D hD;rw[zl,Qa6] at w4;have s5:=Zam.nw (o:=.lst ys) (Zam.refl H4) hD;have l9:(rws L hs).length≤900:=by unfold rws;rw[Qac];omega
   refine⟨D,ys,rws L hs,rfl,Zab,w4.up s5.tups,l9,fun l zs2 ws H' f1 h2 pr so s6=> ?_⟩;have st:=s1.trans (s3.trans (s4.trans s5));exact k l zs2 ws hs b' H' (st.trans s6) (st.free f1) h2 pr lk so
end
section
variable {K:PySem.W.Frag}
open Toy (co ZeE Zdb ZbY)
theorem Zho {ys:List V}(h:PrL H ys S)(t:Za8 H H'):PrL H' ys S:=⟨h.1,fun i y e h1 h2=>by
 obtain⟨q,w,e1,e2,e3⟩:=h.2 i y e h1 h2
 exact⟨q,w,e1,t _ _ e2,t _ _ e3⟩⟩
theorem Zea {σ:L2.St}(hj:σ[j]?=some (some (nv wd)))(w1:1≤wd)(w2:wd≤24)(k:∀(c:Addr) (H1:Hp),Zam H H1→H1 c=some (.tup ((List.replicate wd (0:Int)).map V.int))→Q (.ref c) H1):tOp (ZhQ K) (ZlC (Zaf (tC (V.int 0)) ZaB)) (Zan j) σ H Q:=by
 refine⟨(by show 1≤sizeLine;decide),fun z hz=> ?_⟩;have s1:=Zam.nw (o:=.tup [.int 0]) (Zam.refl H) hz;have f1:(upd H z (.tup [.int 0])) z=some (.tup [.int 0]):=Zab;refine⟨_,hj,z,(wd:Int),.int 0,rfl,rfl,SqT.of f1,by omega,by omega,fun e=> ?_,fun e p hp=> ?_⟩
 ·refine k z _ s1 ?_;rw[show wd=1 by omega];exact f1
 ·refine k p _ (s1.nw hp) ?_;rw[Zab,Qei,QbA]
theorem Zlj (u:List Int)(m:Int)(i:Nat):co (u.map (m* ·)) i=m*co u i:=by
 unfold co;rw[QaA,QaA,Qam]
 cases u[i]? with
 |none=>show(0:Int)=m*0;rw[Int.mul_zero]
 |some z=>rfl
theorem ZnU (i:Nat)(h:u.length=v.length):co (zpl u v) i=co u i+co v i:=by unfold zpl;exact Zdb i h
theorem Zo7 {k:List Int×Int}(h:ws[j]?=some k):kF f (ws.take (j+1))=kF f (ws.take j)+k.2*f k.1:=by
 rw[Zaq h];unfold kF;rw[QaG,QcZ];simp
theorem Zi1 {c0:Addr}{ps:List V}(hl:H l=some (.lst ps))(pr:PrL H ps ws)(w2:wd≤24)(wid:∀k∈ws,k.1.length=wd)(few:∀k∈ws,k.2.natAbs<2^9000∧Zq0 k.1)(h0:H c0=some (.tup ((List.replicate wd (0:Int)).map V.int)))
  (k:∀(c:Addr) (u:List Int) (H':Hp),Zam H H'→H' c=some (.tup (u.map V.int))→u.length=wd→(∀i,co u i=kF (fun u=>co u i) ws)→Q (.ref c) H'):Zqz K {nx:=Z,rt:=Q } [some (.ref l),some (nv wd),some (.ref c0),none,none] H:=by
 refine⟨_,rfl,l,rfl,⟨_,SqL.of hl⟩,Zbi (K:=K) (a:=l) (xs:=ps) (fun j σ H'=>∃(x3 x4:Option V) (c:Addr) (u:List Int),σ=[some (.ref l),some (nv wd),some (.ref c),x3,x4]∧Zam H H'∧H' c=some (.tup (u.map V.int))∧u.length=wd∧∀i,co u i=kF (fun u=>co u i) (ws.take j)) ⟨_,_,c0,List.replicate wd 0,rfl,Zam.refl H,h0,Qax,fun i=>by rw[ZbY];rfl⟩ (fun j σ H' _ h=>by obtain⟨_,_,_,_,_,s',_⟩:=h;exact SqL.of (s' _ _ hl)) ?_ ?_⟩
 ·rintro j y σ H1 hy ⟨x3,x4,c,u,rfl,s1,hc,ul,cu⟩;have jl:j<ws.length:=by rw[←pr.1];exact(Qaf.mp hy).1
  have ek:ws[j]?=some ws[j]:=Qab jl;obtain⟨a,b,rfl,ha,hb⟩:=pr.2 j y ws[j] hy ek;have mk:ws[j]∈ws:=QbG jl;generalize ws[j]=kk at ek ha hb mk;have ha1:=s1 _ _ ha;have hb1:=s1 _ _ hb;have kw:=wid kk mk;obtain⟨f1,f2⟩:=few kk mk;refine⟨a,_,rfl,SqT.of ha1,rfl,_,_,rfl,_,_,rfl,rfl,?_⟩;refine⟨_,rfl,_,rfl,b,rfl,⟨_,SqT.of hb1⟩,Zrc (K:=K) (a:=b) (xs:=kk.1.map V.int) (fun i zs H'=>zs=((kk.1.map (kk.2* ·)).take i).map V.int∧H1=H') ⟨rfl,rfl⟩ (by rw[Qac];omega) (fun i zs H' h=>by rw[h.1,Qac,QaR];exact QcI _ _) (fun i zs H' _ h=>by rw[←h.2];exact SqT.of hb1) ?_ ?_⟩
  ·rintro i x zs H' pre qh hx ⟨rfl,rfl⟩;rw[Qam] at hx
   cases zz:kk.1[i]? with
   |none=>rw[zz] at hx;cases hx
   |some m=>
    rw[zz] at hx;cases hx;rcases pre with _|⟨p0,_|⟨p1,pre⟩⟩
    ·cases qh
    ·refine⟨⟨[some _],rfl,rfl⟩,?_⟩;unfold Zc1;dsimp only;rw[if_pos (rfl:true=true)];refine⟨_,rfl,_,rfl,_,_,rfl,rfl,⟨f1,f2 m (Qap zz)⟩,?_,rfl⟩;have ez:(kk.1.map (kk.2* ·))[i]?=some (kk.2*m):=by rw[Qam,zz];rfl
     rw[Zaq ez,QaG];rfl
    ·cases qh
  ·rintro zs H' ⟨rfl,rfl⟩ D hD;have et:(kk.1.map (kk.2* ·)).take (kk.1.map V.int).length=kk.1.map (kk.2* ·):=QaL (by rw[Qac,Qac];exact Qak _);rw[et];have s2:=Zam.nw (o:=.lst ((kk.1.map (kk.2* ·)).map V.int)) (Zam.refl H1) hD;refine⟨D,_,rfl,.inl ⟨SqL.of Zab,fun l2 hl2=> ?_⟩⟩;have s3:=s2.nw (o:=.tup ((kk.1.map (kk.2* ·)).map V.int)) hl2;refine⟨c,l2,u,kk.1.map (kk.2* ·),rfl,s3 _ _ hc,Zab,by rw[Qac,ul,kw],by omega,fun r H4 s4 hr=> ?_⟩;refine⟨_,_,r,zpl u (kk.1.map (kk.2* ·)),rfl,s1.trans (s3.trans s4),hr,?_,fun i=> ?_⟩
   ·rw[Zd8 (by rw[Qac,ul,kw])];exact ul
   ·rw[ZnU _ (by rw[Qac,ul,kw]),cu i,Zlj,Zo7 ek]
 ·rintro σ H1 ⟨x3,x4,c,u,rfl,s1,hc,ul,cu⟩;rw[pr.1,Qa6] at cu;exact⟨_,rfl,k c u H1 s1 hc ul cu⟩
theorem Zi2 {ps:List V}(hl:H l=some (.lst ps))(pr:PrL H ps ws)(w1:1≤wd)(w2:wd≤24)(wid:∀k∈ws,k.1.length=wd)(few:∀k∈ws,k.2.natAbs<2^9000∧Zq0 k.1)
  (k:∀(c:Addr) (u:List Int) (H':Hp),Zam H H'→H' c=some (.tup (u.map V.int))→u.length=wd→(∀i,co u i=kF (fun u=>co u i) ws)→Q (.ref c) H'):Zsg K {nx:=Z,rt:=Q } [some (.ref l),some (nv wd),none,none,none] H:=by
 refine Zea (K:=K) (wd:=wd) rfl w1 w2 fun c H1 s1 hc=> ?_;exact Zi1 (K:=K) (s1 _ _ hl) (Zho pr s1.tups) w2 wid few hc fun c' u H2 s2 h2 ul cu=>k c' u H2 (s1.trans s2) h2 ul cu
theorem ZmM {a b l:Int}{t:Bool}{x y:Int}(h:y∈Zqw a b l t x):LkE a b l t x y:=by
 unfold Zqw at h;rcases Qaq.mp h with h|h
 ·by_cases e:a≤x∧x<a+l
  ·rw[if_pos e] at h;exact .inl ⟨e.1,e.2,Qaj.mp h⟩
  ·rw[if_neg e] at h;cases h
 ·by_cases e:b≤x∧x<b+l
  ·rw[if_pos e] at h;exact .inr ⟨e.1,e.2,Qaj.mp h⟩
  ·rw[if_neg e] at h;cases h
theorem ZmN (a b l:Int)(t:Bool)(x:Int):(Zqw a b l t x).length≤2:=by
 unfold Zqw;rw[Qag];by_cases e1:a≤x∧x<a+l
 ·rw[if_pos e1];by_cases e2:b≤x∧x<b+l
  ·rw[if_pos e2];simp
  ·rw[if_neg e2];simp
 ·rw[if_neg e1];by_cases e2:b≤x∧x<b+l
  ·rw[if_pos e2];simp
  ·rw[if_neg e2];simp
theorem Zo8 (h:List Nat):(h.map nv).all ZeN=true:=by
 rw[QfH];exact QeQ.mpr fun _ _=>rfl
theorem ZqD (hm:m∈h):inV (.int (m:Int)) (h.map nv)=true:=by
 unfold inV;rw[List.any_map];exact List.any_eq_true.mpr ⟨m,hm,beq_self_eq_true _⟩
theorem Zlk {D:Zi6}{ya yb:List V}{x2 x3 x5:Option V}(ha:Za1 H a pa pb (n:Int) ps L ya yb)(hr:H r=some (.lst (h.map nv)))(mate:∀p∈ps,∀y:Int,LkP p (x:Int) y→∃m∈h,y=(m:Int))
  (k:∀(y:Option V) H',Zam H H'→D.nx [some (.ref a),some (.ref r),x2,x3,some (nv x),y] H'):Zr0 K D [some (.ref a),some (.ref r),x2,x3,some (nv x),x5] H:=by
 refine⟨_,rfl,a,_,_,_,rfl,rfl,SqT.of ha.h,rfl,pa,rfl,⟨_,SqL.of ha.ha⟩,Zbi (K:=K) (a:=pa) (xs:=ya) (fun j σ H'=>∃y:Option V,σ=[some (.ref a),some (.ref r),x2,x3,some (nv x),y]∧Zam H H') ⟨_,rfl,Zam.refl H⟩ (fun j σ H' _ h=>by obtain⟨_,_,s'⟩:=h;exact SqL.of (s' _ _ ha.ha)) ?_ ?_⟩
 ·rintro j y σ H1 hy ⟨y5,rfl,s1⟩
  have jl:j<ps.length:=by
   have:=(Qaf.mp hy).1;rw[ha.ca.1,Qac] at this;exact this
  obtain⟨q,rfl,hq⟩:=ha.ca.2 j y (pV ps[j]) hy (by rw[Qam,Qab jl];rfl);have mp:ps[j]∈ps:=QbG jl;generalize ps[j]=p at hq mp;have hq1:=s1 _ _ hq;refine⟨_,rfl,_,rfl,q,p.1,p.2.1,p.2.2.1,p.2.2.2,(x:Int),rfl,hq1,fun g ms H2 fg hg pm so s2=> ?_⟩
  have ml:ms.length≤2:=by
   rw[pm.length_eq];exact QaE (ZcS _) (ZmN _ _ _ _ _)
  have hr2:=s2 _ _ (s1 _ _ hr);refine⟨g,rfl,⟨_,SqL.of hg⟩,Zd2 (K:=K) (a:=g) (xs:=ms.map V.int) (fun i ys H'=>ys=(List.replicate i true).map V.bl∧H2=H') ⟨rfl,rfl⟩ (by rw[Qac];omega) (fun i ys H' h=>by rw[h.1,Qac,Qax];exact Qak _) (fun i ys H' _ h=>by rw[←h.2];exact SqL.of hg) ?_ ?_⟩
  ·rintro i z ys H3 pre qh hz ⟨rfl,rfl⟩;rcases pre with _|⟨q0,_|⟨q1,pre⟩⟩
   ·cases qh
   ·refine⟨⟨[some _],rfl,rfl⟩,?_⟩;unfold Zc1;dsimp only;rw[if_pos (rfl:true=true)];rw[Qam] at hz
    cases em:ms[i]? with
    |none=>rw[em] at hz;cases hz
    |some z=>
     rw[em] at hz;cases hz;obtain⟨m,hm,rfl⟩:=mate p mp z (ZmM ((Zng _ _).mp (pm.mem_iff.mp (Qap em))));refine⟨_,rfl,_,rfl,r,_,rfl,.inl (SqL.of hr2),rfl,Zo8 h,?_,rfl⟩;rw[if_neg (by decide),ZqD hm,Qb9,QaG];rfl
   ·cases qh
  ·rintro ys H3 ⟨rfl,rfl⟩ E hE;refine⟨E,List.replicate (ms.map V.int).length true,rfl,SqL.of Zab,_,rfl,?_⟩;rw[show(List.replicate (ms.map V.int).length true).all id=true by simp];exact Zgm ⟨_,rfl,(s1.trans s2).nw hE⟩
 ·rintro σ H1 ⟨y5,rfl,s1⟩;exact k _ H1 s1
theorem Zhp {ya yb:List V}(ha:Za1 H a pa pb (n:Int) ps L ya yb)(hr:H r=some (.lst (h.map nv)))(ok:RgW n ps L h wd)
  (k:∀(c:Addr) (H':Hp),Zam H H'→H' c=some (.tup ((Zgp (wpl L) h).map V.int))→Q (.ref c) H'):ZqA K {nx:=Z,rt:=Q } [some (.ref a),some (.ref r),some (nv wd),none,none,none] H:=by
 have wl:(wpl L).length=n:=by have:=Zd9 (L:=L) fun e he=>Qcq (ok.pos e he);have:=ok.sum;omega
 have w24:=ok.pl.1;refine Zea (K:=K) (wd:=wd) rfl ok.w1 w24 fun c0 H1 s1 hc0=> ?_;have ha1:=ha.up s1;have hr1:=s1 _ _ hr;refine⟨_,rfl,r,rfl,⟨_,SqL.of hr1⟩,Zbi (K:=K) (a:=r) (xs:=h.map nv) (fun j σ H'=>∃(x4 x5:Option V) (c:Addr) (u:List Int),σ=[some (.ref a),some (.ref r),some (nv wd),some (.ref c),x4,x5]∧Zam H1 H'∧H' c=some (.tup (u.map V.int))∧u.length=wd∧∀i,co u i=rco (wpl L) i (h.take j)) ⟨_,_,c0,List.replicate wd 0,rfl,Zam.refl H1,hc0,Qax,fun i=>by rw[ZbY];rfl⟩ (fun j σ H' _ h=>by obtain⟨_,_,_,_,_,s',_⟩:=h;exact SqL.of (s' _ _ hr1)) ?_ ?_⟩
 ·rintro j y σ H2 hy ⟨x4,x5,c,u,rfl,s2,hc,ul,cu⟩;rw[Qam] at hy
  cases em:h[j]? with
  |none=>rw[em] at hy;cases hy
  |some x=>
   rw[em] at hy;cases hy;have mx:=Qap em;refine Zlk (K:=K) (ha1.up s2) (s2 _ _ hr1) (fun p hp y hy=>ok.mate p hp x mx y hy) fun y5 H3 s3=> ?_;have ha3:=(ha1.up s2).up s3;have hc3:=s3 _ _ hc;obtain⟨jj,e,g1,g2,g3,g4⟩:=ZnT (L:=L) (m:=x) ok.pos (by rw[ok.sum];have:=ok.lt x mx;omega);obtain⟨xx,hxx,q,wq,rfl,hq,hwq⟩:=ha3.wb.get g1;have el:e.2.length=wd:=by rw[←g4];exact Zcy ok.pl (by rw[wl];exact ok.lt x mx)
   refine⟨_,rfl,_,rfl,a,_,_,_,rfl,rfl,SqT.of ha3.h,rfl,_,rfl,pb,yb,L,(x:Int),jj,e,q,wq,rfl,SqL.of ha3.hb,ha3.wb,⟨g1,g2,g3,ok.pos⟩,hxx,hq,?_⟩;refine⟨c,wq,u,e.2,rfl,hc3,hwq,by rw[ul,el],by omega,fun c' H4 s4 hc'=> ?_⟩;refine⟨_,_,c',zpl u e.2,rfl,s2.trans (s3.trans s4),hc',by rw[Zd8 (by rw[ul,el])];exact ul,fun i=> ?_⟩;rw[ZnU _ (by rw[ul,el]),cu i,Zaq em];unfold rco;rw[QaG,QcZ,←g4];simp
 ·rintro σ H2 ⟨x4,x5,c,u,rfl,s2,hc,ul,cu⟩
  have eu:u=Zgp (wpl L) h:=by
   have key:=fun i=>Zhe ok.pl (h:=h) (fun m hm=>by rw[wl];exact ok.lt m hm) ok.ne i;refine ZeE (by rw[ul,(key 0).2]) fun i=> ?_;rw[cu i,(key i).1,Qac,Qa6]
  subst eu;exact⟨_,rfl,k c H2 (s1.trans s2) hc⟩
end
section
variable {K:PySem.W.Frag}
theorem Zll (kvs:List (Key×V))(k:Key)(v:V):(Zet kvs k v).length≤kvs.length+1:=by
 unfold Zet;split
 ·rw[Qac];omega
 ·rw[Qag];exact Qak _
theorem ZnV (j:Int):∀m:Nat,dd (List.replicate (m+1) j)=[j]
 |0=>rfl
 |m+1=>by
  rw[Qb9,ZgD,ZnV j m];unfold ZbA;rw[if_pos (Qaj.mpr rfl)]
def HmI (hs:List (List Nat))(i m:Nat)(kvs:List (Key×V)):Prop:=(∀j,j<i→∀h,hs[j]?=some h→∀x∈h,Zdm kvs (.inl (x:Int))=some (.int (j:Int)))∧∀h,hs[i]?=some h→∀x∈h.take m,Zdm kvs (.inl (x:Int))=some (.int (i:Int))
theorem HmI.put {kvs:List (Key×V)}(I:HmI hs i m kvs)(nd:hs.flatten.Nodup)(hh:hs[i]?=some h)(hx:h[m]?=some x):HmI hs i (m+1) (Zet kvs (.inl (x:Int)) (.int (i:Int))):=by
 have pw:=(List.pairwise_flatten.mp nd).2;refine⟨fun j hj g hg y hy=> ?_,fun g hg y hy=> ?_⟩
 ·rw[ZhU]
  have ne:y≠x:=by
   obtain⟨jl,ej⟩:=Qaf.mp hg;obtain⟨il,ei⟩:=Qaf.mp hh
   have:=Qbb.mp pw j i jl il hj;rw[ej,ei] at this;exact this y hy x (Qap hx)
  rw[if_neg fun z=>ne (by have:=Qfs z;omega)];exact I.1 j hj g hg y hy
 ·rw[hh] at hg;cases hg;rw[ZhU];by_cases c:y=x
  ·rw[if_pos (by rw[c])]
  ·rw[if_neg fun z=>c (by have:=Qfs z;omega)];rw[Zaq hx] at hy;rcases Qaq.mp hy with z|z
   ·exact I.2 _ hh y z
   ·exact absurd (Qaj.mp z) c
theorem HmI.next {kvs:List (Key×V)}(I:HmI hs i m kvs)(hh:hs[i]?=some h)(hm:h.length≤m):HmI hs (i+1) 0 kvs:=by
 refine⟨fun j hj g hg y hy=> ?_,fun g hg y hy=>by rw[Qcr] at hy;cases hy⟩;by_cases c:j<i
 ·exact I.1 j c g hg y hy
 ·have e:j=i:=by omega
  subst e;rw[hh] at hg;cases hg;exact I.2 _ hh y (by rw[QaL hm];exact hy)
theorem Zge (e:hs[i]?=some h):(hs.take (i+1)).flatten.length=(hs.take i).flatten.length+h.length:=by
 rw[Zaq e,Qde,Qag];simp
theorem Zdl (hs:List (List Nat))(i:Nat):(hs.take i).flatten.length≤hs.flatten.length:=by
 have:hs.flatten=(hs.take i).flatten++(hs.drop i).flatten:=by rw[←Qde,QaX]
 rw[this,Qag];omega
theorem ZmO {zs:List V}{y:V}(l:LsL H false zs (hs.map (List.map nc)))(hy:zs[i]?=some y):∃(h:List Nat) (b:Addr),hs[i]?=some h∧y= .ref b∧H b=some (.lst (h.map nv)):=by
 have il:i<hs.length:=by
  have:=(Qaf.mp hy).1;rw[l.1,Qac] at this;exact this
 have eh:hs[i]?=some hs[i]:=Qab il;obtain⟨b,xs,e,hb,it⟩:=l.2 i y (hs[i].map nc) hy (by rw[Qam,eh];rfl)
 have:=ZkM it;subst this;exact⟨_,b,eh,e,hb⟩
section
variable {f:Addr}{xf xr:List V}{gs:List (List Nat)}
theorem Zlm {x3 x4 x5:Option V}{kvs:List (Key×V)}(hf:H f=some (.lst xf))(lf:LsL H false xf (gs.map (List.map nc)))(he:H e=some (.dK kvs))(ok:ZrA gs hs)(I:∀(j:Nat) (h:List Nat),hs[j]?=some h→∀x∈h,Zdm kvs (.inl (x:Int))=some (.int (j:Int)))
  (k:∀H',Zam H H'→Q (.bl true) H'):Zr1 K {nx:=Z,rt:=Q } [some (.ref f),some (.ref r),some (.ref e),x3,x4,x5] H:=by
 have xl:xf.length=gs.length:=by rw[lf.1,Qac]
 have lg:=ok.lg;refine⟨_,rfl,f,rfl,⟨_,SqL.of hf⟩,Zd2 (K:=K) (a:=f) (xs:=xf) (fun i ys H'=>ys=(List.replicate i true).map V.bl∧Zam H H') ⟨rfl,Zam.refl H⟩ (by omega) (fun i ys H' h=>by rw[h.1,Qac,Qax];exact Qak _) (fun i ys H' _ h=>SqL.of (h.2 _ _ hf)) ?_ ?_⟩
 ·rintro i y ys H1 pre qh hy ⟨rfl,s1⟩;obtain⟨g,b,eg,rfl,hb⟩:=ZmO (lf.up s1) hy;have mg:=Qap eg;obtain⟨h,mh,sub⟩:=ok.sub g mg;obtain⟨j,ej⟩:=Qay.mp mh;have lg2:=ok.lg2 g mg;have gl:0<g.length:=Qdf.mpr (ok.ne g mg);have he1:=s1 _ _ he;rcases pre with _|⟨q0,_|⟨q1,pre⟩⟩
  ·cases qh
  ·refine⟨⟨[some _],rfl,rfl⟩,?_⟩;unfold Zc1;dsimp only;rw[if_pos (rfl:true=true)];refine⟨_,rfl,b,rfl,⟨_,SqL.of hb⟩,Zd2 (K:=K) (a:=b) (xs:=g.map nv) (fun m zs H'=>zs=(List.replicate m (j:Int)).map V.int∧H1=H') ⟨rfl,rfl⟩ (by rw[Qac];omega) (fun m zs H' h=>by rw[h.1,Qac,Qax];exact Qak _) (fun m zs H' _ h=>by rw[←h.2];exact SqL.of hb) ?_ ?_⟩
   ·rintro m z zs H2 pre qh hz ⟨rfl,rfl⟩;rw[Qam] at hz
    cases em:g[m]? with
    |none=>rw[em] at hz;cases hz
    |some x=>
     rw[em] at hz;cases hz;have hv:=I j h ej x (sub x (Qap em))
     have dg:Zi9 H1 e (.int (x:Int)) (some (.int (j:Int))):=by
      have:=Zi9.k (k:=.inl (x:Int)) he1;rw[hv] at this;exact this
     rcases pre with _|⟨q0,_|⟨q1,pre⟩⟩
     ·cases qh
     ·refine⟨⟨[some _],rfl,rfl⟩,?_⟩;dsimp only;rw[if_pos (rfl:true=true)];refine⟨_,rfl,_,rfl,e,_,rfl,dg,?_,rfl⟩;rw[Qb9,QaG];rfl
     ·cases qh
   ·rintro zs H2 ⟨rfl,rfl⟩ E hE;refine⟨E,_,rfl,SqL.of Zab,by rw[Qax,Qac];omega,rfl,?_,s1.nw hE⟩
    have e1:(dd (List.replicate (g.map nv).length (j:Int))).length=1:=by
     rw[Qac,show g.length=(g.length-1)+1 by omega,ZnV];rfl
    rw[e1,Qb9,QaG];rfl
  ·cases qh
 ·rintro ys H1 ⟨rfl,s1⟩ E hE;refine⟨E,List.replicate xf.length true,rfl,SqL.of Zab,?_⟩;rw[show(List.replicate xf.length true).all id=true by simp];exact k _ (s1.nw hE)
theorem Zhq (hf:H f=some (.lst xf))(lf:LsL H false xf (gs.map (List.map nc)))(hr:H r=some (.lst xr))(lr:LsL H false xr (hs.map (List.map nc)))(ok:ZrA gs hs)(k:∀H',Zam H H'→Q (.bl true) H'):ZqB K {nx:=Z,rt:=Q } [some (.ref f),some (.ref r),none,none,none,none] H:=by
 have xl:xr.length=hs.length:=by rw[lr.1,Qac]
 have lfl:=ok.lf;intro e fe;have s1:=Zam.nw (o:=.dK []) (Zam.refl H) fe;have he:(upd H e (.dK [])) e=some (.dK []):=Zab;generalize upd H e (.dK [])=H1 at s1 he⊢;refine⟨_,rfl,r,rfl,⟨_,SqL.of (s1 _ _ hr)⟩,Zl7 (K:=K) (a:=r) (xs:=xr) (fun i σ H'=>∃(x3 x4 x5:Option V) (kvs:List (Key×V)),σ=[some (.ref f),some (.ref r),some (.ref e),x3,x4,x5]∧Zam H H'∧H' e=some (.dK kvs)∧kvs.length≤(hs.take i).flatten.length∧HmI hs i 0 kvs) ⟨_,_,_,[],rfl,s1,he,QaU _,fun j hj=>absurd hj (Qff j),fun h _ x hx=>by rw[Qcr] at hx;cases hx⟩ (fun i σ H' _ h=>by obtain⟨_,_,_,_,_,s',_⟩:=h;exact SqL.of (s' _ _ hr)) ?_ ?_⟩
 ·rintro i y σ H2 p hy ⟨x3,x4,x5,kvs,rfl,s2,he2,kl,I⟩ hp;obtain⟨h,b,eh,rfl,hb⟩:=ZmO (lr.up s2) hy;have s3:=Zam.nw (o:=.tup [.int (i:Int),.ref b]) (Zam.refl H2) hp;have fp:(upd H2 p (.tup [.int (i:Int),.ref b])) p=some (.tup [.int (i:Int),.ref b]):=Zab;generalize upd H2 p (.tup [.int (i:Int),.ref b])=H3 at s3 fp⊢;refine⟨p,_,rfl,SqT.of fp,rfl,_,_,rfl,_,_,rfl,rfl,?_⟩;have ft:=Zge eh;have fl:=Zdl hs (i+1);have hb3:=s3 _ _ hb;refine⟨_,rfl,b,rfl,⟨_,SqL.of hb3⟩,Zbi (K:=K) (a:=b) (xs:=h.map nv) (fun m σ H'=>∃(x5:Option V) (kvs:List (Key×V)),σ=[some (.ref f),some (.ref r),some (.ref e),some (.int (i:Int)),some (.ref b),x5]∧Zam H H'∧H' b=some (.lst (h.map nv))∧H' e=some (.dK kvs)∧kvs.length≤(hs.take i).flatten.length+m∧HmI hs i m kvs) ⟨_,kvs,rfl,s2.trans s3,hb3,s3 _ _ he2,by omega,I⟩ (fun m σ H' _ h=>by obtain⟨_,_,_,_,h',_⟩:=h;exact SqL.of h') ?_ ?_⟩
  ·rintro m z σ H4 hz ⟨y5,kvs4,rfl,s4,hb4,he4,kl4,I4⟩;rw[Qam] at hz
   cases em:h[m]? with
   |none=>rw[em] at hz;cases hz
   |some x=>
    rw[em] at hz;cases hz;have ml:m<h.length:=(Qaf.mp em).1;refine⟨_,rfl,_,rfl,_,rfl,e,_,rfl,Zni.k (k:=.inl (x:Int)) he4 (QaN (show _≤1000 by omega) (by decide)),?_⟩;refine⟨_,Zet kvs4 (.inl (x:Int)) (.int (i:Int)),rfl,s4.ow fe,?_,Zab,QaE (Zll _ _ _) (by omega),I4.put ok.nd eh em⟩;rw[Zak (by rintro rfl;rw[he4] at hb4;cases hb4)];exact hb4
  ·rintro σ H4 ⟨y5,kvs4,rfl,s4,hb4,he4,kl4,I4⟩;exact⟨_,_,_,kvs4,rfl,s4,he4,by rw[ft];rw[Qac] at kl4;exact kl4,I4.next eh (by rw[Qac];exact Qak _)⟩
 ·rintro σ H2 ⟨x3,x4,x5,kvs,rfl,s2,he2,kl,I⟩;refine Zlm (K:=K) (s2 _ _ hf) (lf.up s2) he2 ok (fun j h ej x hx=>I.1 j ?_ h ej x hx) fun H' s'=>k H' (s2.trans s');rw[xl];exact(Qaf.mp ej).1
end
end
section
variable {K:PySem.W.Frag}
theorem PrL.diT {p:Addr}{ys:List V}(h:PrL H ys S)(hp:SqL K H p ys):DI K H (.ref p) (Zpi S):=SrL.di (show SrL H ys S from h) hp
theorem Zfn (S:List (List Int×Int)):(Zpi S).canLay0=true:=Zic S
theorem ZmP (S:List (List Int×Int)):(Zpi S).depth≤60:=by
 have key:∀S:List (List Int×Int),PyData.depthAll (S.map fun e=> .tuple [dT e.1,.int e.2])≤2:=by
  intro S
  induction S with
  |nil=>exact QaU _
  |cons e S ih=>
   show max (max (dT e.1).depth (max 0 0)+1) (PyData.depthAll (S.map fun e=> .tuple [dT e.1,.int e.2]))≤2;rw[Zeq];omega
 show PyData.depthAll (S.map fun e=> .tuple [dT e.1,.int e.2])+1≤60
 have:=key S;omega
theorem ZmQ (S:List (List Int×Int)):PyData.eqv (Zpi S) (Zpi S)=true:=Qer _ (Zfn S)
theorem Zln (w:HlW n ps L):ZqZ n ps L:=by
 obtain⟨wd,w1,w2,f⟩:=w.fit;have n2:=w.n2
 exact⟨⟨by omega,w.ok,w.len,QaE (Qen w.len w.n2) (by decide)⟩,by omega,⟨wd.toNat,by omega,fun u hu=>by
  obtain⟨e,he,rfl⟩:=Zhd hu
  exact f.nrm.wid e he⟩,fun e he=>by have:=f.nrm.pos e he;omega,f.sum,by have:=f.len;omega⟩
end
section
variable {K:PySem.W.Frag}
open Toy (co ZeE Zdb ZbY)
theorem Zim:∀{W:WL2},(∀e∈W,0≤e.1)→∀u,0≤ZkI W u∧ZkI W u≤tot W
 | [],_,u=>⟨Qb8 _,Qb8 _⟩
 |e::W,h,u=>by
  have ih:=Zim (W:=W) (fun x hx=>h x (Qao _ hx)) u;have e0:=h e Qai;rw[ZaW];unfold ZkI at ih⊢;rw[List.filter_cons];split
  ·rw[QaV,QbT];omega
  ·omega
theorem Zin (h: -(10^100)<z∧z<10^100):z.natAbs<2^9000:=by
 have h1:z.natAbs<10^100:=by omega
 exact QcW h1 (by decide)
theorem Zgf {B:Int}{X:WL2}(pos:∀e∈X,0≤e.1)(wid:∀e∈X,e.2.length=n)(num:∀e∈X,∀z∈e.2,-B≤z∧z≤B)(hB:B<10^100)(tX:tot X<10^100)(so:SrO ws (dkF X)):(∀k∈ws,k.1.length=n)∧∀k∈ws,k.2.natAbs<2^9000∧Zq0 k.1:=by
 have D:=Zdk X
 have key:∀k∈ws,∃e∈X,e.2=k.1:=fun k hk=>by
  have:=(D.mem k.1).mp (QaS.mpr ⟨k,so.1.mem_iff.mp hk,rfl⟩);obtain⟨e,he,q⟩:=QaS.mp this;exact⟨e,he,q⟩
 refine⟨fun k hk=> ?_,fun k hk=>⟨?_,?_⟩⟩
 ·obtain⟨e,he,q⟩:=key k hk;rw[←q];exact wid e he
 ·rw[D.val k (so.1.mem_iff.mp hk)]
  have:=Zim pos k.1;exact Zin (by omega)
 ·obtain⟨e,he,q⟩:=key k hk;intro z hz;rw[←q] at hz
  have:=num e he z hz;exact Zin (by omega)
theorem Zi3 (xs:List V)(n:Nat):ZhJ xs none (some ((n:Nat):Int))=xs.take n:=by
 unfold ZhJ;have e1:HT.sIx xs.length xs.length (some ((n:Nat):Int))=min n xs.length:=HT.sIx_nat _ _ n;rw[e1];show(xs.drop 0).take (min n xs.length-0)=_;rw[QcO,Nat.sub_zero];by_cases h:n≤xs.length
 ·rw[Qdn h]
 ·rw[Nat.min_eq_right (by omega),QaL (Qak _),QaL (by omega)]
theorem Zhr (xs:List V):ZhJ xs (some 1) none=xs.drop 1:=by
 cases xs with
 |nil=>rfl
 |cons x xs=>rw[Zr9];rfl
theorem Zio {K:PySem.W.Frag}{ms:List Int}(ha:SqL K H a (ms.map V.int)):DI K H (.ref a) (.list (ms.map .int)):=by
 refine .lst ha (by rw[Qac,Qac]) fun i x d h1 h2=> ?_;rw[Qam] at h1 h2
 cases e:ms[i]? with
 |none=>rw[e] at h1;cases h1
 |some m=>
  rw[e] at h1 h2;cases h1;cases h2;exact .int m
theorem Zhs {a:List Int}(p:a.Perm b)(h:a.Pairwise (· ≤ ·))(k:b.Pairwise (· ≤ ·)):a=b:=
 Zd1 (lt:=fun x y=>decide (x<y)) (fun{x y} h1 h2=>by have:=Qa5 h1;have:=Qa5 h2;omega) a b p (h.imp fun z=>QaC (by omega)) (k.imp fun z=>QaC (by omega))
structure GdI (H:Hp)(a pa pb c s:Addr)(n:Nat)(ps:List PR)(L:WL2)(ya yb zs vs:List V)(hs:List (List Nat))(ws:List (List Int×Int)):Prop where
 x:Za1 H a pa pb (n:Int) ps L ya yb
 hc:H c=some (.lst zs)
 lz:LsL H false zs (hs.map (List.map nc))
 h7:H s=some (.lst vs)
 pr:PrL H vs ws
structure GdS (n:Nat)(ps:List PR)(L:WL2)(hs:List (List Nat))(ws:List (List Int×Int))(wd:Nat):Prop where
 w:HlW n ps L
 w1:1≤wd
 pl:Zjc wd (wpl L)
 lk:∃b,LkI n (Zcx (psL ps)) n b hs
 so:SrO ws (dkF (rws L hs))
section
variable {ya yb zs vs:List V}
theorem GdI.up (g:GdI H a pa pb c s n ps L ya yb zs vs hs ws)(t:Zam H H'):GdI H' a pa pb c s n ps L ya yb zs vs hs ws:=⟨g.x.up t,t _ _ g.hc,g.lz.up t,t _ _ g.h7,Zho g.pr t.tups⟩
theorem GdI.zl (g:GdI H a pa pb c s n ps L ya yb zs vs hs ws):zs.length=hs.length:=by rw[g.lz.1,Qac]
theorem GdS.pos (g:GdS n ps L hs ws wd):∀e∈L,0<e.1:=fun e he=>by
 obtain⟨w',_,_,f⟩:=g.w.fit
 have:=f.nrm.pos e he;omega
theorem GdS.sum (g:GdS n ps L hs ws wd):tot L=(n:Int):=by
 obtain⟨w',_,_,f⟩:=g.w.fit;exact f.sum
theorem GdS.wl (g:GdS n ps L hs ws wd):(wpl L).length=n:=by
 have:=Zd9 (L:=L) fun e he=>Qcq (g.pos e he)
 have:=g.sum;omega
theorem GdS.lens (g:GdS n ps L hs ws wd):hs.length≤200∧(∀h∈hs,h.length≤200)∧hs.flatten.length≤200:=by
 obtain⟨b,lk⟩:=g.lk;have l:=Zhc lk;have n2:=g.w.n2;refine⟨by omega,fun h hh=>QaE (l.2 h hh) n2,?_⟩;rw[lk.parts.perm.length_eq,QbB];exact n2
theorem GdS.lt (g:GdS n ps L hs ws wd):∀h∈hs,∀m∈h,m<n:=fun h hh m hm=>by
 obtain⟨b,lk⟩:=g.lk;exact lk.lt m (Qbt.mpr ⟨h,hh,hm⟩)
theorem GdS.ne (g:GdS n ps L hs ws wd):∀h∈hs,h≠ []:=by
 obtain⟨b,lk⟩:=g.lk;exact lk.pt.ne
theorem GdS.rl (g:GdS n ps L hs ws wd):∀h∈hs,∀i,co (Zgp (wpl L) h) i=rco (wpl L) i h∧(Zgp (wpl L) h).length=wd:=fun h hh i=>Zhe g.pl (fun m hm=>by rw[g.wl];exact g.lt h hh m hm) (g.ne h hh) i
theorem GdS.num (g:GdS n ps L hs ws wd):∀e∈L,∀z∈e.2,-(10^62)≤z∧z≤10^62:=fun e he z hz=>by
 obtain⟨w',_,_,f⟩:=g.w.fit
 have:=f.num e he z hz;omega
theorem GdS.numW (g:GdS n ps L hs ws wd):∀e∈rws L hs,∀z∈e.2,-(10^65)≤z∧z≤10^65:=fun e he z hz=>by
 obtain⟨h,hh,rfl⟩:=QaS.mp he;obtain⟨i,hi⟩:=Qay.mp hz;have e1:z=co (Zgp (wpl L) h) i:=by unfold co;rw[QaA,hi];rfl
 have b:=Zga (W:=wpl L) (B:=10^62) (by decide) (fun u hu z hz=>by
  obtain⟨e,he,rfl⟩:=Zhd hu
  exact g.num e he z hz) i h
 have hl:=g.lens.2.1 h hh;rw[e1,(g.rl h hh i).1]
 have:((h.length:Nat):Int)*10^62≤200*10^62:=QdG (by omega) (by decide);omega
theorem GdS.widL (g:GdS n ps L hs ws wd):∀e∈L,e.2.length=wd:=fun e he=>by
 refine g.pl.2 e.2 ?_
 have:=g.pos e he;refine Qbt.mpr ⟨_,QaS.mpr ⟨e,he,rfl⟩,List.mem_replicate.mpr ⟨by omega,rfl⟩⟩
theorem Zo9 (L:WL2)(hs:List (List Nat)):tot (rws L hs)=(hs.length:Int):=by
 unfold rws
 induction hs with
 |nil=>rfl
 |cons h hs ih=>rw[QaV,ZaW,ih,QaM];show 1+(hs.length:Int)=_;omega
end
end
section
variable {K:PySem.W.Frag}
open Toy (co ZeE Zdb ZbY)
section
variable {ya yb zs vs:List V}{x8 x9 x10 x11:Option V}
theorem Zlo (g:GdI H a pa pb c s n ps L ya yb zs vs hs ws)(G:GdS n ps L hs ws wd)(k:∀H',Zam H H'→Q (.bl true) H'):Zr2 K {nx:=Z,rt:=Q } [some (.ref d),some (.ref a),some (nv wd),some (.int (n:Int)),some (.ref pa),some (.ref pb),some (.ref c),some (.ref s),x8,x9,x10,x11] H:=by
 have n2:=G.w.n2;refine⟨_,rfl,_,rfl,1,rfl,pa,ya,rfl,SqL.of g.x.ha,fun l hl=> ?_⟩;rw[Zhr];have s1:=Zam.nw (o:=.lst (ya.drop 1)) (Zam.refl H) hl;have f1:(upd H l (.lst (ya.drop 1))) l=some (.lst (ya.drop 1)):=Zab;generalize upd H l (.lst (ya.drop 1))=H1 at s1 f1⊢;refine⟨_,rfl,(by show 3≤sizeLine;decide),fun t ht=> ?_⟩;have s2:=Zam.nw (o:=.tup [.int (n:Int),.ref l,.ref pb]) (Zam.refl H1) ht;have f2:(upd H1 t (.tup [.int (n:Int),.ref l,.ref pb])) t=some (.tup [.int (n:Int),.ref l,.ref pb]):=Zab;generalize upd H1 t (.tup [.int (n:Int),.ref l,.ref pb])=H2 at s2 f2⊢;have g2:=(g.up s1).up s2;have hx:Za1 H2 t l pb (n:Int) (ps.drop 1) L (ya.drop 1) yb:=⟨f2,s2 _ _ f1,by rw[Qfz];exact g2.x.ca.drop 1,g2.x.hb,g2.x.wb⟩;have sub:∀q∈ps.drop 1,q∈ps:=fun q hq=>Qco hq;have ll:(ps.drop 1).length≤64:=by have:=G.w.len;rw[Qbp];omega
 have ok:Zqq n (ps.drop 1):=⟨by omega,fun p hp=>G.w.ok p (sub p hp),ll,QaE (Qen ll n2) (by decide)⟩;refine⟨t,l,pb,n,ps.drop 1,L,ya.drop 1,yb,rfl,hx,ok,fun f zf gs b' H3 s3 ff hf lf lkf fr=> ?_⟩;have g3:=g2.up s3;obtain⟨b,lk⟩:=G.lk;have lens:=G.lens;have lg:=Zhc lkf;refine⟨_,rfl,f,c,zf,zs,gs,hs,rfl,hf,lf,g3.hc,g3.lz,⟨lkf.pt.ne,ZmD G.w.ok sub lk lkf,lk.nd,lens.2.2,by omega,fun r hr=>QaE (lg.2 r hr) n2⟩,fun H4 s4=> ?_⟩;exact k H4 ((s1.trans s2).trans (s3.trans s4))
theorem ZmR (us:List (List Int)):((us.map dT).any fun d=>PyData.eqv d .none)=false:=by
 rw[List.any_map]
 exact List.any_eq_false.mpr fun u _=>by
  show ¬PyData.eqv (dT u) .none=true;show ¬(false=true)
  decide
theorem Zlp {es:List V}(g:GdI H a pa pb c s n ps L ya yb zs vs hs ws)(G:GdS n ps L hs ws wd)(he:H e=some (.lst es))(te:TuL H es (hs.map (Zgp (wpl L))))(k:∀H',Zam H H'→Q (.bl true) H'):Zr3 K {nx:=Z,rt:=Q } [some (.ref d),some (.ref a),some (nv wd),some (.int (n:Int)),some (.ref pa),some (.ref pb),some (.ref c),some (.ref s),x8,x9,x10,some (.ref e)] H:=by
 have lens:=G.lens;have d1:=te.di (K:=K) (SqL.of he);refine⟨_,rfl,.none,(hs.map (Zgp (wpl L))).map dT,d1,.non,ZgX _,rfl,?_,_,rfl,ZnR (ZmR _) ?_⟩
 ·have:∀us:List (List Int),PyData.depthAll (us.map dT)≤1:=by
   intro us
   induction us with
   |nil=>exact QaU _
   |cons u us ih=>show max (dT u).depth _≤1;rw[Zeq];omega
  exact QaE (this _) (by decide)
 refine⟨_,rfl,e,es,_,rfl,SqL.of he,te,by rw[Qac];omega,fun u hu=> ?_,fun q ys us hq tu pm so=> ?_⟩
 ·obtain⟨h,hh,rfl⟩:=QaS.mp hu;intro z
  have:=(G.rl h hh 0).2;rw[z] at this
  have:=G.w1;simp at*;omega
 have eu:us=ws.map (·.1):=by
  refine Zhf G.so ?_ so;unfold rws;rw[QbV];exact pm
 have s1:=Zam.nw (o:=.lst ys) (Zam.refl H) hq;have f1:(upd H q (.lst ys)) q=some (.lst ys):=Zab;have tu1:=tu.up s1.tups;generalize upd H q (.lst ys)=H1 at s1 f1 tu1⊢;have g1:=g.up s1
 have wl:ws.length≤200:=by
  rw[G.so.1.length_eq]
  have:=(Zdk (rws L hs)).len;unfold rws at this;rw[Qac] at this;unfold rws;omega
 have vl:vs.length=ws.length:=g.pr.1;refine⟨_,rfl,s,rfl,⟨_,SqL.of g1.h7⟩,Zd2 (K:=K) (a:=s) (xs:=vs) (fun i zs H'=>TuL H1 zs ((ws.take i).map (·.1))∧H1=H') ⟨TuL.nil _,rfl⟩ (by omega) (fun i zs H' h=>by rw[h.1.1,Qac,QaR];exact QcI _ _) (fun i zs H' _ h=>by rw[←h.2];exact SqL.of g1.h7) ?_ ?_⟩
 ·rintro i y zs H2 pre qh hy ⟨t2,rfl⟩;have il:i<ws.length:=by rw[←vl];exact(Qaf.mp hy).1
  have ek:ws[i]?=some ws[i]:=Qab il;obtain⟨qa,qb,rfl,ha,hb⟩:=g1.pr.2 i y ws[i] hy ek;generalize ws[i]=kk at ek ha hb;rcases pre with _|⟨q0,_|⟨q1,pre⟩⟩
  ·cases qh
  ·refine⟨⟨[some _],rfl,rfl⟩,?_⟩;unfold Zc1;dsimp only;rw[if_pos (rfl:true=true)];refine⟨_,rfl,qa,_,_,_,rfl,rfl,SqT.of ha,rfl,?_,rfl⟩;rw[Zaq ek,QaG];exact t2.snoc hb
  ·cases qh
 ·rintro zs H2 ⟨t2,rfl⟩ E hE;rw[vl,Qa6] at t2;have s2:=Zam.nw (o:=.lst zs) (Zam.refl H1) hE;have f2:(upd H1 E (.lst zs)) E=some (.lst zs):=Zab;have t3:=t2.up s2.tups;have tu3:=tu1.up s2.tups;generalize upd H1 E (.lst zs)=H3 at s2 f2 t3 tu3⊢;refine⟨_,_,tu3.di (SqL.of (s2 _ _ f1)),t3.di (SqL.of f2),ZgX _,ZgX _,Zow _,_,rfl,ZnR (by rw[Zox,eu];simp) ?_⟩;exact Zlo (K:=K) (g1.up s2) G fun H' s'=>k H' ((s1.trans s2).trans s')
theorem Zlq (g:GdI H a pa pb c s n ps L ya yb zs vs hs ws)(G:GdS n ps L hs ws wd)(k:∀H',Zam H H'→Q (.bl true) H'):Zr4 K {nx:=Z,rt:=Q } [some (.ref d),some (.ref a),some (nv wd),some (.int (n:Int)),some (.ref pa),some (.ref pb),some (.ref c),some (.ref s),x8,x9,x10,none] H:=by
 have lens:=G.lens;have zl:=g.zl;obtain⟨b,lk⟩:=G.lk;refine⟨_,rfl,c,rfl,⟨_,SqL.of g.hc⟩,Zd2 (K:=K) (a:=c) (xs:=zs) (fun i ys H'=>TuL H' ys ((hs.take i).map (Zgp (wpl L)))∧Zam H H') ⟨TuL.nil _,Zam.refl H⟩ (by omega) (fun i ys H' h=>by rw[h.1.1,Qac,QaR];exact QcI _ _) (fun i ys H' _ h=>SqL.of (h.2 _ _ g.hc)) ?_ ?_⟩
 ·rintro i y ys H1 pre qh hy ⟨t1,s1⟩;have g1:=g.up s1;obtain⟨h,r,eh,rfl,hr⟩:=ZmO g1.lz hy;have mh:=Qap eh;rcases pre with _|⟨q0,_|⟨q1,pre⟩⟩
  ·cases qh
  ·refine⟨⟨[some _],rfl,rfl⟩,?_⟩;unfold Zc1;dsimp only;rw[if_pos (rfl:true=true)];refine⟨_,rfl,_,rfl,_,rfl,a,r,pa,pb,n,ps,L,ya,yb,h,wd,rfl,g1.x,hr,⟨G.ne h mh,G.lt h mh,fun p hp x hx y hy=>ZoX G.w.ok lk mh hp hx hy,G.w1,G.pl,G.pos,G.sum⟩,fun c' H2 s2 hc'=>⟨?_,s1.trans s2⟩⟩;rw[Zaq eh,QaG];exact(t1.up s2.tups).snoc hc'
  ·cases qh
 ·rintro ys H1 ⟨t1,s1⟩ E hE;rw[zl,Qa6] at t1;have s2:=Zam.nw (o:=.lst ys) (Zam.refl H1) hE;exact Zlp (K:=K) ((g.up s1).up s2) G Zab (t1.up s2.tups) fun H' s'=>k H' ((s1.trans s2).trans s')
theorem Zlr (g:GdI H a pa pb c s n ps L ya yb zs vs hs ws)(G:GdS n ps L hs ws wd)(k:∀H',Zam H H'→Q (.bl true) H'):Zr5 K {nx:=Z,rt:=Q } [some (.ref d),some (.ref a),some (nv wd),some (.int (n:Int)),some (.ref pa),some (.ref pb),some (.ref c),some (.ref s),x8,none,none,none] H:=by
 have lens:=G.lens;have n2:=G.w.n2;have zl:=g.zl;obtain⟨b,lk⟩:=G.lk;refine⟨(by show 0≤sizeLine;decide),fun e0 he0=> ?_⟩;have s1:=Zam.nw (o:=.lst []) (Zam.refl H) he0;have f1:(upd H e0 (.lst [])) e0=some (.lst []):=Zab;generalize upd H e0 (.lst [])=H1 at s1 f1⊢;refine⟨_,rfl,c,rfl,⟨_,SqL.of (s1 _ _ g.hc)⟩,Zbi (K:=K) (a:=c) (xs:=zs) (fun i σ H'=>∃(e:Addr) (x10:Option V),σ=[some (.ref d),some (.ref a),some (nv wd),some (.int (n:Int)),some (.ref pa),some (.ref pb),some (.ref c),some (.ref s),x8,some (.ref e),x10,none]∧Zam H H'∧H' e=some (.lst ((hs.take i).flatten.map nv))) ⟨e0,_,rfl,s1,f1⟩ (fun i σ H' _ h=>by obtain⟨_,_,_,s',_⟩:=h;exact SqL.of (s' _ _ g.hc)) ?_ ?_⟩
 ·rintro i y σ H2 hy ⟨e,y10,rfl,s2,he⟩;obtain⟨h,r,eh,rfl,hr⟩:=ZmO (g.up s2).lz hy;have ft:=Zge eh;have fl:=Zdl hs (i+1);refine⟨_,rfl,_,rfl,e,r,_,_,rfl,rfl,he,hr,QaE (show _≤1000 by rw[Qac,Qac];omega) (by decide),fun e2 he2=> ?_⟩;refine⟨e2,_,rfl,s2.nw he2,?_⟩;rw[Zab,Zaq eh,Qde,QaG];simp
 ·rintro σ H2 ⟨e,y10,rfl,s2,he⟩;rw[zl,Qa6] at he;have ei:hs.flatten.map nv=(hs.flatten.map fun m:Nat=>(m:Int)).map V.int:=by rw[QbV];rfl
  rw[ei] at he;refine⟨_,rfl,e,_,rfl,SqL.of he,by rw[Qac];omega,fun l ms hl pm so=> ?_⟩;have s3:=Zam.nw (o:=.lst (ms.map V.int)) (Zam.refl H2) hl;have f3:(upd H2 l (.lst (ms.map V.int))) l=some (.lst (ms.map V.int)):=Zab;generalize upd H2 l (.lst (ms.map V.int))=H3 at s3 f3⊢;refine⟨_,rfl,(n:Int),rfl,QdJ (by decide) (Qeh n),Qbw (show(n:Int)≤200 by omega) (by decide),fun p hp=> ?_⟩;have s4:=Zam.nw (o:=.rng 0 (n:Int)) (Zam.refl H3) hp;have f4:(upd H3 p (.rng 0 (n:Int))) p=some (.rng 0 (n:Int)):=Zab;generalize upd H3 p (.rng 0 (n:Int))=H4 at s4 f4⊢;refine⟨p,0,(n:Int),rfl,f4,by decide,by omega,by omega,fun q hq=> ?_⟩;have s5:=Zam.nw (o:=.lst ((Zgo 0 ((n:Int)-0).toNat).map V.int)) (Zam.refl H4) hq;have f5:(upd H4 q (.lst ((Zgo 0 ((n:Int)-0).toNat).map V.int))) q=some (.lst ((Zgo 0 ((n:Int)-0).toNat).map V.int)):=Zab;generalize upd H4 q (.lst ((Zgo 0 ((n:Int)-0).toNat).map V.int))=H5 at s5 f5⊢
  have eu:Zgo 0 ((n:Int)-0).toNat=(List.range n).map fun m:Nat=>(m:Int):=by
   unfold Zgo;rw[show((n:Int)-0).toNat=n by omega];exact QcM fun m _=>Int.zero_add _
  have em:ms=Zgo 0 ((n:Int)-0).toNat:=by
   refine Zhs (pm.trans ?_) so ?_
   ·rw[eu];exact lk.parts.perm.map _
   ·rw[eu];refine Qb5.mpr (List.pairwise_lt_range.imp fun z=> ?_);omega
  have s35:=s4.trans s5;refine⟨_,_,Zio (SqL.of (s35 _ _ f3)),Zio (SqL.of f5),ZcP _,ZcP _,(by show PyData.depthAll _+1≤60;rw[ZeR];decide),_,rfl,ZnR ?_ ?_⟩
  ·rw[em];show(!PyData.eqv (.list _) (.list _))=false;rw[Qer _ (show PyData.canLay0 (.list ((Zgo 0 ((n:Int)-0).toNat).map .int))=true from ZcP _)];rfl
  have t:=s2.trans (s3.trans s35);exact Zlq (K:=K) (g.up t) G fun H' s'=>k H' (t.trans s')
theorem Zls (g:GdI H a pa pb c s n ps L ya yb zs vs hs ws)(G:GdS n ps L hs ws wd)(k:∀H',Zam H H'→Q (.bl true) H'):Zr6 K {nx:=Z,rt:=Q } [some (.ref d),some (.ref a),some (nv wd),some (.int (n:Int)),some (.ref pa),some (.ref pb),some (.ref c),some (.ref s),x8,none,none,none] H:=by
 have lens:=G.lens;have n2:=G.w.n2;obtain⟨b,lk⟩:=G.lk;have k1:=Zgf (n:=wd) (B:=10^65) (X:=rws L hs) (fun e he=>by obtain⟨h,_,rfl⟩:=QaS.mp he;show(0:Int)≤1;decide) (fun e he=>by obtain⟨h,hh,rfl⟩:=QaS.mp he;exact(G.rl h hh 0).2) G.numW (by decide) (by rw[Zo9];exact Qbw (show((hs.length:Nat):Int)≤200 by omega) (by decide)) G.so;refine⟨_,rfl,_,rfl,s,wd,vs,ws,rfl,g.h7,g.pr,G.w1,G.pl.1,k1.1,k1.2,fun c1 u1 H1 s1 h1 ul1 cu1=> ?_⟩;have g1:=g.up s1
 have ll:L.length≤900:=by
  obtain⟨w',_,_,f⟩:=G.w.fit
  have:=f.len;omega
 refine⟨_,rfl,pb,yb,L,rfl,g1.x.hb,g1.x.wb,ll,fun l ps' ws' H2 fl hl pr' so' s2=> ?_⟩;have pos0:∀e∈L,0≤e.1:=fun e he=>Qcq (G.pos e he);have k2:=Zgf (n:=wd) (B:=10^62) (X:=L) pos0 G.widL G.num (by decide) (by rw[G.sum];exact Qbw (show(n:Int)≤200 by omega) (by decide)) so';refine⟨_,rfl,l,wd,ps',ws',rfl,hl,pr',G.w1,G.pl.1,k2.1,k2.2,fun c2 u2 H3 s3 h2 ul2 cu2=> ?_⟩
 have e:u1=u2:=by
  refine ZeE (by rw[ul1,ul2]) fun i=> ?_;rw[cu1 i,cu2 i,Zo4 G.so,Zo4 so'];exact Zld G.pl pos0 G.wl lk i
 subst e;have s23:=s2.trans s3;refine⟨_,_,Zc2 (s23 _ _ h1),Zc2 h2,Zdg _,Zdg _,by rw[Zeq];decide,_,rfl,ZnR (by rw[Qer _ (Zdg _)];rfl) ?_⟩;exact Zlr (K:=K) (g1.up s23) G fun H' s'=>k H' ((s1.trans s23).trans s')
theorem Zgg (g:GdI H a pa pb c s n ps L ya yb zs vs hs ws)(G:GdS n ps L hs ws wd)(k:∀H',Zam H H'→Q (.bl true) H'):Zr7 K {nx:=Z,rt:=Q } [some (.ref d),some (.ref a),some (nv wd),some (.int (n:Int)),some (.ref pa),some (.ref pb),some (.ref c),some (.ref s),x8,none,none,none] H:=by
 have lens:=G.lens
 have wl:ws.length≤200:=by
  rw[G.so.1.length_eq]
  have:=(Zdk (rws L hs)).len;unfold rws at this;rw[Qac] at this;unfold rws;omega
 have vl:vs.length=ws.length:=g.pr.1;refine⟨_,rfl,s,rfl,⟨_,SqL.of g.h7⟩,Zd2 (K:=K) (a:=s) (xs:=vs) (fun i zs H'=>zs=((ws.take i).map (·.2)).map V.int∧H=H') ⟨rfl,rfl⟩ (by omega) (fun i zs H' h=>by rw[h.1,Qac,Qac,QaR];exact QcI _ _) (fun i zs H' _ h=>by rw[←h.2];exact SqL.of g.h7) ?_ ?_⟩
 ·rintro i y zs H2 pre qh hy ⟨rfl,rfl⟩;have il:i<ws.length:=by rw[←vl];exact(Qaf.mp hy).1
  have ek:ws[i]?=some ws[i]:=Qab il;obtain⟨qa,qb,rfl,ha,hb⟩:=g.pr.2 i y ws[i] hy ek;generalize ws[i]=kk at ek ha hb;rcases pre with _|⟨q0,_|⟨q1,_|⟨q2,pre⟩⟩⟩
  ·cases qh
  ·cases qh
  ·refine⟨qa,_,rfl,SqT.of ha,rfl,_,_,rfl,_,_,rfl,rfl,⟨[some _,some _],rfl,rfl⟩,?_⟩;unfold Zc1;dsimp only;rw[if_pos (rfl:true=true)];refine⟨_,rfl,?_,rfl⟩;rw[Zaq ek,QaG,QaG];rfl
  ·cases qh
 ·rintro zs' H2 ⟨rfl,rfl⟩ E hE;rw[vl,Qa6];have s1:=Zam.nw (o:=.lst ((ws.map (·.2)).map V.int)) (Zam.refl H) hE;have f1:(upd H E (.lst ((ws.map (·.2)).map V.int))) E=some (.lst ((ws.map (·.2)).map V.int)):=Zab;generalize upd H E (.lst ((ws.map (·.2)).map V.int))=H1 at s1 f1⊢;have g1:=g.up s1;refine⟨E,_,rfl,SqL.of f1,_,rfl,c,zs,rfl,.inl (SqL.of g1.hc),rfl,_,rfl,ZnR ?_ ?_⟩
  ·have e1:(ws.map (·.2)).sum=kF (fun _=>1) ws:=by unfold kF;congr 1;exact QcM fun k _=>(Int.mul_one _).symm
   rw[e1,Zo4 G.so,Zi0,g.zl];simp
  exact Zls (K:=K) g1 G fun H' s'=>k H' (s1.trans s')
theorem Zlt {m y:Addr}{yc:List V}(g:GdI H a pa pb c s n ps L ya yb zs vs hs ws)(G:GdS n ps L hs ws wd)(hm:H m=some (.tup [.int (n:Int),.ref y,.ref pb]))(hy:H y=some (.lst (yc.take 64)))(cy:CpL H yc (qs.map pV))(sc:ZbF n ps qs)(k:∀H',Zam H H'→Q (.bl true) H'):Zr8 K {nx:=Z,rt:=Q } [some (.ref d),some (.ref a),some (nv wd),some (.int (n:Int)),some (.ref pa),some (.ref pb),some (.ref c),some (.ref s),some (.ref m),none,none,none] H:=by
 have n2:=G.w.n2;obtain⟨b,lk⟩:=G.lk;refine⟨_,rfl,m,_,_,_,rfl,rfl,SqT.of hm,rfl,y,_,rfl,.inl (SqL.of hy),_,_,rfl,rfl,_,rfl,Zfv (fun e=> ?_) (fun e=> ?_)⟩
 ·have e:=QaQ e;have yl:yc.length<64:=by rw[QaR] at e;omega
  rw[QaL (by omega)] at hy;have ql:qs.length≤64:=by have:=cy.1;rw[Qac] at this;omega
  have hx:Za1 H m y pb (n:Int) qs L yc yb:=⟨hm,hy,cy,g.x.hb,g.x.wb⟩;have rm:Zqq n qs:=⟨by omega,sc.pw,ql,QaE (Qen ql n2) (by decide)⟩;refine⟨_,rfl,m,y,pb,n,qs,L,yc,yb,rfl,hx,rm,fun c1 z1 g1 b1 H1 s1 f1 hc1 lz1 lk1 _=> ?_⟩;have eg:=Zk7 G.w.ok sc lk lk1;subst eg;have gd1:=g.up s1;refine⟨_,rfl,_,_,Zqi lz1 (SqL.of hc1),Zqi gd1.lz (SqL.of gd1.hc),Zg6 _,Zg6 _,ZoI _,_,rfl,ZnR (by rw[ZoJ];rfl) ?_⟩
  have sw:ZqZ n qs L:=by
   have:=Zln G.w;exact⟨rm,this.n2,this.wd,this.pos,this.tot,this.len⟩
  refine⟨_,rfl,m,y,pb,n,qs,L,yc,yb,rfl,hx.up s1,sw,fun c2 z2 w2 h2 b2 H2 s2 f2 hc2 pr2 lk2 so2=> ?_⟩;have eh:=Zk7 G.w.ok sc lk lk2;subst eh;have ew:=so2.uni G.so (Zdk (rws L h2)).nd;subst ew;have gd2:=gd1.up s2;refine⟨_,rfl,_,_,pr2.diT (SqL.of hc2),gd2.pr.diT (SqL.of gd2.h7),Zfn _,Zfn _,ZmP _,_,rfl,ZnR (by rw[ZmQ];rfl) ?_⟩;exact Zgg (K:=K) gd2 G fun H' s'=>k H' ((s1.trans s2).trans s')
 ·exact Zgm (Zgg (K:=K) g G k)
theorem Zgh (P:Zay H d)(ad:a≠d)(pad:pa≠d)(pbd:pb≠d)(x:Za1 H a pa pb (n:Int) ps L ya yb)(w:HlW n ps L)(w1:1≤wd)(pl:Zjc wd (wpl L))(k:∀H',Zbw d H H'→Q (.bl true) H'):Zo6 K {nx:=Z,rt:=Q } [some (.ref d),some (.ref a),some (nv wd),none,none,none,none,none,none,none,none,none] H:=by
 have n2:=w.n2;refine⟨_,rfl,a,_,rfl,SqT.of x.h,rfl,_,_,rfl,_,_,rfl,_,_,rfl,rfl,?_⟩;have sw:=Zln w;refine⟨_,rfl,a,pa,pb,n,ps,L,ya,yb,rfl,x,sw.rm,fun c zs hs b H1 s1 fc hc lz lk fr=> ?_⟩;refine⟨_,rfl,a,pa,pb,n,ps,L,ya,yb,rfl,x.up s1,sw,fun s vs ws hs' b' H2 s2 fs h7 pr lk' so=> ?_⟩;have eh:=Zqh lk' lk;subst eh;have s12:=s1.trans s2;have x2:=x.up s12;have cd:c≠d:=P.ne fc;have sd:s≠d:=(P.same s1).ne fs;refine⟨_,rfl,_,rfl,_,rfl,d,pa,n,ps,ya,rfl,P.same s12,pad,x2.ha,x2.ca,w.ok,n2,w.len,fun y yc qs H3 hy cy sc lq P3 B3=> ?_⟩;have t3:=B3.tups (P.same s12);have x3:Za1 H3 a pa pb (n:Int) ps L ya yb:=⟨B3 _ _ x2.h ad,B3 _ _ x2.ha pad,x2.ca.up t3,B3 _ _ x2.hb pbd,x2.wb.up t3⟩
 have lz3:LsL H3 false zs (hs'.map (List.map nc)):=⟨lz.1,fun i y us h1 h2=>by
  obtain⟨q,xs,e,hq,it⟩:=(lz.up s2).2 i y us h1 h2
  have qd:q≠d:=by
   rintro rfl
   obtain⟨u,v,e',_⟩:=P
   have fq:=fr y (Qap h1) q e
   rw[fq] at e'
   cases e'
  exact⟨q,xs,e,B3 _ _ hq qd,it.up t3⟩⟩
 have g3:GdI H3 a pa pb c s n ps L ya yb zs vs hs' ws:=⟨x3,B3 _ _ (s2 _ _ hc) cd,lz3,B3 _ _ h7 sd,Zho pr t3⟩;refine⟨64,rfl,y,yc,rfl,SqL.of hy,fun l hl=> ?_⟩;rw[show(64:Int)=((64:Nat):Int) from rfl,Zi3];have s4:=Zam.nw (o:=.lst (yc.take 64)) (Zam.refl H3) hl;have f4:(upd H3 l (.lst (yc.take 64))) l=some (.lst (yc.take 64)):=Zab;generalize upd H3 l (.lst (yc.take 64))=H4 at s4 f4⊢;refine⟨_,rfl,(by show 3≤sizeLine;decide),fun m hm=> ?_⟩;have s5:=Zam.nw (o:=.tup [.int (n:Int),.ref l,.ref pb]) (Zam.refl H4) hm;have f5:(upd H4 m (.tup [.int (n:Int),.ref l,.ref pb])) m=some (.tup [.int (n:Int),.ref l,.ref pb]):=Zab;generalize upd H4 m (.tup [.int (n:Int),.ref l,.ref pb])=H5 at s5 f5⊢;have s45:=s4.trans s5;have B:Zbw d H H5:=fun b o e ne=>s45 _ _ (B3 _ _ (s12 _ _ e) ne);exact Zlt (K:=K) (g3.up s45) ⟨w,w1,pl,⟨b',lk'⟩,so⟩ f5 (s5 _ _ f4) (cy.up s45.tups) sc fun H' s'=>k H' (B.same s')
end
end
section
variable {K:PySem.W.Frag}
theorem Zht {ns:List Int}(hS:SqL K H a (ns.map V.int))(k:∀H',Q (.bl true) H'):ZqC K {nx:=Z,rt:=Q } [some (.ref a),none,none,none,none] H:=by
 refine⟨_,rfl,a,_,rfl,.inl hS,2,_,rfl,1,_,rfl,rfl,_,rfl,?_,?_,?_⟩
 ·split<;>omega
 ·split<;>omega
 have hn:(1+(if(((ns.map V.int).length:Nat):Int)<2 then(((ns.map V.int).length:Nat):Int) else 2)).toNat≤3:=by split<;>omega
 generalize(1+(if(((ns.map V.int).length:Nat):Int)<2 then(((ns.map V.int).length:Nat):Int) else 2)).toNat=N at hn⊢;refine ZbI (fun i σ H'=>∃x1 x2 x3 x4:Option V,σ=[some (.ref a),x1,x2,x3,x4]∧Zam H H') ⟨_,_,_,_,rfl,Zam.refl _⟩ ?_ ?_
 ·rintro i σ H1 hi ⟨x1,x2,x3,x4,rfl,s1⟩;dsimp only[Zar];refine⟨_,rfl,_,rfl,a,ns,_,rfl,Zam.seq s1 hS,by omega,by omega,fun d H2 fd P2 s2=> ?_⟩;refine⟨_,rfl,(by show 2≤sizeLine;decide),fun l hl=> ?_⟩;have P2':=P2.new (o:=.lst [.int 200,.int 60]) hl;have s3:=Zam.nw (o:=.lst [.int 200,.int 60]) (Zam.refl H2) hl;have f3:(upd H2 l (.lst [.int 200,.int 60])) l=some (.lst [.int 200,.int 60]):=Zab;generalize upd H2 l (.lst [.int 200,.int 60])=H3 at P2' s3 f3⊢;refine⟨_,rfl,_,_,rfl,rfl,.inr ⟨_,rfl,?_⟩⟩
  have key:∀b:Bool,∃m:Int,atI [V.int 200,V.int 60] (if b=true then 1 else 0)=some (V.int m)∧0≤m∧m≤200:=fun b=>by
   cases b with
   |true=>exact⟨60,rfl,by decide,by decide⟩
   |false=>exact⟨200,rfl,by decide,by decide⟩
  obtain⟨m,em,m0,m2⟩:=key (decide ((0:Int)<0+(i:Int)));refine⟨l,_,_,_,rfl,rfl,SqL.of f3,em,d,m,rfl,P2',m0,m2,fun h pa pb n ps L ya yb H4 hd pad pbd P4 B4 x w=> ?_⟩;have s14:Zam H1 H4:=Zam.butW (s2.trans s3) fd B4
  have fin:∀(wd:Nat) (H5:Hp),Zam H4 H5→1≤wd→Zjc wd (wpl L)→(Zen (Zpe (tB (ZaK ZdD [] E0 (Zaf (Zan 2) (Zaf (Zan 3) (Zaf (Zan 4) ZaB)))))) (ZcY (tC (V.bl false))) ZbT) {nx:=fun σ H'=>∃x1 x2 x3 x4:Option V,σ=[some (.ref a),x1,x2,x3,x4]∧Zam H H',ct:=fun σ H'=>∃x1 x2 x3 x4:Option V,σ=[some (.ref a),x1,x2,x3,x4]∧Zam H H',bk:=ZcY (tC (V.bl true)) {nx:=Z,rt:=Q },rt:=Q } [some (.ref a),some (.int (0+(i:Int))),some (.ref d),some (.ref h),some (nv wd)] H5:=fun wd H5 s5 w1 pl=>by
   refine⟨_,rfl,_,rfl,_,rfl,d,h,pa,pb,n,ps,L,ya,yb,wd,rfl,P4.same s5,hd,pad,pbd,x.up s5,w,w1,pl,fun H6 B6=>⟨true,rfl,Zgm ?_⟩⟩;exact⟨_,_,_,_,rfl,s1.trans (Zam.butW (s14.trans s5) fd B6)⟩
  obtain⟨wd,w1,w2,f⟩:=w.fit;refine⟨_,rfl,h,_,_,_,rfl,rfl,SqT.of x.h,rfl,(by show 0≤sizeLine;decide),fun l2 hl2=> ?_⟩;have s5:=Zam.nw (o:=.lst []) (Zam.refl H4) hl2;have f5:(upd H4 l2 (.lst [])) l2=some (.lst []):=Zab;generalize upd H4 l2 (.lst [])=H5 at s5 f5⊢;have x5:=x.up s5;have d2:DI K H5 (.ref l2) (.list []):=.lst (SqL.of f5) rfl fun i x d h=>by cases h
  refine⟨_,_,x5.wb.di (SqL.of x5.hb),d2,ZjD _,rfl,Zne _,_,rfl,?_⟩;have ev:PyData.eqv (dL L) (.list [])=decide (L.map dE=[]):=Zil _;rw[ev]
  cases L with
  |nil=>
   refine ZnR rfl ?_;exact fin 1 H5 s5 (Qak _) ⟨by decide,fun u hu=>by cases hu⟩
  |cons e L=>
   refine Zi8 ?_;obtain⟨y,ey,q,wq,rfl,hq,hwq⟩:=x5.wb.get (i:=0) (e:=e) rfl;refine⟨_,rfl,h,_,_,_,rfl,rfl,SqT.of x5.h,rfl,pb,yb,_,_,rfl,rfl,SqL.of x5.hb,ZaZ (j:=0) ey,q,_,_,_,rfl,rfl,SqT.of hq,rfl,wq,_,rfl,.inr (SqT.of hwq),?_⟩;have el:=f.nrm.wid e Qai;rw[Qac];refine fin e.2.length H5 s5 (by omega) ⟨by omega,fun u hu=> ?_⟩;obtain⟨e',he',rfl⟩:=Zhd hu;rw[f.nrm.wid e' he',el]
 ·rintro σ H1 ⟨x1,x2,x3,x4,rfl,s1⟩;exact k H1
end
end L2
namespace Toy
open PySem L2 PyProof.Rows
variable {f:Addr}{fd:FuncData}{w:World}{mg:Str→Option Value}{P:Program}{base h:Heap}{l:PySem.W.OpenLaw}
def prt (low high qg:Int)(t:Bool)(p:Int):List Int:=
 (if low≤p∧p<low+qg then [if t=true then high+qg-1-(p-low) else high+(p-low)] else [])++(if high≤p∧p<high+qg then [if t=true then low+qg-1-(p-high) else low+(p-high)] else [])
def iv:V→List Int
 | .int j=>[j]
 |_=>[]
theorem ZnW:∀l:List V,(l.flatMap iv).length≤l.length
 | []=>Qak _
 |v::l=>by
  have:=ZnW l;have h1:(iv v).length≤1:=by cases v<;>first|exact Qak _|exact QaU _
  rw[List.flatMap_cons,Qag,QaM];omega
theorem Zlu (b g l:Int)(t:Bool)(p:Int):(∃j,ZcW b g l t p= .int j)∨ZcW b g l t p= .non:=by
 unfold ZcW;split
 ·exact .inl ⟨_,rfl⟩
 ·exact .inr rfl
theorem ZnX (b g l:Int)(t:Bool)(p:Int):iv (ZcW b g l t p)=if b≤p∧p<b+l then [if t=true then g+l-1-(p-b) else g+(p-b)] else []:=by
 unfold ZcW;split<;>rfl
theorem ZqE (low high qg:Int)(t:Bool)(p:Int):([ZcW low high qg t p,ZcW high low qg t p].take [ZcW low high qg t p,ZcW high low qg t p].length).flatMap iv=prt low high qg t p:=by
 rw[Qa6];show iv _++(iv _++ [])=_;rw[ZnX,ZnX,Qbl];rfl
section
variable {K:PySem.W.Frag}
abbrev Zcz:Stmt:=top 8
theorem Zhu:Zaw ["pairing", "place", "goals"] ["pairing", "place"] (Zaj Zcz):=⟨rfl,rfl,rfl,by decide +kernel,rfl,by decide +kernel,by decide +kernel⟩
def ZeF:Sp:=fun vs H Q _=>∃(p:Addr) (low high qg:Int) (t:Bool) (place:Int),vs=[.ref p,.int place]∧H p=some (.tup [.int low,.int high,.int qg,.bl t])∧∀(q:Addr) (ms:List Int) (H':Hp),H q=none→H' q=some (.lst (ms.map V.int))→ms.Perm (dd (prt low high qg t place))→ms.Pairwise (· ≤ ·)→Zam H H'→Q (.ref q) H'
theorem Zhv (F:Fun K "partners" "partners" Zcz f fd)(M:Txt mg)(Gforth:Kn P w K mg base "forth" 2 ["pairing", "place"] Zfe)(Gback:Kn P w K mg base "back" 2 ["pairing", "place"] Zk2):ZbK P w K mg base CX0 3 f fd ["pairing", "place"] ZeF:=by
 have sc:=Zhu;refine F.ok sc (fun vs H Q E h=> ?_) (fun cdv A outer s H vs Q E hr h=> ?_)
 ·obtain⟨p,low,high,qg,t,place,rfl,_⟩:=h;rfl
 ·obtain⟨p,low,high,qg,t,place,rfl,hp,k⟩:=h
  refine⟨_,(Zac (Zap (i:=2) sc.nd rfl (Or.inl rfl) (ZaO (ZcQ (Zag Gforth hr rfl (Zaa (pv 0) (Zaa (pv 1) Zad))) (Zag Gback hr rfl (Zaa (pv 0) (Zaa (pv 1) Zad))) Zad)))
   (Zai (Zax (ZeX rfl M.sorted (xs:=["goal"]) (Nb:=["pairing", "place", "goals"]) rfl (ZaT (pv 2)) rfl (by show∀p∈(List.zip ["pairing", "place", "goals"] ["pairing", "place", "goals"]:List (Str×Str)),_;decide +kernel) (by decide +kernel) (fun cl C s₂ H₂ fp=>(Zal (i:=0) (by show List.Nodup (["goal", "pairing", "place", "goals"]:List Str);decide +kernel) rfl (Or.inl (Qau rfl)) (Or.inr (Qau rfl)))) (fun cl C s₂ H₂ fp=>(Zoa (Zm4 (Zji (pv 0))))) (fun cl C s₂ H₂ fp=>(pv 0)) (by decide +kernel) rfl (by decide +kernel) (by show∀y∈(_:List (Str×NameKind)),y.2=NameKind.free→(Zaj Zcz).names.lookup y.1=some .cell;decide +kernel))))),?_⟩
  refine⟨_,rfl,_,rfl,p,_,_,_,_,_,rfl,hp,_,rfl,_,rfl,p,_,_,_,_,_,rfl,hp,(by show 2≤sizeLine;decide),fun g hg=> ?_⟩;have s1:=Zam.new (o:=.lst [ZcW low high qg t place,ZcW high low qg t place]) (Zam.refl H) hg;have hg1:(upd H g (.lst [ZcW low high qg t place,ZcW high low qg t place])) g=some (.lst [ZcW low high qg t place,ZcW high low qg t place]):=Zab;generalize upd H g (.lst [ZcW low high qg t place,ZcW high low qg t place])=H1 at s1 hg1⊢;refine⟨_,rfl,g,rfl,⟨_,SqL.of hg1⟩,Zre (K:=K) (a:=g) (xs:=[ZcW low high qg t place,ZcW high low qg t place]) (fun i ns H'=>ns=([ZcW low high qg t place,ZcW high low qg t place].take i).flatMap iv∧H1=H') ⟨rfl,rfl⟩ (by show 2<64;decide) (fun i ns H' h=> ?_) (fun i ns H' _ h=>by rw[←h.2];exact SqL.of hg1) ?_ ?_⟩
  ·rw[h.1];exact QaE (ZnW _) (by rw[QaR];omega)
  ·rintro i x ns H' pre hp' hx ⟨rfl,rfl⟩;rcases pre with _|⟨q0,_|⟨q1,pre⟩⟩
   ·cases hp'
   ·have hx':(∃j,x= .int j)∨x= .non:=by
     have:=Qap hx;rcases Qaz.mp this with rfl|this
     ·exact Zlu _ _ _ _ _
     ·rw[Qaj.mp this];exact Zlu _ _ _ _ _
    refine⟨⟨[some _],rfl,rfl⟩,?_⟩;rw[Zaq hx,List.flatMap_append];rcases hx' with⟨j,rfl⟩|rfl
    ·exact⟨_,rfl,_,rfl,Zi8 ⟨_,rfl,j,rfl,rfl,rfl⟩⟩
    ·exact⟨_,rfl,_,rfl,Zgm ⟨by show _=_++ [];rw[Qbl],rfl⟩⟩
   ·cases hp'
  ·rintro ns H' ⟨rfl,rfl⟩ q ms hq hpm hs;refine k q ms _ (s1.free hq) Zab ?_ hs (Zam.new s1 hq);rw[←ZqE];exact hpm
end
def pr (a b l:Int)(t:Bool):HO:=.tup [.int (if b<a then b else a),.int (if b>a then b else a),.int l,.bl t]
def bgn (h1 l2:Int):Int:=if l2>h1 then l2 else h1
def enn (h1 n1 l2 n2:Int):Int:=if l2+n2<h1+n1 then l2+n2 else h1+n1
def Zpj (l1 h1 n1:Int)(t1:Bool)(bg en:Int):Int:=if t1=true then l1+n1-1-(en-1-h1) else l1+(bg-h1)
def ZrB (l1 h1 n1:Int)(t1:Bool)(l2 h2 n2:Int)(t2:Bool):HO:=pr (Zpj l1 h1 n1 t1 (bgn h1 l2) (enn h1 n1 l2 n2)) (Zpj h2 l2 n2 t2 (bgn h1 l2) (enn h1 n1 l2 n2)) (enn h1 n1 l2 n2-bgn h1 l2) (t1 !=t2)
theorem ZqF (h1 l2:Int):h1≤bgn h1 l2∧l2≤bgn h1 l2∧(bgn h1 l2=h1∨bgn h1 l2=l2):=by unfold bgn;split<;>omega
theorem ZqG (h1 n1 l2 n2:Int):enn h1 n1 l2 n2≤h1+n1∧enn h1 n1 l2 n2≤l2+n2∧(enn h1 n1 l2 n2=h1+n1∨enn h1 n1 l2 n2=l2+n2):=by unfold enn;split<;>omega
section
variable {K:PySem.W.Frag}
abbrev Zhw:Stmt:=top 9
theorem ZmS:Zaw ["pairing", "skip", "many", "low", "high", "long", "turned", "ahead"] ["pairing", "skip", "many"] (Zaj Zhw):=⟨rfl,rfl,rfl,by decide +kernel,rfl,by decide +kernel,by decide +kernel⟩
def Zlv:Sp:=fun vs H Q _=>∃(p:Addr) (low high qg:Int) (t:Bool) (u m:Int),vs=[.ref p,.int u,.int m]∧H p=some (.tup [.int low,.int high,.int qg,.bl t])∧∀q,H q=none→Q (.ref q) (upd H q (pr (low+u) (high+(if t=true then qg-u-m else u)) m t))
theorem ZmT (F:Fun K "short" "short" Zhw f fd)(M:Txt mg)(Gpaired:Kn P w K mg base "paired" 1 ["one", "other", "long", "turned"] Zfg):ZbK P w K mg base CX0 2 f fd ["pairing", "skip", "many"] Zlv:=by
 have sc:=ZmS;refine F.ok sc (fun vs H Q E h=> ?_) (fun cdv A outer s H vs Q E hr h=> ?_)
 ·obtain⟨p,low,high,qg,t,u,m,rfl,_⟩:=h;rfl
 ·obtain⟨p,low,high,qg,t,u,m,rfl,hp,k⟩:=h
  refine⟨_,(Zac (ZcM (pv 0) (Zce rfl (Zas (Zal (i:=3) sc.nd rfl (Or.inl rfl)) (Zas (Zal (i:=4) sc.nd rfl (Or.inl rfl)) (Zas (Zal (i:=5) sc.nd rfl (Or.inl rfl)) (Zas (Zal (i:=6) sc.nd rfl (Or.inl rfl)) Zbf))))))
   (Zac (Zap (i:=7) sc.nd rfl (Or.inl rfl) (ZhB (Zem (pv 6)) (Zau Zbz (Zau Zbz (pv 5) (pv 1)) (pv 2)) (pv 1)))
   (Zai (Zax (Zag Gpaired hr rfl (ZaM (Zau ZaP (pv 3) (pv 1)) (ZaM (Zau ZaP (pv 4) (pv 7)) (Zaa (pv 2) (Zaa (pv 6) Zad))))))))),?_⟩
  refine⟨_,rfl,p,_,rfl,SqT.of hp,rfl,_,_,rfl,_,_,rfl,_,_,rfl,_,_,rfl,rfl,?_⟩;refine⟨_,rfl,_,rfl,?_⟩
  cases t with
  |true=>
   refine Zi8 ?_;refine⟨_,rfl,_,rfl,_,_,rfl,rfl,_,rfl,_,_,rfl,rfl,?_⟩;exact⟨_,rfl,_,rfl,_,_,rfl,rfl,_,rfl,_,rfl,_,_,rfl,rfl,_,rfl,_,rfl,_,_,_,_,rfl,k⟩
  |false=>
   refine Zgm ?_;refine⟨_,rfl,?_⟩;exact⟨_,rfl,_,rfl,_,_,rfl,rfl,_,rfl,_,rfl,_,_,rfl,rfl,_,rfl,_,rfl,_,_,_,_,rfl,k⟩
def Beh (H:Hp)(m:V)(l1 h1 n1:Int)(t1:Bool)(l2 h2 n2:Int)(t2:Bool):Prop:=(m= .non∧enn h1 n1 l2 n2≤bgn h1 l2)∨∃r,m= .ref r∧bgn h1 l2<enn h1 n1 l2 n2∧H r=some (ZrB l1 h1 n1 t1 l2 h2 n2 t2)
abbrev Zfo:Stmt:=top 10
theorem Zlw:Zaw ["one", "other", "begin", "end", "source", "goal"] ["one", "other"] (Zaj Zfo):=⟨rfl,rfl,rfl,by decide +kernel,rfl,by decide +kernel,by decide +kernel⟩
def Zip:Sp:=fun vs H Q _=>∃(p q:Addr) (l1 h1 n1:Int) (t1:Bool) (l2 h2 n2:Int) (t2:Bool),vs=[.ref p,.ref q]∧H p=some (.tup [.int l1,.int h1,.int n1,.bl t1])∧H q=some (.tup [.int l2,.int h2,.int n2,.bl t2])∧
 ∀m H',Beh H' m l1 h1 n1 t1 l2 h2 n2 t2→Zam H H'→Q m H'
theorem Zlx (F:Fun K "behind" "behind" Zfo f fd)(M:Txt mg)(Gback:Kn P w K mg base "back" 2 ["pairing", "place"] Zk2)(Gforth:Kn P w K mg base "forth" 2 ["pairing", "place"] Zfe)(Gpaired:Kn P w K mg base "paired" 1 ["one", "other", "long", "turned"] Zfg):ZbK P w K mg base CX0 3 f fd ["one", "other"] Zip:=by
 have sc:=Zlw;refine F.ok sc (fun vs H Q E h=> ?_) (fun cdv A outer s H vs Q E hr h=> ?_)
 ·obtain⟨p,q,l1,h1,n1,t1,l2,h2,n2,t2,rfl,_⟩:=h;rfl
 ·obtain⟨p,q,l1,h1,n1,t1,l2,h2,n2,t2,rfl,hp,hq,kk⟩:=h;have kn:enn h1 n1 l2 n2≤bgn h1 l2→Q .non H:=fun e=>kk _ _ (.inl ⟨rfl,e⟩) (Zam.refl H);have k:bgn h1 l2<enn h1 n1 l2 n2→∀r,H r=none→Q (.ref r) (upd H r (ZrB l1 h1 n1 t1 l2 h2 n2 t2)):=fun e r hr=>kk _ _ (.inr ⟨r,rfl,e,Zab⟩) (Zam.new (Zam.refl H) hr)
  refine⟨_,(Zac (Zap (i:=2) sc.nd rfl (Or.inl rfl) (Zaz (ZdE rfl) (by rfl) M.max boot_max (ZaD (ZaC (ZaJ (K:=K)) (pv 0) Zae (fun _ _=>rfl)) (ZaD (ZaC (ZaJ (K:=K)) (pv 1) Zae (fun _ _=>rfl)) Zad))))
   (Zac (Zap (i:=3) sc.nd rfl (Or.inl rfl) (Zaz (Zbu rfl) (by rfl) M.min QeN (ZaM (Zau ZaP (ZaC (ZaJ (K:=K)) (pv 0) Zae (fun _ _=>rfl)) (ZaC (ZaJ (K:=K)) (pv 0) Zae (fun _ _=>rfl))) (ZaM (Zau ZaP (ZaC (ZaJ (K:=K)) (pv 1) Zae (fun _ _=>rfl)) (ZaC (ZaJ (K:=K)) (pv 1) Zae (fun _ _=>rfl))) Zad))))
   (Zac (Zbn (ZaG Zn2 (pv 2) (pv 3) (ZaI _)) (Zai (Zax ZhA)) ZaF)
   (Zac (Zap (i:=4) sc.nd rfl (Or.inl rfl) (Zaz (Zbu rfl) (by rfl) M.min QeN (ZaS (Zag Gback hr rfl (Zaa (pv 0) (Zaa (pv 2) Zad))) (ZaS (Zag Gback hr rfl (Zaa (pv 0) (ZaM (Zau Zbz (pv 3) Zae) Zad))) Zad))))
   (Zac (Zap (i:=5) sc.nd rfl (Or.inl rfl) (Zaz (Zbu rfl) (by rfl) M.min QeN (ZaS (Zag Gforth hr rfl (Zaa (pv 1) (Zaa (pv 2) Zad))) (ZaS (Zag Gforth hr rfl (Zaa (pv 1) (ZaM (Zau Zbz (pv 3) Zae) Zad))) Zad))))
   (Zai (Zax (Zag Gpaired hr rfl (Zaa (pv 4) (Zaa (pv 5) (ZaM (Zau Zbz (pv 3) (pv 2)) (ZaA (ZbP Zpw (ZaC (ZaJ (K:=K)) (pv 0) Zae (fun _ _=>rfl)) (ZaC (ZaJ (K:=K)) (pv 1) Zae (fun _ _=>rfl)) (ZaI _)) Zad)))))))))))),?_⟩
  refine⟨_,rfl,p,_,_,_,rfl,rfl,SqT.of hp,rfl,_,rfl,q,_,_,_,rfl,rfl,SqT.of hq,rfl,_,_,rfl,?_⟩;refine⟨_,rfl,p,_,_,_,rfl,rfl,SqT.of hp,rfl,_,rfl,p,_,_,_,rfl,rfl,SqT.of hp,rfl,_,_,rfl,rfl,_,rfl,q,_,_,_,rfl,rfl,SqT.of hq,rfl,_,rfl,q,_,_,_,rfl,rfl,SqT.of hq,rfl,_,_,rfl,rfl,_,_,rfl,?_⟩;refine⟨_,rfl,_,rfl,_,_,rfl,rfl,_,rfl,Zfv (fun e=> ?_) (fun e=> ?_)⟩
  ·exact kn (QaQ e)
  ·have e:bgn h1 l2<enn h1 n1 l2 n2:=Int.not_le.mp fun z=>e (QaK z);have k:=k e;have B:=ZqF h1 l2;have E':=ZqG h1 n1 l2 n2;unfold ZrB at k;have eb:(if l2>h1 then l2 else h1)=bgn h1 l2:=rfl;have ee:(if l2+n2<h1+n1 then l2+n2 else h1+n1)=enn h1 n1 l2 n2:=rfl;rw[eb,ee];generalize bgn h1 l2=bg at*;generalize enn h1 n1 l2 n2=en at*;refine⟨_,rfl,_,rfl,p,l1,h1,n1,t1,bg,rfl,hp,_,rfl,_,rfl,_,_,rfl,rfl,p,l1,h1,n1,t1,en-1,rfl,hp,(if t1=true then l1+n1-1-(bg-h1) else l1+(bg-h1)),(if t1=true then l1+n1-1-(en-1-h1) else l1+(en-1-h1)),?_,?_⟩
   ·unfold ZcW;rw[if_pos (show h1≤bg∧bg<h1+n1 by omega),if_pos (show h1≤en-1∧en-1<h1+n1 by omega)]
   have eS:(if(if t1=true then l1+n1-1-(en-1-h1) else l1+(en-1-h1))<(if t1=true then l1+n1-1-(bg-h1) else l1+(bg-h1)) then(if t1=true then l1+n1-1-(en-1-h1) else l1+(en-1-h1)) else(if t1=true then l1+n1-1-(bg-h1) else l1+(bg-h1)))=Zpj l1 h1 n1 t1 bg en:=by
    unfold Zpj;cases t1
    ·simp only[Qa3,Qcj];split<;>omega
    ·simp only[Qcv];split<;>omega
   rw[eS];refine⟨_,rfl,_,rfl,q,l2,h2,n2,t2,bg,rfl,hq,_,rfl,_,rfl,_,_,rfl,rfl,q,l2,h2,n2,t2,en-1,rfl,hq,(if t2=true then h2+n2-1-(bg-l2) else h2+(bg-l2)),(if t2=true then h2+n2-1-(en-1-l2) else h2+(en-1-l2)),?_,?_⟩
   ·unfold ZcW;rw[if_pos (show l2≤bg∧bg<l2+n2 by omega),if_pos (show l2≤en-1∧en-1<l2+n2 by omega)]
   have eG:(if(if t2=true then h2+n2-1-(en-1-l2) else h2+(en-1-l2))<(if t2=true then h2+n2-1-(bg-l2) else h2+(bg-l2)) then(if t2=true then h2+n2-1-(en-1-l2) else h2+(en-1-l2)) else(if t2=true then h2+n2-1-(bg-l2) else h2+(bg-l2)))=Zpj h2 l2 n2 t2 bg en:=by
    unfold Zpj;cases t2
    ·simp only[Qa3,Qcj];split<;>omega
    ·simp only[Qcv];split<;>omega
   rw[eG];refine⟨_,rfl,_,rfl,_,rfl,_,rfl,_,_,rfl,rfl,_,rfl,p,_,_,_,rfl,rfl,SqT.of hp,rfl,_,rfl,q,_,_,_,rfl,rfl,SqT.of hq,rfl,rfl,?_⟩;have et:(!decide (V.bl t1=V.bl t2))=(t1 !=t2):=by cases t1<;>cases t2<;>rfl
   rw[et];exact⟨_,_,_,_,rfl,k⟩
end
section
variable {K:PySem.W.Frag}
abbrev Zco:Stmt:=top 12
theorem Zfp:Zaw ["weighing", "place", "at"] ["weighing", "place"] (Zaj Zco):=⟨rfl,rfl,rfl,by decide +kernel,rfl,by decide +kernel,by decide +kernel⟩
def Zsa (K:PySem.W.Frag):Sp:=fun vs H Q _=>∃(a:Addr) (xs:List V) (L:List (Int×List Int)) (p:Int) (j:Nat) (e:Int×List Int) (q wq:Addr),vs=[.ref a,.int p]∧SqL K H a xs∧Wg H xs L∧ZrU L p j e∧xs[j]?=some (.ref q)∧H q=some (.tup [.int e.1,.ref wq])∧Q (.ref wq) H
theorem ZrC (F:Fun K "weights_at" "weights_at" Zco f fd)(M:Txt mg):ZbK P w K mg base CX0 1 f fd ["weighing", "place"] (Zsa K):=by
 have sc:=Zfp;refine F.ok sc (fun vs H Q E h=> ?_) (fun cdv A outer s H vs Q E hr h=> ?_)
 ·obtain⟨a,xs,L,p,j,e,q,wq,rfl,_⟩:=h;rfl
 ·obtain⟨a,xs,L,p,j,e,q,wq,rfl,hS,g,st,hxj,hq,k⟩:=h
  refine⟨_,(Zac (Zap (i:=2) sc.nd rfl (Or.inl rfl) Zae)
   (Zac (ZhE Qa4 (ZaG Zn2 (pv 1) (ZaC (ZaJ (K:=K)) (ZaC (Zat (K:=K)) (pv 0) (pv 2) (fun _ _=>rfl)) Zae (fun _ _=>rfl)) (ZaI _)) (Zac (Zm6 (i:=1) sc.nd rfl (Or.inl rfl) (ZaC (ZaJ (K:=K)) (ZaC (Zat (K:=K)) (pv 0) (pv 2) (fun _ _=>rfl)) Zae (fun _ _=>rfl)) Zps)
   (Zai (Zm6 (i:=2) sc.nd rfl (Or.inl rfl) Zae Zpr))))
   (Zai (Zax (ZaC (ZaJ (K:=K)) (ZaC (Zat (K:=K)) (pv 0) (pv 2) (fun _ _=>rfl)) Zae (fun _ _=>rfl)))))),?_⟩
  have hj:j<L.length:=(Qaf.mp st.get).1;refine ZhG (fun σ H'=>∃at':Nat,σ=[some (.ref a),some (.int (p-tot (L.take at'))),some (.int at')]∧at'≤j∧H'=H) (fun σ _=>j-(match σ[2]? with|some (some (V.int i))=>i.toNat|_=>0)) ⟨0,by rw[Qcr,Zb3,Int.sub_zero];rfl,QaU _,rfl⟩ ?_ ?_
  ·rintro σ H' ⟨n,rfl,hn,rfl⟩;have hnl:n<L.length:=by omega
   obtain⟨x,hx,qn,wn,rfl,hqn,hwn⟩:=g.get (Qab hnl);have tn:=ZeS (Qab hnl);refine⟨_,rfl,_,rfl,_,rfl,a,xs,_,_,rfl,rfl,hS,ZaZ hx,qn,_,_,_,rfl,rfl,SqT.of hqn,rfl,_,_,rfl,rfl,_,rfl,Zfv (fun hc=> ?_) (fun hc=> ?_)⟩
   ·have hc:=QaQ hc
    have hnj:n+1≤j:=by
     apply QbJ;intro z;have e0:n=j:=by omega
     subst e0
     have:=st.hi;omega
    refine⟨_,rfl,_,rfl,_,rfl,a,xs,_,_,rfl,rfl,hS,ZaZ hx,qn,_,_,_,rfl,rfl,SqT.of hqn,rfl,_,_,rfl,rfl,?_⟩;refine⟨_,rfl,_,_,rfl,rfl,⟨n+1,?_,hnj,rfl⟩,?_⟩
    ·rw[tn];show [some (V.ref a),some (V.int (p-tot (List.take n L)-(L[n]).1)),some (V.int ((n:Int)+1))]=_;rw[show p-tot (List.take n L)-(L[n]).1=p-(tot (List.take n L)+(L[n]).1) by omega];rfl
    ·show j-((n:Int)+1).toNat<j-(n:Int).toNat;omega
   ·have hc:=Qa5 (QdB.mpr hc)
    have e0:n=j:=by
     apply QbJ;intro z
     have:=ZlO st.pos (show n+1≤j by omega)
     have:=st.lo;omega
    subst e0;rw[hxj] at hx;cases hx;exact⟨_,rfl,_,rfl,a,xs,_,_,rfl,rfl,hS,ZaZ hxj,q,_,_,_,rfl,rfl,SqT.of hq,rfl,k⟩
  ·intro σ H' Q1 Q2 hQ h;obtain⟨v0,e0,v1,e1,v2,e2,p1,l1,i1,x1,a1,a2,a3,a4,p2,l2,i2,x2,b1,b2,b3,b4,i3,j3,c1,c2,v4,c3,q4⟩:=h;exact⟨v0,e0,v1,e1,v2,e2,p1,l1,i1,x1,a1,a2,a3,a4,p2,l2,i2,x2,b1,b2,b3,b4,i3,j3,c1,c2,v4,c3,hQ _ _ q4⟩
end
section
variable {K:PySem.W.Frag}
abbrev ZbG:Stmt:=top 17
theorem Zel:Zaw ["n", "links", "beside", "one", "other"] ["n", "links"] (Zaj ZbG):=⟨rfl,rfl,rfl,by decide +kernel,rfl,by decide +kernel,by decide +kernel⟩
theorem Zly (F:Fun K "beside_each" "beside_each" ZbG f fd)(M:Txt mg):ZbK P w K mg base CX0 1 f fd ["n", "links"] Zd3:=by
 have sc:=Zel;refine F.ok sc (fun vs H Q E h=> ?_) (fun cdv A outer s H vs Q E hr h=> ?_)
 ·obtain⟨b,n,ps,L,rfl,_⟩:=h;rfl
 ·obtain⟨b,n,ps,L,rfl,hb,tL,h1,h2,h3,k⟩:=h
  refine⟨_,(Zac (ZeQ (xs:=["place"]) (Nb:=["n", "links", "beside", "one", "other"]) (Zal (i:=2) sc.nd rfl (Or.inl rfl)) rfl rfl (Zbg rfl M.range (Zaa (pv 0) Zad)) rfl (by show∀p∈(List.zip ["n", "links", "beside", "one", "other"] ["n", "links", "beside", "one", "other"]:List (Str×Str)),_;decide +kernel) (by decide +kernel) (fun cl C s₂ H₂ fp=>(Zal (i:=0) (by show List.Nodup (["place", "n", "links", "beside", "one", "other"]:List Str);decide +kernel) rfl (Or.inl (Qau rfl)) (Or.inr (Qau rfl)))) (fun cl C s₂ H₂ fp=>Za3) (fun cl C s₂ H₂ fp=>(ZaO Zad)) (by decide +kernel) rfl (by decide +kernel) (by show∀y∈(_:List (Str×NameKind)),y.2=NameKind.free→(Zaj ZbG).names.lookup y.1=some .cell;decide +kernel))
   (Zac (Zbh Qa4 rfl (ZaT (pv 1)) (Zce rfl (Zas (Zal (i:=3) sc.nd rfl (Or.inl rfl)) (Zas (Zal (i:=4) sc.nd rfl (Or.inl rfl)) Zbf)))
   (Zac (ZbH (ZdI Qa2 Qbe Qbf Za6 (ZaC (Zat (K:=K)) (pv 2) (pv 3) (fun _ _=>rfl)) (Zaa (pv 4) Zad)))
   (Zai (ZbH (ZdI Qa2 Qbe Qbf Za6 (ZaC (Zat (K:=K)) (pv 2) (pv 4) (fun _ _=>rfl)) (Zaa (pv 3) Zad))))))
   (Zai (Zax (pv 2))))),?_⟩
  exact Ze9 (K:=K) hb tL h1 h2 h3 k
abbrev ZcK:Stmt:=top 18
theorem Zgi:Zaw ["start", "beside", "is_seen", "room", "ahead", "place", "goal"] ["start", "beside", "is_seen"] (Zaj ZcK):=⟨rfl,rfl,rfl,by decide +kernel,rfl,by decide +kernel,by decide +kernel⟩
theorem Zpa (F:Fun K "room_from" "room_from" ZcK f fd)(M:Txt mg):ZbK P w K mg base CX0 1 f fd ["start", "beside", "is_seen"] Zg4:=by
 have sc:=Zgi;refine F.ok sc (fun vs H Q E h=> ?_) (fun cdv A outer s H vs Q E hr h=> ?_)
 ·obtain⟨bd,sn,n,i,zs,gs,D,b0,rfl,_⟩:=h;rfl
 ·obtain⟨bd,sn,n,i,zs,gs,D,b0,rfl,h1,h2,h3,h4,h5,h6,h7,h8,h9,h10,h11,k⟩:=h
  refine⟨_,(Zac (ZcM Zec (ZhC (pv 2) (pv 0) Zdp))
   (Zac (Zap (i:=3) sc.nd rfl (Or.inl rfl) (ZaO (Zaa (pv 0) Zad)))
   (Zac (Zap (i:=4) sc.nd rfl (Or.inl rfl) (ZaO (Zaa (pv 0) Zad)))
   (Zac (ZhE Qa4 (ZlH (pv 4) (fun _=>rfl)) (Zac (Zap (i:=5) sc.nd rfl (Or.inl rfl) (Zjv Qa2 Qfj Qfk Zna (pv 4)))
   (Zai (Zbh Qa4 rfl (ZaT (ZaC (Zat (K:=K)) (pv 1) (pv 5) (fun _ _=>rfl))) (Zal (i:=6) sc.nd rfl (Or.inl rfl))
   (Zai (Zbn (Zfw (Zem (ZaC (Zat (K:=K)) (pv 2) (pv 6) (fun _ _=>rfl)))) (Zac (ZcM Zec (ZhC (pv 2) (pv 6) Zdp))
   (Zac (ZbH (ZdI Qa2 Qbe Qbf Za6 (pv 3) (Zaa (pv 6) Zad)))
   (Zai (ZbH (ZdI Qa2 Qbe Qbf Za6 (pv 4) (Zaa (pv 6) Zad)))))) ZaF))))))
   (Zai (Zax (Zaz Zdi (by rfl) M.sorted boot_sorted (Zaa (pv 3) Zad)))))))),?_⟩
  exact Zg3 (K:=K) h1 h2 h3 h4 h5 h6 h7 h8 h9 h10 h11 k
abbrev Zfq:Stmt:=top 19
theorem Zlz:Zaw ["n", "links", "beside", "is_seen", "found", "place"] ["n", "links"] (Zaj Zfq):=⟨rfl,rfl,rfl,by decide +kernel,rfl,by decide +kernel,by decide +kernel⟩
theorem ZlA (F:Fun K "linked" "linked" Zfq f fd)(M:Txt mg)(Gbeside_each:Kn P w K mg base "beside_each" 1 ["n", "links"] Zd3)(Groom_from:Kn P w K mg base "room_from" 1 ["start", "beside", "is_seen"] Zg4):ZbK P w K mg base CX0 2 f fd ["n", "links"] Zd4:=by
 have sc:=Zlz;refine F.ok sc (fun vs H Q E h=> ?_) (fun cdv A outer s H vs Q E hr h=> ?_)
 ·obtain⟨b,n,ps,L,rfl,_⟩:=h;rfl
 ·obtain⟨b,n,ps,L,rfl,hb,tL,h1,h2,h3,k⟩:=h
  refine⟨_,(Zac (Zap (i:=2) sc.nd rfl (Or.inl rfl) (Zag Gbeside_each hr rfl (Zaa (pv 0) (Zaa (pv 1) Zad))))
   (Zac (Zap (i:=3) sc.nd rfl (Or.inl rfl) (Zau Znc (ZaO (Zao Zec Zad)) (pv 0)))
   (Zac (Zap (i:=4) sc.nd rfl (Or.inl rfl) (ZaO Zad))
   (Zac (Zbh Qa4 rfl (Zbg rfl M.range (Zaa (pv 0) Zad)) (Zal (i:=5) sc.nd rfl (Or.inl rfl))
   (Zai (Zbn (Zfw (Zem (ZaC (Zat (K:=K)) (pv 3) (pv 5) (fun _ _=>rfl)))) (Zai (ZbH (ZdI Qa2 Qbe Qbf Za6 (pv 4) (ZaS (Zag Groom_from hr rfl (Zaa (pv 5) (Zaa (pv 2) (Zaa (pv 3) Zad)))) Zad)))) ZaF)))
   (Zai (Zax (pv 4))))))),?_⟩
  exact Zfa (K:=K) hb tL h1 h2 h3 k
abbrev ZcA:Stmt:=top 20
theorem Zhx:Zaw ["pairing"] ["pairing"] (Zaj ZcA):=⟨rfl,rfl,rfl,by decide +kernel,rfl,by decide +kernel,by decide +kernel⟩
theorem ZmU (F:Fun K "links_of" "links_of" ZcA f fd)(M:Txt mg)(Gforth:Kn P w K mg base "forth" 2 ["pairing", "place"] Zfe):ZbK P w K mg base CX0 3 f fd ["pairing"] Zfj:=by
 have sc:=Zhx;refine F.ok sc (fun vs H Q E h=> ?_) (fun cdv A outer s H vs Q E hr h=> ?_)
 ·obtain⟨q,p,n,rfl,_⟩:=h;rfl
 ·obtain⟨q,p,n,rfl,h1,h2,h3,k⟩:=h;refine⟨_,(Zai (Zax (Zbj (xs:=["place"]) (Nb:=["pairing"]) rfl (Zfx rfl M.range (ZaD (ZaC (ZaJ (K:=K)) (pv 0) Zae (fun _ _=>rfl)) (ZaM (Zau ZaP (ZaC (ZaJ (K:=K)) (pv 0) Zae (fun _ _=>rfl)) (ZaC (ZaJ (K:=K)) (pv 0) Zae (fun _ _=>rfl))) Zad))) rfl (by show∀p∈(List.zip ["pairing"] ["pairing"]:List (Str×Str)),_;decide +kernel) (by decide +kernel) (fun cl C s₂ H₂ fp=>(Zal (i:=0) (by show List.Nodup (["place", "pairing"]:List Str);decide +kernel) rfl (Or.inl (Qau rfl)) (Or.inr (Qau rfl)))) (fun cl C s₂ H₂ fp=>Za3) (fun cl C s₂ H₂ fp=>(Zcg (ZcQ (pv 0) (Zag Gforth hr rfl (Zaa (pv 1) (Zaa (pv 0) Zad))) Zad))) (by decide +kernel) rfl (by decide +kernel) (by show∀y∈(_:List (Str×NameKind)),y.2=NameKind.free→(Zaj ZcA).names.lookup y.1=some .cell;decide +kernel)))),?_⟩;exact Zha (K:=K) h1 h2 h3 k
abbrev Zfr:Stmt:=top 21
theorem ZmV:Zaw ["hall", "n", "pairings", "weighing"] ["hall"] (Zaj Zfr):=⟨rfl,rfl,rfl,by decide +kernel,rfl,by decide +kernel,by decide +kernel⟩
theorem ZmW (F:Fun K "rooms" "rooms" Zfr f fd)(M:Txt mg)(Glinked:Kn P w K mg base "linked" 2 ["n", "links"] Zd4)(Glinks_of:Kn P w K mg base "links_of" 3 ["pairing"] Zfj)(B:Gb mg):ZbK P w K mg base CX0 4 f fd ["hall"] Zcc:=by
 have sc:=ZmV;refine F.ok sc (fun vs H Q E h=> ?_) (fun cdv A outer s H vs Q E hr h=> ?_)
 ·obtain⟨a,pa,pb,n,ps,L,ya,yb,rfl,_⟩:=h;rfl
 ·obtain⟨a,pa,pb,n,ps,L,ya,yb,rfl,x,hk,k⟩:=h;obtain⟨tmp,hmp⟩:=B.mp
  refine⟨_,(Zac (ZcM (pv 0) (Zce rfl (Zas (Zal (i:=1) sc.nd rfl (Or.inl rfl)) (Zas (Zal (i:=2) sc.nd rfl (Or.inl rfl)) (Zas (Zal (i:=3) sc.nd rfl (Or.inl rfl)) Zbf)))))
   (Zac (Zbn (ZaG Zgu (pv 1) (Zn0 (v:=.int 2000) rfl hmp ⟨_,rfl⟩) (ZaI _)) Zms ZaF)
   (Zai (Zax (Zag Glinked hr rfl (Zaa (pv 1) (ZaA (Zl0 (xs:=["pairing", "link"]) (Nb:=["hall", "n", "pairings", "weighing"]) rfl (ZaT (pv 2)) rfl (by show∀p∈(List.zip ["hall", "n", "pairings", "weighing"] ["hall", "n", "pairings", "weighing"]:List (Str×Str)),_;decide +kernel) (by decide +kernel) (fun cl C s₂ H₂ fp=>(Zal (i:=0) (by show List.Nodup (["pairing", "link", "hall", "n", "pairings", "weighing"]:List Str);decide +kernel) rfl (Or.inl (Qau rfl)) (Or.inr (Qau rfl)))) (fun cl C s₂ H₂ fp=>Za3) (fun cl C s₂ H₂ fp=>(Zh8 (K:=K) (Zag Glinks_of hr rfl (Zaa (pv 0) Zad)))) (fun cl C s₂ H₂ fp=>(Zal (i:=1) (by show List.Nodup (["pairing", "link", "hall", "n", "pairings", "weighing"]:List Str);decide +kernel) rfl (Or.inl (Qau rfl)) (Or.inr (Qau rfl)))) (fun cl C s₂ H₂ fp=>Za3) (fun cl C s₂ H₂ fp=>(pv 1)) (by decide +kernel) rfl (by decide +kernel) (by show∀y∈(_:List (Str×NameKind)),y.2=NameKind.free→(Zaj Zfr).names.lookup y.1=some .cell;decide +kernel)) Zad))))))),?_⟩
  exact Zhb (K:=K) x hk k
abbrev Za5:Stmt:=top 33
theorem Zcp:Zaw ["_law_draw", "_law_n", "_law_most", "_law_way", "_law_found", "_law_k", "_law_room", "_law_long", "_law_one", "_law_other"] ["_law_draw", "_law_n"] (Zaj Za5):=⟨rfl,rfl,rfl,by decide +kernel,rfl,by decide +kernel,by decide +kernel⟩
theorem ZqH (F:Fun K "_law_hall_pairings" "_law_hall_pairings" Za5 f fd)(M:Txt mg)(G_law_take:Kn P w K mg base "_law_take" 1 ["_law_draw", "_law_many"] Zd6):ZbK P w K mg base CX0 2 f fd ["_law_draw", "_law_n"] Zk8:=by
 have sc:=Zcp;refine F.ok sc (fun vs H Q E h=> ?_) (fun cdv A outer s H vs Q E hr h=> ?_)
 ·obtain⟨d,n,rfl,_⟩:=h;rfl
 ·obtain⟨d,n,rfl,hP,n2,k⟩:=h
  refine⟨_,(Zac (Zap (i:=2) sc.nd rfl (Or.inl rfl) (Zag G_law_take hr rfl (Zaa (pv 0) (Zao Zae Zad))))
   (Zac (Zap (i:=3) sc.nd rfl (Or.inl rfl) (Zag G_law_take hr rfl (Zaa (pv 0) (Zao Zae Zad))))
   (Zac (Zbn (ZaG Zit (pv 3) Zae (ZaI _)) (Zai (Zap (i:=2) sc.nd rfl (Or.inl rfl) (Zag G_law_take hr rfl (Zaa (pv 0) (Zao Zae Zad))))) ZaF)
   (Zac (Zbn (ZaG ZeI (pv 3) Zae (ZaI _)) (Zai (Zap (i:=2) sc.nd rfl (Or.inl rfl) Zae)) ZaF)
   (Zac (Zap (i:=4) sc.nd rfl (Or.inl rfl) (ZaO Zad))
   (Zac (Zbh Qa4 rfl (Zbg rfl M.range (ZaM (Zau ZcN (pv 2) (ZaU ZbU (by rfl) M.int QfA (ZaA (ZbP Zgu (pv 1) Zae (ZaI _)) Zad))) Zad)) (Zal (i:=5) sc.nd rfl (Or.inl rfl))
   (Zac (Zap (i:=6) sc.nd rfl (Or.inl rfl) (ZaC (Zat (K:=K)) (ZaO (Zob Zae Zae (pv 1) (Zau ZaP Zae (Zau Zdq (pv 1) Zae)) Zad)) (Zag G_law_take hr rfl (Zaa (pv 0) (Zao Zae Zad))) (fun _ _=>rfl)) Zer)
   (Zac (Zbn (ZaG Zgu (pv 2) Zae (ZaI _)) (Zai (Zap (i:=6) sc.nd rfl (Or.inl rfl) Zae)) ZaF)
   (Zac (Zap (i:=7) sc.nd rfl (Or.inl rfl) (Zau ZaP Zae (Zag G_law_take hr rfl (Zaa (pv 0) (ZaS (Zaz (Zbu rfl) (by rfl) M.min QeN (Zaa (pv 1) (Zaa (pv 6) Zad))) Zad)))))
   (Zac (Zap (i:=8) sc.nd rfl (Or.inl rfl) (Zag G_law_take hr rfl (Zaa (pv 0) (ZaM (Zau ZaP (Zau Zbz (pv 1) (pv 7)) Zae) Zad))))
   (Zac (Zap (i:=9) sc.nd rfl (Or.inl rfl) (ZaC (Zat (K:=K)) (ZaO (ZcQ (pv 8) (Zag G_law_take hr rfl (Zaa (pv 0) (ZaM (Zau ZaP (Zau Zbz (pv 1) (pv 7)) Zae) Zad))) Zad)) (ZaU ZbU (by rfl) M.int QfA (ZaA (ZbP Zgu (Zag G_law_take hr rfl (Zaa (pv 0) (Zao Zae Zad))) Zae (ZaI _)) Zad)) (fun _ _=>rfl)) Zer)
   (Zai (ZbH (ZdI Qa2 Qbe Qbf Za6 (pv 4) (Zdr (Zcg (Zob (Zaz (Zbu rfl) (by rfl) M.min QeN (Zaa (pv 8) (Zaa (pv 9) Zad))) (Zaz (ZdE rfl) (by rfl) M.max boot_max (Zaa (pv 8) (Zaa (pv 9) Zad))) (pv 7) (ZbP ZeI (Zag G_law_take hr rfl (Zaa (pv 0) (Zao Zae Zad))) Zae (ZaI _)) Zad)) Zad))))))))))
   (Zai (Zax (pv 4))))))))),?_⟩
  exact Zk9 (K:=K) hP n2 k
abbrev Zbd:Stmt:=top 13
theorem Zdc:Zaw ["one", "other"] ["one", "other"] (Zaj Zbd):=⟨rfl,rfl,rfl,by decide +kernel,rfl,by decide +kernel,by decide +kernel⟩
theorem ZqI (F:Fun K "sum_of_weights" "sum_of_weights" Zbd f fd)(M:Txt mg)(B:Gb mg):ZbK P w K mg base CX0 1 f fd ["one", "other"] Zdj:=by
 have sc:=Zdc;refine F.ok sc (fun vs H Q E h=> ?_) (fun cdv A outer s H vs Q E hr h=> ?_)
 ·obtain⟨a,b,u,v,rfl,_⟩:=h;rfl
 ·obtain⟨a,b,u,v,rfl,h1,h2,h3,h4,k⟩:=h;obtain⟨tmp,hmp⟩:=B.mp;refine⟨_,(Zai (Zax (ZaU ZbC (by rfl) M.tuple QfE (ZaA (Zbj (xs:=["weight", "more"]) (Nb:=["one", "other"]) rfl (ZjX rfl B.zp (Zaa (pv 0) (Zaa (pv 1) Zad))) rfl (by show∀p∈(List.zip ["one", "other"] ["one", "other"]:List (Str×Str)),_;decide +kernel) (by decide +kernel) (fun cl C s₂ H₂ fp=>(ZgB (K:=K) (n:=2) rfl (Zas (Zal (i:=0) (by show List.Nodup (["weight", "more", "one", "other"]:List Str);decide +kernel) rfl (Or.inl (Qau rfl)) (Or.inr (Qau rfl))) (Zas (Zal (i:=1) (by show List.Nodup (["weight", "more", "one", "other"]:List Str);decide +kernel) rfl (Or.inl (Qau rfl)) (Or.inr (Qau rfl))) Zbf)))) (fun cl C s₂ H₂ fp=>Za3) (fun cl C s₂ H₂ fp=>(Zau ZaP (pv 0) (pv 1))) (by decide +kernel) rfl (by decide +kernel) (by show∀y∈(_:List (Str×NameKind)),y.2=NameKind.free→(Zaj Zbd).names.lookup y.1=some .cell;decide +kernel)) Zad)))),?_⟩;exact Zgd (K:=K) h1 h2 h3 h4 k
abbrev Zhy:Stmt:=top 14
theorem ZmX:Zaw ["weighing", "manys", "many", "weights"] ["weighing"] (Zaj Zhy):=⟨rfl,rfl,rfl,by decide +kernel,rfl,by decide +kernel,by decide +kernel⟩
theorem ZmY (F:Fun K "sorts" "sorts" Zhy f fd)(M:Txt mg):ZbK P w K mg base CX0 1 f fd ["weighing"] ZcX:=by
 have sc:=ZmX;refine F.ok sc (fun vs H Q E h=> ?_) (fun cdv A outer s H vs Q E hr h=> ?_)
 ·obtain⟨a,xs,W,rfl,_⟩:=h;rfl
 ·obtain⟨a,xs,W,rfl,h1,h2,h3,k⟩:=h
  refine⟨_,(Zac (Zap (i:=1) sc.nd rfl (Or.inl rfl) Zl5)
   (Zac (Zbh Qa4 rfl (ZaT (pv 0)) (Zce rfl (Zas (Zal (i:=2) sc.nd rfl (Or.inl rfl)) (Zas (Zal (i:=3) sc.nd rfl (Or.inl rfl)) Zbf)))
   (Zai (Zj8 (ZlM hr) (pv 1) (pv 3) (Zau ZaP (Zl6 (ZlM hr) (pv 1) (pv 3) Zae ⟨rfl,rfl,rfl,rfl⟩) (pv 2)) rfl)))
   (Zai (Zax (Zaz (Zfb hr) (by rfl) M.sorted boot_sorted (ZaS (ZkH (pv 1)) Zad)))))),?_⟩
  exact Zhn (K:=K) h1 h2 h3 k
abbrev Zcq:Stmt:=top 22
theorem Zfs:Zaw ["room", "places", "weights", "place"] ["room", "places"] (Zaj Zcq):=⟨rfl,rfl,rfl,by decide +kernel,rfl,by decide +kernel,by decide +kernel⟩
theorem ZqJ (F:Fun K "weights_of" "weights_of" Zcq f fd)(M:Txt mg)(Gsum_of_weights:Kn P w K mg base "sum_of_weights" 1 ["one", "other"] Zdj):ZbK P w K mg base CX0 2 f fd ["room", "places"] Zlb:=by
 have sc:=Zfs;refine F.ok sc (fun vs H Q E h=> ?_) (fun cdv A outer s H vs Q E hr h=> ?_)
 ·obtain⟨r,p,h,ps,W,wd,rfl,_⟩:=h;rfl
 ·obtain⟨r,p,h,ps,W,wd,rfl,h1,h2,h3,h4,h5,h6,k⟩:=h
  refine⟨_,(Zac (Zap (i:=2) sc.nd rfl (Or.inl rfl) (ZaC (Zat (K:=K)) (pv 1) (ZaC (Zat (K:=K)) (pv 0) Zae (fun _ _=>rfl)) (fun _ _=>rfl)) Zer)
   (Zac (Zbh Qa4 rfl (ZaT (ZcO ZdH (pv 0) (ZdG Zae) ZdF)) (Zal (i:=3) sc.nd rfl (Or.inl rfl))
   (Zai (Zap (i:=2) sc.nd rfl (Or.inl rfl) (Zag Gsum_of_weights hr rfl (Zaa (pv 2) (ZaD (ZaC (Zat (K:=K)) (pv 1) (pv 3) (fun _ _=>rfl)) Zad))))))
   (Zai (Zax (pv 2))))),?_⟩
  exact Zli (K:=K) h1 h2 h3 h4 h5 h6 k
abbrev Zbt:Stmt:=top 23
theorem Zeb:Zaw ["hall", "found", "places", "many", "weights"] ["hall"] (Zaj Zbt):=⟨rfl,rfl,rfl,by decide +kernel,rfl,by decide +kernel,by decide +kernel⟩
theorem ZrD (F:Fun K "sorts_walked" "sorts_walked" Zbt f fd)(M:Txt mg)(Grooms:Kn P w K mg base "rooms" 4 ["hall"] Zcc)(Gsorts:Kn P w K mg base "sorts" 1 ["weighing"] ZcX)(Gweights_of:Kn P w K mg base "weights_of" 2 ["room", "places"] Zlb):ZbK P w K mg base CX0 5 f fd ["hall"] ZmJ:=by
 have sc:=Zeb;refine F.ok sc (fun vs H Q E h=> ?_) (fun cdv A outer s H vs Q E hr h=> ?_)
 ·obtain⟨a,pa,pb,n,ps,L,ya,yb,rfl,_⟩:=h;rfl
 ·obtain⟨a,pa,pb,n,ps,L,ya,yb,rfl,x,hk,k⟩:=h
  refine⟨_,(Zac (Zap (i:=1) sc.nd rfl (Or.inl rfl) (Zag Grooms hr rfl (Zaa (pv 0) Zad)))
   (Zac (Zap (i:=2) sc.nd rfl (Or.inr rfl) (ZaO Zad))
   (Zac (Zbh Qa4 rfl (ZaT (ZaC (ZaJ (K:=K)) (pv 0) Zae (fun _ _=>rfl))) (Zce rfl (Zas (Zal (i:=3) sc.nd rfl (Or.inl rfl)) (Zas (Zal (i:=4) sc.nd rfl (Or.inl rfl)) Zbf)))
   (Zai (ZbH (ZdI Qa2 PySem.F.slot_list_extend PySem.F.type_list_extend Zjx (pv 2) (ZaM (Zau Znc (ZaO (Zaa (pv 4) Zad)) (pv 3)) Zad)))))
   (Zai (Zax (Zag Gsorts hr rfl (ZaA (Zbj (xs:=["room"]) (Nb:=["hall", "found", "places", "many", "weights"]) rfl (ZaT (pv 1)) rfl (by show∀p∈(List.zip ["hall", "found", "places", "many", "weights"] ["hall", "found", "places", "many", "weights"]:List (Str×Str)),_;decide +kernel) (by decide +kernel) (fun cl C s₂ H₂ fp=>(Zal (i:=0) (by show List.Nodup (["room", "hall", "found", "places", "many", "weights"]:List Str);decide +kernel) rfl (Or.inl (Qau rfl)) (Or.inr (Qau rfl)))) (fun cl C s₂ H₂ fp=>Za3) (fun cl C s₂ H₂ fp=>(Zcg (ZcQ Zae (Zag Gweights_of hr rfl (Zaa (pv 0) (Zaa (pv 3) Zad))) Zad))) (by decide +kernel) rfl (by decide +kernel) (by show∀y∈(_:List (Str×NameKind)),y.2=NameKind.free→(Zaj Zbt).names.lookup y.1=some .cell;decide +kernel)) Zad))))))),?_⟩
  exact ZmL (K:=K) x hk k
abbrev Zcd:Stmt:=top 35
theorem Zgj:Zaw ["_law_one", "_law_other"] ["_law_one", "_law_other"] (Zaj Zcd):=⟨rfl,rfl,rfl,by decide +kernel,rfl,by decide +kernel,by decide +kernel⟩
theorem Zpb (F:Fun K "_law_plus" "_law_plus" Zcd f fd)(M:Txt mg)(B:Gb mg):ZbK P w K mg base CX0 1 f fd ["_law_one", "_law_other"] Zdj:=by
 have sc:=Zgj;refine F.ok sc (fun vs H Q E h=> ?_) (fun cdv A outer s H vs Q E hr h=> ?_)
 ·obtain⟨a,b,u,v,rfl,_⟩:=h;rfl
 ·obtain⟨a,b,u,v,rfl,h1,h2,h3,h4,k⟩:=h;obtain⟨tmp,hmp⟩:=B.mp;refine⟨_,(Zai (Zax (ZaU ZbC (by rfl) M.tuple QfE (ZaA (Zbj (xs:=["_law_a", "_law_b"]) (Nb:=["_law_one", "_law_other"]) rfl (ZjX rfl B.zp (Zaa (pv 0) (Zaa (pv 1) Zad))) rfl (by show∀p∈(List.zip ["_law_one", "_law_other"] ["_law_one", "_law_other"]:List (Str×Str)),_;decide +kernel) (by decide +kernel) (fun cl C s₂ H₂ fp=>(ZgB (K:=K) (n:=2) rfl (Zas (Zal (i:=0) (by show List.Nodup (["_law_a", "_law_b", "_law_one", "_law_other"]:List Str);decide +kernel) rfl (Or.inl (Qau rfl)) (Or.inr (Qau rfl))) (Zas (Zal (i:=1) (by show List.Nodup (["_law_a", "_law_b", "_law_one", "_law_other"]:List Str);decide +kernel) rfl (Or.inl (Qau rfl)) (Or.inr (Qau rfl))) Zbf)))) (fun cl C s₂ H₂ fp=>Za3) (fun cl C s₂ H₂ fp=>(Zau ZaP (pv 0) (pv 1))) (by decide +kernel) rfl (by decide +kernel) (by show∀y∈(_:List (Str×NameKind)),y.2=NameKind.free→(Zaj Zcd).names.lookup y.1=some .cell;decide +kernel)) Zad)))),?_⟩;exact Zgd (K:=K) h1 h2 h3 h4 k
abbrev ZcL:Stmt:=top 34
theorem Zgk:Zaw ["_law_draw", "_law_most", "_law_n", "_law_pairings"] ["_law_draw", "_law_most"] (Zaj ZcL):=⟨rfl,rfl,rfl,by decide +kernel,rfl,by decide +kernel,by decide +kernel⟩
theorem Zpc (F:Fun K "_law_hall" "_law_hall" ZcL f fd)(M:Txt mg)(G_law_take:Kn P w K mg base "_law_take" 1 ["_law_draw", "_law_many"] Zd6)(G_law_hall_pairings:Kn P w K mg base "_law_hall_pairings" 2 ["_law_draw", "_law_n"] Zk8)(G_law_fitted:Kn P w K mg base "_law_fitted" 4 ["_law_draw", "_law_wide_here", "_law_long"] Zie)(G_law_wide:Kn P w K mg base "_law_wide" 2 ["_law_draw"] ZnN):ZbK P w K mg base CX0 5 f fd ["_law_draw", "_law_most"] Zhh:=by
 have sc:=Zgk;refine F.ok sc (fun vs H Q E h=> ?_) (fun cdv A outer s H vs Q E hr h=> ?_)
 ·obtain⟨d,m,rfl,_⟩:=h;rfl
 ·obtain⟨d,m,rfl,hP,h1,h2,k⟩:=h
  refine⟨_,(Zac (Zap (i:=2) sc.nd rfl (Or.inl rfl) (ZaC (Zat (K:=K)) (ZaO (ZcQ (Zag G_law_take hr rfl (Zaa (pv 0) (Zao Zae Zad))) (Zag G_law_take hr rfl (Zaa (pv 0) (ZaM (Zau ZaP (pv 1) Zae) Zad))) Zad)) (ZaU ZbU (by rfl) M.int QfA (ZaA (ZbP ZeI (Zag G_law_take hr rfl (Zaa (pv 0) (Zao Zae Zad))) Zae (ZaI _)) Zad)) (fun _ _=>rfl)) Zer)
   (Zac (Zap (i:=3) sc.nd rfl (Or.inl rfl) (Zag G_law_hall_pairings hr rfl (Zaa (pv 0) (Zaa (pv 2) Zad))))
   (Zai (Zax (Zcg (ZlQ (pv 2) (pv 3) (Zag G_law_fitted hr rfl (Zaa (pv 0) (ZaS (Zag G_law_wide hr rfl (Zaa (pv 0) Zad)) (Zaa (pv 2) Zad)))) Zad)))))),?_⟩
  exact Zhl (K:=K) hP h1 h2 k
abbrev Zby:Stmt:=top 36
theorem Zdd:Zaw ["_law_draw", "_law_pairings", "_law_made", "_law_spot", "_law_one", "_law_other", "_law_skip", "_law_far"] ["_law_draw", "_law_pairings"] (Zaj Zby):=⟨rfl,rfl,rfl,by decide +kernel,rfl,by decide +kernel,by decide +kernel⟩
theorem ZmZ (F:Fun K "_law_otherwise" "_law_otherwise" Zby f fd)(M:Txt mg)(G_law_take:Kn P w K mg base "_law_take" 1 ["_law_draw", "_law_many"] Zd6)(Gshort:Kn P w K mg base "short" 2 ["pairing", "skip", "many"] Zlv)(Gbehind:Kn P w K mg base "behind" 3 ["one", "other"] Zip):ZbK P w K mg base CX0 4 f fd ["_law_draw", "_law_pairings"] Zhi:=by
 have sc:=Zdd;refine F.ok sc (fun vs H Q E h=> ?_) (fun cdv A outer s H vs Q E hr h=> ?_)
 ·obtain⟨d,pa,n,ps,ya,rfl,_⟩:=h;rfl
 ·obtain⟨d,pa,n,ps,ya,rfl,h1,h2,h3,h4,h5,h6,h7,k⟩:=h
  refine⟨_,(Zac (Zap (i:=2) sc.nd rfl (Or.inl rfl) (ZaU ZfH (by rfl) M.list boot_list (Zaa (pv 1) Zad)))
   (Zac (Zbn (ZaG (Znd hr) (pv 2) (ZaO Zad) (ZaI _)) (Zai (Zax (pv 2))) ZaF)
   (Zac (Zap (i:=3) sc.nd rfl (Or.inl rfl) (Zag G_law_take hr rfl (Zaa (pv 0) (ZaS (Zaz (Za7 (K:=K)) (by rfl) M.len Qcg (Zaa (pv 2) Zad)) Zad))))
   (Zac (Zap (i:=4) sc.nd rfl (Or.inl rfl) (ZaC (Zat (K:=K)) (pv 2) (pv 3) (fun _ _=>rfl)) Zer)
   (Zac (Zap (i:=5) sc.nd rfl (Or.inl rfl) (ZaC (Zat (K:=K)) (pv 2) (Zag G_law_take hr rfl (Zaa (pv 0) (ZaS (Zaz (Za7 (K:=K)) (by rfl) M.len Qcg (Zaa (pv 2) Zad)) Zad))) (fun _ _=>rfl)) Zer)
   (Zac (Zap (i:=2) sc.nd rfl (Or.inl rfl) (Zau ZfJ (ZcO ZdH (pv 2) (ZdG (Zau ZaP (pv 3) Zae)) ZdF) (ZcO ZdH (pv 2) ZdF (ZdG (pv 3)))))
   (Zac (Zap (i:=6) sc.nd rfl (Or.inl rfl) (Zag G_law_take hr rfl (Zaa (pv 0) (ZaD (ZaC (ZaJ (K:=K)) (pv 4) Zae (fun _ _=>rfl)) Zad))))
   (Zac (Zbn (ZaG Zgu (pv 6) Zae (ZaI _)) (Zai (Zap (i:=2) sc.nd rfl (Or.inl rfl) (Zau ZfJ (pv 2) (ZaO (ZaS (Zag Gshort hr rfl (Zaa (pv 4) (Zao Zae (Zaa (pv 6) Zad)))) Zad))))) ZaF)
   (Zac (Zap (i:=2) sc.nd rfl (Or.inl rfl) (Zau ZfJ (pv 2) (ZaO (ZaS (Zag Gshort hr rfl (Zaa (pv 4) (Zaa (pv 6) (ZaM (Zau Zbz (ZaC (ZaJ (K:=K)) (pv 4) Zae (fun _ _=>rfl)) (pv 6)) Zad)))) Zad))))
   (Zac (Zap (i:=7) sc.nd rfl (Or.inl rfl) (Zag Gbehind hr rfl (Zaa (pv 4) (Zaa (pv 5) Zad))))
   (Zac (Zbn (Zm4 (Zji (pv 7))) (Zai (Zap (i:=2) sc.nd rfl (Or.inl rfl) (Zau ZfJ (ZaO (Zaa (pv 7) Zad)) (pv 2)))) ZaF)
   (Zac (Zbn (PW.pt (Zjj (ZaG ZeI (Zag G_law_take hr rfl (Zaa (pv 0) (Zao Zae Zad))) Zae (ZaI _)) (Zgs (ZaG Zit (Zaz (Za7 (K:=K)) (by rfl) M.len Qcg (Zaa (pv 2) Zad)) Zae (ZaI _))))) (Zai (ZbH (ZdI Qa2 Qbe Qbf Za6 (pv 2) (Zaa (pv 5) Zad)))) ZaF)
   (Zai (Zax (pv 2))))))))))))))),?_⟩
  exact Zhm (K:=K) h1 h2 h3 h4 h5 h6 h7 k
abbrev ZbM:Stmt:=top 37
theorem Zft:Zaw ["_law_told", "_law_wide_here", "_law_total_here", "_law_weights_here", "_law_many"] ["_law_told", "_law_wide_here"] (Zaj ZbM):=⟨rfl,rfl,rfl,by decide +kernel,rfl,by decide +kernel,by decide +kernel⟩
theorem Zm0 (F:Fun K "_law_total" "_law_total" ZbM f fd)(M:Txt mg)(G_law_plus:Kn P w K mg base "_law_plus" 1 ["_law_one", "_law_other"] Zdj):ZbK P w K mg base CX0 2 f fd ["_law_told", "_law_wide_here"] Zij:=by
 have sc:=Zft;refine F.ok sc (fun vs H Q E h=> ?_) (fun cdv A outer s H vs Q E hr h=> ?_)
 ·obtain⟨l,wd,ps,ws,rfl,_⟩:=h;rfl
 ·obtain⟨l,wd,ps,ws,rfl,h1,h2,h3,h4,h5,h6,k⟩:=h
  refine⟨_,(Zac (Zap (i:=2) sc.nd rfl (Or.inl rfl) (Zau ZhR (Zcg (Zao Zae Zad)) (pv 1)))
   (Zac (Zbh Qa4 rfl (ZaT (pv 0)) (Zce rfl (Zas (Zal (i:=3) sc.nd rfl (Or.inl rfl)) (Zas (Zal (i:=4) sc.nd rfl (Or.inr rfl)) Zbf)))
   (Zai (Zap (i:=2) sc.nd rfl (Or.inl rfl) (Zag G_law_plus hr rfl (Zaa (pv 2) (ZaS (ZaU ZbC (by rfl) M.tuple QfE (ZaA (Zbj (xs:=["_law_weight"]) (Nb:=["_law_told", "_law_wide_here", "_law_total_here", "_law_weights_here", "_law_many"]) rfl (Zpt (pv 3)) rfl (by show∀p∈(List.zip ["_law_told", "_law_wide_here", "_law_total_here", "_law_weights_here", "_law_many"] ["_law_told", "_law_wide_here", "_law_total_here", "_law_weights_here", "_law_many"]:List (Str×Str)),_;decide +kernel) (by decide +kernel) (fun cl C s₂ H₂ fp=>(Zal (i:=0) (by show List.Nodup (["_law_weight", "_law_told", "_law_wide_here", "_law_total_here", "_law_weights_here", "_law_many"]:List Str);decide +kernel) rfl (Or.inl (Qau rfl)) (Or.inr (Qau rfl)))) (fun cl C s₂ H₂ fp=>Za3) (fun cl C s₂ H₂ fp=>(Zau Zol (pv 5) (pv 0))) (by decide +kernel) rfl (by decide +kernel) (by show∀y∈(_:List (Str×NameKind)),y.2=NameKind.free→(Zaj ZbM).names.lookup y.1=some .cell;decide +kernel)) Zad)) Zad))))))
   (Zai (Zax (pv 2))))),?_⟩
  exact Zi2 (K:=K) h1 h2 h3 h4 h5 h6 k
abbrev Zbe:Stmt:=top 38
theorem Zde:Zaw ["_law_hall_here", "_law_room", "_law_wide_here", "_law_total_here", "_law_place", "_law_pairing"] ["_law_hall_here", "_law_room", "_law_wide_here"] (Zaj Zbe):=⟨rfl,rfl,rfl,by decide +kernel,rfl,by decide +kernel,by decide +kernel⟩
theorem Zm1 (F:Fun K "_law_room_good" "_law_room_good" Zbe f fd)(M:Txt mg)(Gpartners:Kn P w K mg base "partners" 3 ["pairing", "place"] ZeF)(G_law_plus:Kn P w K mg base "_law_plus" 1 ["_law_one", "_law_other"] Zdj)(Gweights_at:Kn P w K mg base "weights_at" 1 ["weighing", "place"] (Zsa K)):ZbK P w K mg base CX0 4 f fd ["_law_hall_here", "_law_room", "_law_wide_here"] Zhj:=by
 have sc:=Zde;refine F.ok sc (fun vs H Q E h=> ?_) (fun cdv A outer s H vs Q E hr h=> ?_)
 ·obtain⟨a,r,pa,pb,n,ps,L,ya,yb,h,wd,rfl,_⟩:=h;rfl
 ·obtain⟨a,r,pa,pb,n,ps,L,ya,yb,h,wd,rfl,h1,h2,h3,k⟩:=h
  refine⟨_,(Zac (Zap (i:=3) sc.nd rfl (Or.inl rfl) (Zau ZhR (Zcg (Zao Zae Zad)) (pv 2)))
   (Zac (Zbh Qa4 rfl (ZaT (pv 1)) (Zal (i:=4) sc.nd rfl (Or.inl rfl))
   (Zac (Zbh Qa4 rfl (ZaT (ZaC (ZaJ (K:=K)) (pv 0) Zae (fun _ _=>rfl))) (Zal (i:=5) sc.nd rfl (Or.inl rfl))
   (Zai (Zbn (Zfw (Zem (Zaz (ZhL rfl) (by rfl) M.all boot_all (ZaA (Zbj (xs:=["_law_other"]) (Nb:=["_law_hall_here", "_law_room", "_law_wide_here", "_law_total_here", "_law_place", "_law_pairing"]) rfl (ZaT (Zag Gpartners hr rfl (Zaa (pv 5) (Zaa (pv 4) Zad)))) rfl (by show∀p∈(List.zip ["_law_hall_here", "_law_room", "_law_wide_here", "_law_total_here", "_law_place", "_law_pairing"] ["_law_hall_here", "_law_room", "_law_wide_here", "_law_total_here", "_law_place", "_law_pairing"]:List (Str×Str)),_;decide +kernel) (by decide +kernel) (fun cl C s₂ H₂ fp=>(Zal (i:=0) (by show List.Nodup (["_law_other", "_law_hall_here", "_law_room", "_law_wide_here", "_law_total_here", "_law_place", "_law_pairing"]:List Str);decide +kernel) rfl (Or.inl (Qau rfl)) (Or.inr (Qau rfl)))) (fun cl C s₂ H₂ fp=>Za3) (fun cl C s₂ H₂ fp=>(ZbP (Zqd (K:=K)) (pv 0) (pv 2) rfl)) (by decide +kernel) rfl (by decide +kernel) (by show∀y∈(_:List (Str×NameKind)),y.2=NameKind.free→(Zaj Zbe).names.lookup y.1=some .cell;decide +kernel)) Zad)))) (Zai (Zax ZhA)) ZaF)))
   (Zai (Zap (i:=3) sc.nd rfl (Or.inl rfl) (Zag G_law_plus hr rfl (Zaa (pv 3) (ZaS (Zag Gweights_at hr rfl (ZaD (ZaC (ZaJ (K:=K)) (pv 0) Zae (fun _ _=>rfl)) (Zaa (pv 4) Zad))) Zad)))))))
   (Zai (Zax (pv 3))))),?_⟩
  exact Zhp (K:=K) h1 h2 h3 k
abbrev Zbx:Stmt:=top 39
theorem Zfu:Zaw ["_law_few", "_law_rooms_now", "_law_homes", "_law_k", "_law_room", "_law_place"] ["_law_few", "_law_rooms_now"] (Zaj Zbx):=⟨rfl,rfl,rfl,by decide +kernel,rfl,by decide +kernel,by decide +kernel⟩
theorem Zm2 (F:Fun K "_law_grown" "_law_grown" Zbx f fd)(M:Txt mg)(B:Gb mg):ZbK P w K mg base CX0 1 f fd ["_law_few", "_law_rooms_now"] Zhk:=by
 have sc:=Zfu;refine F.ok sc (fun vs H Q E h=> ?_) (fun cdv A outer s H vs Q E hr h=> ?_)
 ·obtain⟨f,r,xf,xr,gs,hs,rfl,_⟩:=h;rfl
 ·obtain⟨f,r,xf,xr,gs,hs,rfl,h1,h2,h3,h4,h5,k⟩:=h;obtain⟨tmp,hmp⟩:=B.mp
  refine⟨_,(Zac (Zap (i:=2) sc.nd rfl (Or.inr rfl) Zl4)
   (Zac (Zbh Qa4 rfl (Zok rfl B.en (Zaa (pv 1) Zad)) (Zce rfl (Zas (Zal (i:=3) sc.nd rfl (Or.inl rfl)) (Zas (Zal (i:=4) sc.nd rfl (Or.inl rfl)) Zbf)))
   (Zai (Zbh Qa4 rfl (ZaT (pv 4)) (Zal (i:=5) sc.nd rfl (Or.inl rfl))
   (Zai (Zj8 (ZlM hr) (pv 2) (pv 5) (pv 3) rfl)))))
   (Zai (Zax (Zaz (ZhL rfl) (by rfl) M.all boot_all (ZaA (Zbj (xs:=["_law_room"]) (Nb:=["_law_few", "_law_rooms_now", "_law_homes", "_law_k", "", "_law_place"]) rfl (ZaT (pv 0)) rfl (by show∀p∈(List.zip ["_law_few", "_law_rooms_now", "_law_homes", "_law_k", "", "_law_place"] ["_law_few", "_law_rooms_now", "_law_homes", "_law_k", "_law_room", "_law_place"]:List (Str×Str)),_;decide +kernel) (by decide +kernel) (fun cl C s₂ H₂ fp=>(Zal (i:=0) (by show List.Nodup (["_law_room", "_law_few", "_law_rooms_now", "_law_homes", "_law_k", "", "_law_place"]:List Str);decide +kernel) rfl (Or.inl (Qau rfl)) (Or.inr (Qau rfl)))) (fun cl C s₂ H₂ fp=>Za3) (fun cl C s₂ H₂ fp=>(ZbP ZeI (ZkU (K:=K) rfl (Zbj (xs:=["_law_place"]) (Nb:=["_law_room", "_law_few", "_law_rooms_now", "_law_homes", "_law_k", "", " "]) rfl (Zh8 (K:=K) (pv 0)) rfl (by show∀p∈(List.zip ["_law_room", "_law_few", "_law_rooms_now", "_law_homes", "_law_k", "", " "] ["_law_room", "_law_few", "_law_rooms_now", "_law_homes", "_law_k", "", "_law_place"]:List (Str×Str)),_;decide +kernel) (by decide +kernel) (fun cl C s₂ H₂ fp=>(Zal (i:=0) (by show List.Nodup (["_law_place", "_law_room", "_law_few", "_law_rooms_now", "_law_homes", "_law_k", "", " "]:List Str);decide +kernel) rfl (Or.inl (Qau rfl)) (Or.inr (Qau rfl)))) (fun cl C s₂ H₂ fp=>Za3) (fun cl C s₂ H₂ fp=>(Zoj (ZlM hr) (pv 4) (pv 0) (fun _ _=>rfl))) (by decide +kernel) rfl (by decide +kernel) (ZoL (L:=(Zaj Zbx).names) rfl rfl (by decide +kernel))) rfl M.len rfl B.st) Zae (ZaI _))) (by decide +kernel) rfl (by decide +kernel) (by show∀y∈(_:List (Str×NameKind)),y.2=NameKind.free→(Zaj Zbx).names.lookup y.1=some .cell;decide +kernel)) Zad)))))),?_⟩
  exact Zhq (K:=K) h1 h2 h3 h4 h5 k
abbrev Zbr:Stmt:=top 40
theorem Zgl:Zaw ["_law_draw", "_law_hall_here", "_law_wide_here", "_law_n", "_law_pairings", "_law_weighing", "_law_told", "_law_some", "_law_made", "_law_every", "_law_room", "_law_weights_here"] ["_law_draw", "_law_hall_here", "_law_wide_here"] (Zaj Zbr):=⟨rfl,rfl,rfl,by decide +kernel,rfl,by decide +kernel,by decide +kernel⟩
theorem Zpd (F:Fun K "_law_good" "_law_good" Zbr f fd)(M:Txt mg)(Grooms:Kn P w K mg base "rooms" 4 ["hall"] Zcc)(Gsorts_walked:Kn P w K mg base "sorts_walked" 5 ["hall"] ZmJ)(G_law_otherwise:Kn P w K mg base "_law_otherwise" 4 ["_law_draw", "_law_pairings"] Zhi)(G_law_total:Kn P w K mg base "_law_total" 2 ["_law_told", "_law_wide_here"] Zij)(Gsorts:Kn P w K mg base "sorts" 1 ["weighing"] ZcX)(G_law_room_good:Kn P w K mg base "_law_room_good" 4 ["_law_hall_here", "_law_room", "_law_wide_here"] Zhj)(G_law_grown:Kn P w K mg base "_law_grown" 1 ["_law_few", "_law_rooms_now"] Zhk)(B:Gb mg):ZbK P w K mg base CX0 6 f fd ["_law_draw", "_law_hall_here", "_law_wide_here"] ZdD:=by
 have sc:=Zgl;refine F.ok sc (fun vs H Q E h=> ?_) (fun cdv A outer s H vs Q E hr h=> ?_)
 ·obtain⟨d,a,pa,pb,n,ps,L,ya,yb,wd,rfl,_⟩:=h;rfl
 ·obtain⟨d,a,pa,pb,n,ps,L,ya,yb,wd,rfl,h1,h2,h3,h4,h5,h6,h7,h8,k⟩:=h;obtain⟨tmp,hmp⟩:=B.mp
  refine⟨_,(Zac (ZcM (pv 1) (Zce rfl (Zas (Zal (i:=3) sc.nd rfl (Or.inl rfl)) (Zas (Zal (i:=4) sc.nd rfl (Or.inl rfl)) (Zas (Zal (i:=5) sc.nd rfl (Or.inl rfl)) Zbf)))))
   (Zac (Zap (i:=6) sc.nd rfl (Or.inl rfl) (Zag Grooms hr rfl (Zaa (pv 1) Zad)))
   (Zac (Zap (i:=7) sc.nd rfl (Or.inl rfl) (Zag Gsorts_walked hr rfl (Zaa (pv 1) Zad)))
   (Zac (Zap (i:=8) sc.nd rfl (Or.inl rfl) (Zcg (ZlQ (pv 3) (ZcO ZdH (Zag G_law_otherwise hr rfl (Zaa (pv 0) (Zaa (pv 4) Zad))) ZdF (ZdG Zae)) (pv 5) Zad)))
   (Zac (Zbn (PW.pt (Zjj (ZaG Zit (Zaz (Za7 (K:=K)) (by rfl) M.len Qcg (ZaD (ZaC (ZaJ (K:=K)) (pv 8) Zae (fun _ _=>rfl)) Zad)) Zae (ZaI _)) (Zgs (PW.pt (Zpq (ZaG (ZdK hr) (Zag Grooms hr rfl (Zaa (pv 8) Zad)) (pv 6) (ZaI _)) (Zm5 (ZaG (ZdK hr) (Zag Gsorts_walked hr rfl (Zaa (pv 8) Zad)) (pv 7) (ZaI _)))))))) (Zai (Zax Zec)) ZaF)
   (Zac (Zbn (ZaG Zpw (Zaz (ZlP rfl) (by rfl) M.sum boot_sum (ZaA (Zbj (xs:=["_law_weights_here", "_law_many"]) (Nb:=["_law_draw", "_law_hall_here", "_law_wide_here", "_law_n", "_law_pairings", "_law_weighing", "_law_told", "_law_some", "_law_made", "_law_every", "_law_room", ""]) rfl (ZaT (pv 7)) rfl (by show∀p∈(List.zip ["_law_draw", "_law_hall_here", "_law_wide_here", "_law_n", "_law_pairings", "_law_weighing", "_law_told", "_law_some", "_law_made", "_law_every", "_law_room", ""] ["_law_draw", "_law_hall_here", "_law_wide_here", "_law_n", "_law_pairings", "_law_weighing", "_law_told", "_law_some", "_law_made", "_law_every", "_law_room", "_law_weights_here"]:List (Str×Str)),_;decide +kernel) (by decide +kernel) (fun cl C s₂ H₂ fp=>(ZgB (K:=K) (n:=2) rfl (Zas (Zal (i:=0) (by show List.Nodup (["_law_weights_here", "_law_many", "_law_draw", "_law_hall_here", "_law_wide_here", "_law_n", "_law_pairings", "_law_weighing", "_law_told", "_law_some", "_law_made", "_law_every", "_law_room", ""]:List Str);decide +kernel) rfl (Or.inl (Qau rfl)) (Or.inr (Qau rfl))) (Zas (Zal (i:=1) (by show List.Nodup (["_law_weights_here", "_law_many", "_law_draw", "_law_hall_here", "_law_wide_here", "_law_n", "_law_pairings", "_law_weighing", "_law_told", "_law_some", "_law_made", "_law_every", "_law_room", ""]:List Str);decide +kernel) rfl (Or.inl (Qau rfl)) (Or.inr (Qau rfl))) Zbf)))) (fun cl C s₂ H₂ fp=>Za3) (fun cl C s₂ H₂ fp=>(pv 1)) (by decide +kernel) rfl (by decide +kernel) (by show∀y∈(_:List (Str×NameKind)),y.2=NameKind.free→(Zaj Zbr).names.lookup y.1=some .cell;decide +kernel)) Zad)) (Zaz (Za7 (K:=K)) (by rfl) M.len Qcg (Zaa (pv 6) Zad)) (ZaI _)) (Zai (Zax Zec)) ZaF)
   (Zac (Zbn (ZaG (ZdK hr) (Zag G_law_total hr rfl (Zaa (pv 7) (Zaa (pv 2) Zad))) (Zag G_law_total hr rfl (ZaS (Zag Gsorts hr rfl (Zaa (pv 5) Zad)) (Zaa (pv 2) Zad))) (ZaI _)) (Zai (Zax Zec)) ZaF)
   (Zac (Zap (i:=9) sc.nd rfl (Or.inl rfl) (ZaO Zad))
   (Zac (Zbh Qa4 rfl (ZaT (pv 6)) (Zal (i:=10) sc.nd rfl (Or.inl rfl))
   (Zai (Zap (i:=9) sc.nd rfl (Or.inl rfl) (Zau ZfJ (pv 9) (pv 10)))))
   (Zac (Zbn (ZaG (ZdK hr) (Zaz Zdi (by rfl) M.sorted boot_sorted (Zaa (pv 9) Zad)) (ZaU (Zeh rfl) (by rfl) M.list boot_list (ZaS (ZaU ZgA (by rfl) M.range boot_range (Zaa (pv 3) Zad)) Zad)) (ZaI _)) (Zai (Zax Zec)) ZaF)
   (Zac (ZeQ (xs:=["_law_room"]) (Nb:=["_law_draw", "_law_hall_here", "_law_wide_here", "_law_n", "_law_pairings", "_law_weighing", "_law_told", "_law_some", "_law_made", "_law_every", "", "_law_weights_here"]) (Zal (i:=11) sc.nd rfl (Or.inl rfl)) rfl rfl (ZaT (pv 6)) rfl (by show∀p∈(List.zip ["_law_draw", "_law_hall_here", "_law_wide_here", "_law_n", "_law_pairings", "_law_weighing", "_law_told", "_law_some", "_law_made", "_law_every", "", "_law_weights_here"] ["_law_draw", "_law_hall_here", "_law_wide_here", "_law_n", "_law_pairings", "_law_weighing", "_law_told", "_law_some", "_law_made", "_law_every", "_law_room", "_law_weights_here"]:List (Str×Str)),_;decide +kernel) (by decide +kernel) (fun cl C s₂ H₂ fp=>(Zal (i:=0) (by show List.Nodup (["_law_room", "_law_draw", "_law_hall_here", "_law_wide_here", "_law_n", "_law_pairings", "_law_weighing", "_law_told", "_law_some", "_law_made", "_law_every", "", "_law_weights_here"]:List Str);decide +kernel) rfl (Or.inl (Qau rfl)) (Or.inr (Qau rfl)))) (fun cl C s₂ H₂ fp=>Za3) (fun cl C s₂ H₂ fp=>(Zag G_law_room_good hr rfl (Zaa (pv 2) (Zaa (pv 0) (Zaa (pv 3) Zad))))) (by decide +kernel) rfl (by decide +kernel) (by show∀y∈(_:List (Str×NameKind)),y.2=NameKind.free→(Zaj Zbr).names.lookup y.1=some .cell;decide +kernel))
   (Zac (Zbn (PW.pt (Zpq (ZaG (ZoM (K:=K) hr) ZhA (pv 11) rfl) (Zm5 (ZaG (ZdK hr) (Ze8 hr rfl (pv 11) rfl M.sorted rfl B.st) (Zbj (xs:=["_law_one"]) (Nb:=["_law_draw", "_law_hall_here", "_law_wide_here", "_law_n", "_law_pairings", "_law_weighing", "_law_told", "_law_some", "_law_made", "_law_every", "_law_room", "_law_weights_here"]) rfl (ZaT (pv 7)) rfl (by show∀p∈(List.zip ["_law_draw", "_law_hall_here", "_law_wide_here", "_law_n", "_law_pairings", "_law_weighing", "_law_told", "_law_some", "_law_made", "_law_every", "_law_room", "_law_weights_here"] ["_law_draw", "_law_hall_here", "_law_wide_here", "_law_n", "_law_pairings", "_law_weighing", "_law_told", "_law_some", "_law_made", "_law_every", "_law_room", "_law_weights_here"]:List (Str×Str)),_;decide +kernel) (by decide +kernel) (fun cl C s₂ H₂ fp=>(Zal (i:=0) (by show List.Nodup (["_law_one", "_law_draw", "_law_hall_here", "_law_wide_here", "_law_n", "_law_pairings", "_law_weighing", "_law_told", "_law_some", "_law_made", "_law_every", "_law_room", "_law_weights_here"]:List Str);decide +kernel) rfl (Or.inl (Qau rfl)) (Or.inr (Qau rfl)))) (fun cl C s₂ H₂ fp=>Za3) (fun cl C s₂ H₂ fp=>(ZaC (ZaJ (K:=K)) (pv 0) Zae (fun _ _=>rfl))) (by decide +kernel) rfl (by decide +kernel) (by show∀y∈(_:List (Str×NameKind)),y.2=NameKind.free→(Zaj Zbr).names.lookup y.1=some .cell;decide +kernel)) (ZaI _))))) (Zai (Zax Zec)) ZaF)
   (Zai (Zax (Zag G_law_grown hr rfl (ZaS (Zag Grooms hr rfl (Zdr (Zcg (ZlQ (pv 3) (ZcO ZdH (pv 4) (ZdG Zae) ZdF) (pv 5) Zad)) Zad)) (Zaa (pv 6) Zad))))))))))))))))),?_⟩
  exact Zgh (K:=K) h1 h2 h3 h4 h5 h6 h7 h8 k
end
section
variable {K:PySem.W.Frag}
def Zm3 (K:PySem.W.Frag):Sp:=fun vs H Q _=>∃(a:Addr) (ns:List Int),vs=[.ref a]∧SqL K H a (ns.map V.int)∧ns.length≤63∧∀H',Q (.bl true) H'
abbrev Zi4:Stmt:=top 41
theorem ZqK:Zaw ["_law_script", "_law_k", "_law_draw", "_law_hall_here", "_law_wide_here"] ["_law_script"] (Zaj Zi4):=⟨rfl,rfl,rfl,by decide +kernel,rfl,by decide +kernel,by decide +kernel⟩
theorem ZqL (F:Fun K "law" "law" Zi4 f fd)(M:Txt mg)(G_law_purse:Kn P w K mg base "_law_purse" 2 ["_law_script", "_law_at"] (ZkV K))(G_law_hall:Kn P w K mg base "_law_hall" 5 ["_law_draw", "_law_most"] Zhh)(G_law_good:Kn P w K mg base "_law_good" 6 ["_law_draw", "_law_hall_here", "_law_wide_here"] ZdD):ZbK P w K mg base CX0 7 f fd ["_law_script"] (Zm3 K):=by
 have sc:=ZqK;refine F.ok sc (fun vs H Q E h=> ?_) (fun cdv A outer s H vs Q E hr h=> ?_)
 ·obtain⟨a,ns,rfl,_⟩:=h;rfl
 ·obtain⟨a,ns,rfl,hS,hl,k⟩:=h
  refine⟨_,(Zac (Zbh Qa4 rfl (Zbg rfl M.range (ZaM (Zau ZaP Zae (Zaz (Zbu rfl) (by rfl) M.min QeN (Zao Zae (ZaS (Zaz (Za7 (K:=K)) (by rfl) M.len Qcg (Zaa (pv 0) Zad)) Zad)))) Zad)) (Zal (i:=1) sc.nd rfl (Or.inl rfl))
   (Zac (Zap (i:=2) sc.nd rfl (Or.inl rfl) (Zag G_law_purse hr rfl (Zaa (pv 0) (Zaa (pv 1) Zad))))
   (Zac (Zap (i:=3) sc.nd rfl (Or.inl rfl) (Zag G_law_hall hr rfl (Zaa (pv 2) (ZaD (ZaC (Zat (K:=K)) (ZaO (ZcQ Zae Zae Zad)) (ZaU ZbU (by rfl) M.int QfA (ZaA (ZbP Zgu (pv 1) Zae (ZaI _)) Zad)) (fun _ _=>rfl)) Zad))))
   (Zac (Zap (i:=4) sc.nd rfl (Or.inl rfl) Zae)
   (Zac (Zbn (ZaG (ZdK hr) (ZaC (ZaJ (K:=K)) (pv 3) Zae (fun _ _=>rfl)) (ZaO Zad) (ZaI _)) (Zai (Zap (i:=4) sc.nd rfl (Or.inl rfl) (Zaz (Za7 (K:=K)) (by rfl) M.len Qcg (ZaD (ZaC (ZaJ (K:=K)) (ZaC (Zat (K:=K)) (ZaC (ZaJ (K:=K)) (pv 3) Zae (fun _ _=>rfl)) Zae (fun _ _=>rfl)) Zae (fun _ _=>rfl)) Zad)))) ZaF)
   (Zai (Zbn (Zfw (Zem (Zag G_law_good hr rfl (Zaa (pv 2) (Zaa (pv 3) (Zaa (pv 4) Zad)))))) (Zai (Zax Zec)) ZaF)))))))
   (Zai (Zax Zec))),?_⟩
  exact Zht (K:=K) hS k
end
structure FnI (K:PySem.W.Frag)(x:Str)(st:Stmt)(f:Addr):Prop where
 a:PySem.W.nsIn K mainGlobals x=some (some (.ref f))
 l:∃(oc:Value) (od:Option Addr) (kV dc pm:Value) (an:Option Addr) (cd ct:Value) (sl:Array (Option Value)),K.lookup f=some ⟨oc,od,.func (PySem.W.fnOf x x (ZcF st) (Zci st) (Zaj st) .none kV dc pm an cd ct),sl⟩∧PySem.W.codeIn K cd x=true
 k:PySem.W.keepIn K (.ref f)=true
theorem FnI.kn {K:PySem.W.Frag}{x:Str}{st:Stmt}{k:Nat}{ps:List Str}{sp:Sp}(i:FnI K x st f)(X:K.In h)(G:h.Ns mainGlobals mg)(ok:∀fd,Fun K x x st f fd→ZbK P w K mg base CX0 k f fd ps sp)
  (hb:∀(kV doc pm:Value) (an:Option Addr) (cdv ct:Value) (us:List Value),us.length=ps.length→bindArgs (PySem.W.fnOf x x (ZcF st) (Zci st) (Zaj st) .none kV doc pm an cdv ct) ⟨us,[]⟩=pure (ps.zip us)):Kn P w K mg base x k ps sp:=by
 obtain⟨oc,od,kV,dc,pm,an,cd,ct,sl,l,c⟩:=i.l;exact⟨⟨f,_,ok _ (ZjA l c i.k),QfB X G i.a,i.k,(ZjA l c i.k).binds hb⟩⟩
theorem all_mk {K:PySem.W.Frag}{fa f0 f1 f2 f3 f4 f5 f6 f7 f8 f9 f10 f11 f12 f13 f14 f15 f16 f17 f18 f19 f20 f21 f22 f23 f24 f25 f26 f27 f28 f29 f30 f31 f32 f33:Addr}{qD:Tok}(X:K.In h)(G:h.Ns mainGlobals mg)(hfa:mg "law" =some (.ref fa))
  (a0:FnI K "paired" Zff f0) (a1:FnI K "led" ZoR f1) (a2:FnI K "forth" Zg9 f2) (a3:FnI K "back" Zk1 f3) (a4:FnI K "partners" Zcz f4) (a5:FnI K "short" Zhw f5) (a6:FnI K "behind" Zfo f6) (a7:FnI K "weights_at" Zco f7) (a8:FnI K "sum_of_weights" Zbd f8) (a9:FnI K "sorts" Zhy f9) (a10:FnI K "beside_each" ZbG f10) (a11:FnI K "room_from" ZcK f11) (a12:FnI K "linked" Zfq f12) (a13:FnI K "links_of" ZcA f13) (a14:FnI K "rooms" Zfr f14) (a15:FnI K "weights_of" Zcq f15) (a16:FnI K "sorts_walked" Zbt f16) (a17:FnI K "_law_cell_at" ZbQ f17) (a18:FnI K "_law_purse" Zcm f18) (a19:FnI K "_law_take" ZcI f19) (a20:FnI K "_law_number" Zcb f20) (a21:FnI K "_law_weights" Zbs f21) (a22:FnI K "_law_shape" Zcn f22) (a23:FnI K "_law_wide" ZcJ f23) (a24:FnI K "_law_fitted" ZbE f24) (a25:FnI K "_law_hall_pairings" Za5 f25) (a26:FnI K "_law_hall" ZcL f26) (a27:FnI K "_law_plus" Zcd f27) (a28:FnI K "_law_otherwise" Zby f28) (a29:FnI K "_law_total" ZbM f29) (a30:FnI K "_law_room_good" Zbe f30) (a31:FnI K "_law_grown" Zbx f31) (a32:FnI K "_law_good" Zbr f32) (a33:FnI K "law" Zi4 f33) (qw:PySem.W.nsIn K mainGlobals "MOST_PLACES" =some (some (.int 2000 qD))) (g_zip:PySem.W.nsIn K mainGlobals "zip" =some none) (g_set:PySem.W.nsIn K mainGlobals "set" =some none) (qA:PySem.W.nsIn K mainGlobals "enumerate" =some none) (z_len:PySem.W.nsIn K mainGlobals "len" =some none) (z_range:PySem.W.nsIn K mainGlobals "range" =some none) (z_min:PySem.W.nsIn K mainGlobals "min" =some none) (z_max:PySem.W.nsIn K mainGlobals "max" =some none) (qy:PySem.W.nsIn K mainGlobals "isinstance" =some none) (z_bool:PySem.W.nsIn K mainGlobals "bool" =some none) (z_int:PySem.W.nsIn K mainGlobals "int" =some none) (z_tuple:PySem.W.nsIn K mainGlobals "tuple" =some none) (z_list:PySem.W.nsIn K mainGlobals "list" =some none) (z_str:PySem.W.nsIn K mainGlobals "str" =some none) (z_all:PySem.W.nsIn K mainGlobals "all" =some none) (z_sum:PySem.W.nsIn K mainGlobals "sum" =some none) (z_sorted:PySem.W.nsIn K mainGlobals "sorted" =some none):
  ∃fd:FuncData,(∀(s:Shared) (v:Value),BindsTo s fd ⟨[v],[]⟩ [("_law_script",v)])∧∀base:Heap,K.In base→base.Ns mainGlobals mg→ZbK l.prog w K mg base CX0 7 fa fd ["_law_script"] (Zm3 K):=by
 have e:=hfa.symm.trans (QfB X G a33.a);cases e;have n {x:Str} (z:PySem.W.nsIn K mainGlobals x=some none):=PySem.W.mg_none_of X G z;have M:Txt mg:=⟨n z_len,n z_range,n z_min,n z_max,n qy,n z_bool,n z_int,n z_tuple,n z_list,n z_str,n z_all,n z_sum,n z_sorted⟩;have GB:Gb mg:=⟨⟨_,QfB X G qw⟩,n g_zip,n g_set,n qA⟩;obtain⟨oc,od,kV,dc,pm,an,cd,ct,sl,l1,c1⟩:=a33.l;refine⟨PySem.W.fnOf "law" "law" (ZcF Zi4) (Zci Zi4) (Zaj Zi4) .none kV dc pm an cd ct,fun s v=> .of_eq rfl,fun base _ _=> ?_⟩;have G_law_cell_at:=a17.kn (P:=l.prog) (w:=w) (base:=base) X G (fun _ F=>ZoO F M ) fun _ _ _ _ _ _ us hl=>match us,hl with| [_,_],_=>rfl
 have G_law_purse:=a18.kn (P:=l.prog) (w:=w) (base:=base) X G (fun _ F=>Zmy F M G_law_cell_at) fun _ _ _ _ _ _ us hl=>match us,hl with| [_,_],_=>rfl
 have G_law_take:=a19.kn (P:=l.prog) (w:=w) (base:=base) X G (fun _ F=>ZoP F M ) fun _ _ _ _ _ _ us hl=>match us,hl with| [_,_],_=>rfl
 have G_law_number:=a20.kn (P:=l.prog) (w:=w) (base:=base) X G (fun _ F=>ZkW F M G_law_take) fun _ _ _ _ _ _ us hl=>match us,hl with| [_],_=>rfl
 have G_law_weights:=a21.kn (P:=l.prog) (w:=w) (base:=base) X G (fun _ F=>ZiW F M G_law_number) fun _ _ _ _ _ _ us hl=>match us,hl with| [_,_],_=>rfl
 have G_law_shape:=a22.kn (P:=l.prog) (w:=w) (base:=base) X G (fun _ F=>Zmz F M ) fun _ _ _ _ _ _ us hl=>match us,hl with| [_],_=>rfl
 have G_law_wide:=a23.kn (P:=l.prog) (w:=w) (base:=base) X G (fun _ F=>ZoQ F M G_law_take) fun _ _ _ _ _ _ us hl=>match us,hl with| [_],_=>rfl
 have G_law_fitted:=a24.kn (P:=l.prog) (w:=w) (base:=base) X G (fun _ F=>Zk0 F M G_law_take G_law_weights G_law_shape GB) fun _ _ _ _ _ _ us hl=>match us,hl with| [_,_,_],_=>rfl
 have Gpaired:=a0.kn (P:=l.prog) (w:=w) (base:=base) X G (fun _ F=>Zk4 F M ) fun _ _ _ _ _ _ us hl=>match us,hl with| [_,_,_,_],_=>rfl
 have Gled:=a1.kn (P:=l.prog) (w:=w) (base:=base) X G (fun _ F=>Zql F M ) fun _ _ _ _ _ _ us hl=>match us,hl with| [_,_,_,_,_],_=>rfl
 have Gforth:=a2.kn (P:=l.prog) (w:=w) (base:=base) X G (fun _ F=>ZmB F M Gled) fun _ _ _ _ _ _ us hl=>match us,hl with| [_,_],_=>rfl
 have Gback:=a3.kn (P:=l.prog) (w:=w) (base:=base) X G (fun _ F=>ZoU F M Gled) fun _ _ _ _ _ _ us hl=>match us,hl with| [_,_],_=>rfl
 have Gpartners:=a4.kn (P:=l.prog) (w:=w) (base:=base) X G (fun _ F=>Zhv F M Gforth Gback) fun _ _ _ _ _ _ us hl=>match us,hl with| [_,_],_=>rfl
 have Gshort:=a5.kn (P:=l.prog) (w:=w) (base:=base) X G (fun _ F=>ZmT F M Gpaired) fun _ _ _ _ _ _ us hl=>match us,hl with| [_,_,_],_=>rfl
 have Gbehind:=a6.kn (P:=l.prog) (w:=w) (base:=base) X G (fun _ F=>Zlx F M Gback Gforth Gpaired) fun _ _ _ _ _ _ us hl=>match us,hl with| [_,_],_=>rfl
 have Gweights_at:=a7.kn (P:=l.prog) (w:=w) (base:=base) X G (fun _ F=>ZrC F M ) fun _ _ _ _ _ _ us hl=>match us,hl with| [_,_],_=>rfl
 have Gbeside_each:=a10.kn (P:=l.prog) (w:=w) (base:=base) X G (fun _ F=>Zly F M ) fun _ _ _ _ _ _ us hl=>match us,hl with| [_,_],_=>rfl
 have Groom_from:=a11.kn (P:=l.prog) (w:=w) (base:=base) X G (fun _ F=>Zpa F M ) fun _ _ _ _ _ _ us hl=>match us,hl with| [_,_,_],_=>rfl
 have Glinked:=a12.kn (P:=l.prog) (w:=w) (base:=base) X G (fun _ F=>ZlA F M Gbeside_each Groom_from) fun _ _ _ _ _ _ us hl=>match us,hl with| [_,_],_=>rfl
 have Glinks_of:=a13.kn (P:=l.prog) (w:=w) (base:=base) X G (fun _ F=>ZmU F M Gforth) fun _ _ _ _ _ _ us hl=>match us,hl with| [_],_=>rfl
 have Grooms:=a14.kn (P:=l.prog) (w:=w) (base:=base) X G (fun _ F=>ZmW F M Glinked Glinks_of GB) fun _ _ _ _ _ _ us hl=>match us,hl with| [_],_=>rfl
 have Gsum_of_weights:=a8.kn (P:=l.prog) (w:=w) (base:=base) X G (fun _ F=>ZqI F M GB) fun _ _ _ _ _ _ us hl=>match us,hl with| [_,_],_=>rfl
 have Gsorts:=a9.kn (P:=l.prog) (w:=w) (base:=base) X G (fun _ F=>ZmY F M ) fun _ _ _ _ _ _ us hl=>match us,hl with| [_],_=>rfl
 have Gweights_of:=a15.kn (P:=l.prog) (w:=w) (base:=base) X G (fun _ F=>ZqJ F M Gsum_of_weights) fun _ _ _ _ _ _ us hl=>match us,hl with| [_,_],_=>rfl
 have Gsorts_walked:=a16.kn (P:=l.prog) (w:=w) (base:=base) X G (fun _ F=>ZrD F M Grooms Gsorts Gweights_of) fun _ _ _ _ _ _ us hl=>match us,hl with| [_],_=>rfl
 have G_law_hall_pairings:=a25.kn (P:=l.prog) (w:=w) (base:=base) X G (fun _ F=>ZqH F M G_law_take) fun _ _ _ _ _ _ us hl=>match us,hl with| [_,_],_=>rfl
 have G_law_hall:=a26.kn (P:=l.prog) (w:=w) (base:=base) X G (fun _ F=>Zpc F M G_law_take G_law_hall_pairings G_law_fitted G_law_wide) fun _ _ _ _ _ _ us hl=>match us,hl with| [_,_],_=>rfl
 have G_law_plus:=a27.kn (P:=l.prog) (w:=w) (base:=base) X G (fun _ F=>Zpb F M GB) fun _ _ _ _ _ _ us hl=>match us,hl with| [_,_],_=>rfl
 have G_law_otherwise:=a28.kn (P:=l.prog) (w:=w) (base:=base) X G (fun _ F=>ZmZ F M G_law_take Gshort Gbehind) fun _ _ _ _ _ _ us hl=>match us,hl with| [_,_],_=>rfl
 have G_law_total:=a29.kn (P:=l.prog) (w:=w) (base:=base) X G (fun _ F=>Zm0 F M G_law_plus) fun _ _ _ _ _ _ us hl=>match us,hl with| [_,_],_=>rfl
 have G_law_room_good:=a30.kn (P:=l.prog) (w:=w) (base:=base) X G (fun _ F=>Zm1 F M Gpartners G_law_plus Gweights_at) fun _ _ _ _ _ _ us hl=>match us,hl with| [_,_,_],_=>rfl
 have G_law_grown:=a31.kn (P:=l.prog) (w:=w) (base:=base) X G (fun _ F=>Zm2 F M GB) fun _ _ _ _ _ _ us hl=>match us,hl with| [_,_],_=>rfl
 have G_law_good:=a32.kn (P:=l.prog) (w:=w) (base:=base) X G (fun _ F=>Zpd F M Grooms Gsorts_walked G_law_otherwise G_law_total Gsorts G_law_room_good G_law_grown GB) fun _ _ _ _ _ _ us hl=>match us,hl with| [_,_,_],_=>rfl
 exact ZqL (ZjA l1 c1 a33.k) M G_law_purse G_law_hall G_law_good
theorem walk {q:Program}{qE:List Str}{XP:(Str→Option Value)→Heap→Prop}{YP:World→Heap→Prop}{d:DefRec}{K:Params→PySem.W.Frag}(hn:l.most=some 63)(hdf:d.params.defaults=[])
  (hY:∀(w:World) (h:Heap),YP w h→(K w.params).In h)
  (F:∀(w:World) (mg:Str→Option Value) (fa:Addr) (h:Heap),(K w.params).In h→h.Ns mainGlobals mg→mg d.name=some (.ref fa)→
   ∃fd:FuncData,(∀(s:Shared) (u:Value),BindsTo s fd ⟨[u],[]⟩ [("_law_script",u)])∧∀base:Heap,(K w.params).In base→base.Ns mainGlobals mg→ZbK l.prog w (K w.params) mg base CX0 7 fa fd ["_law_script"] (Zm3 (K w.params))):
  PySem.W.WalkO q qE XP YP l.row.toRowW d [] (fun f vs=>PySem.call f vs):=
 L2.walk_of (n:=63) (k:=7) (x:= "_law_script") (CX:=fun _=>CX0) (sp:=fun w=>Zm3 (K w.params)) hn (by decide) hdf ⟨rfl,by decide,by decide,rfl⟩ hY F (fun _ _ a ns hl _ hS=>⟨a,ns,rfl,hS,hl,fun _=>rfl⟩) fun _ _ _ _ _ z=>z
end Toy
open PySem PySem.W PyProof.Rows
set_option maxRecDepth 100000 in
set_option maxHeartbeats 0 in
theorem PySem.Challenge.cw_farcords_k22_whole_rooms_hang_on_what_is_holds : PySem.Challenge.rw_farcords_k22_whole_rooms_hang_on_what_is.Holds := by
 w_on;o_law;k_head;(case hw=>w_witness2)
 k_fill
 refine Toy.walk (l:=PySem.Challenge.rw_farcords_k22_whole_rooms_hang_on_what_is) rfl rfl (fun w h Y=>PySem.W.kIn_of Y) ?F
 case F=>
  intro w mg fa h KX G hmg
  refine' Toy.all_mk KX G hmg ?a0 ?a1 ?a2 ?a3 ?a4 ?a5 ?a6 ?a7 ?a8 ?a9 ?a10 ?a11 ?a12 ?a13 ?a14 ?a15 ?a16 ?a17 ?a18 ?a19 ?a20 ?a21 ?a22 ?a23 ?a24 ?a25 ?a26 ?a27 ?a28 ?a29 ?a30 ?a31 ?a32 ?a33 ?qw ?g_zip ?g_set ?qA ?z_len ?z_range ?z_min ?z_max ?qy ?z_bool ?z_int ?z_tuple ?z_list ?z_str ?z_all ?z_sum ?z_sorted
  all_goals try exact⟨by k_is,⟨_,_,_,_,_,_,_,_,_,by k_is,by k_is⟩,by k_is⟩
  all_goals try k_is
#print axioms PySem.Challenge.cw_farcords_k22_whole_rooms_hang_on_what_is_holds
