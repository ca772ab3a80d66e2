import PyProof.Rows.All
import Wide.All
import OpenK.AllK
import Wide.FinOn
import Lean
import PyProof.EqAt
import PyProof.EqKinds
import PyProof.TupleCall
import PyProof.NeData
import PyProof.SumAny
import PyProof.ReprRoads
import PyProof.CallStr
import PyProof.ReprLen
import PyProof.Rows.StrDigitsNeg
import PyProof.Rows.StrJoinMade
import PyProof.Rows.ZipGen
import PyProof.ListRange
import PyProof.TupleOfSeq
import PyProof.SetScanFacts
import PyProof.SetKind
import PyProof.Rows.SetFrom
import PyProof.SetRoads
import PyProof.Rows.SortShell
import PyProof.ListMulRoad
import PyProof.ListMulAny
import PyProof.FactsAll.tuple
import PyProof.RulesAssignMore
import PyProof.ZipIter
import PyProof.TupleIter
import PyProof.ExcArgsOwn
import PyProof.ExcAttrAll.ValueError
import PyProof.ExcBaseAll.ValueError
import PyProof.EnumFor
import PyProof.EnumMake
import PyProof.FitsBits
import KE.KDictList
import PyProof.Rows.SortShellK
import PyProof.TupleKey
import KE.KItemsList
import KE.KSortTup
import PyProof.Rows.ListMulR
import PyProof.FactsAll.list_2
import PyProof.FactsAll.list_4
import PyProof.Rows.BitMore
import PyProof.WalkInts
import PyProof.ListIndex
import PyProof.P3Eq
import KE.KRevIter
import PyProof.JoinWalk
import PyProof.CollectIter
import PyProof.SliceStr2
import PyProof.Rows.FStr
import PyProof.Rows.RuleDivmod
import PyProof.Rows.StrWeight2
import PyProof.StrBlock2
import KE.KxWritten
import KE.KIntText
import PyProof.Rows.StrSplitMax
import PyProof.Rows.StrNews2
import PyProof.Rows.CallKwBuiltin
import PyProof.DictIter
import PyProof.MeetsDict
import PySem.Challenge.RW_farcords_k37_counted_small
abbrev FJ:=PySem.W.Frag
set_option maxHeartbeats 16000000
section
open PySem PySem.Spec PyProof.Rows
abbrev Qaa:=@wpAny_bind
abbrev Qn:=@if_neg
abbrev Qp:=@if_pos
abbrev Qab:=@List.getElem?_eq_some_iff
abbrev Qac:=@Heap.get?_push_of_some
abbrev Qad:=@List.getElem?_eq_getElem
abbrev Qae:=@List.length_append
abbrev Qaf:=@List.length_map
abbrev Qag:=@List.mem_cons_of_mem
abbrev Qah:=@List.mem_cons_self
abbrev Qai:=@Nat.le_refl
abbrev Qaj:=@lookup_relabel_local
abbrev Qak:=@wpAny_pure
abbrev Qal:=@List.mem_singleton
abbrev Qam:=@decide_eq_true
abbrev Qan:=@Heap.lt_size
abbrev Qao:=@List.getElem?_map
abbrev Qap:=@List.mem_append
abbrev Qaq:=@List.getElem?_append_right
abbrev Qar:=@of_decide_eq_true
abbrev Qas:=@List.getElem?_append_left
abbrev Qat:=@Heap.get?_push_size
abbrev Qau:=@List.map_append
abbrev Qav:=@List.mem_of_getElem?
abbrev Qaw:=@List.mem_cons
abbrev Qax:=@List.length_take
abbrev Qay:=@List.size_toArray
abbrev Qaz:=@List.getD_eq_getElem?_getD
abbrev QaA:=@List.mem_append_right
abbrev QaB:=@List.length_cons
abbrev QaC:=@decide_eq_false
abbrev QaD:=@List.map_cons
abbrev QaE:=@Bool.false_ne_true
abbrev QaF:=@Nat.lt_of_le_of_lt
abbrev QaG:=@List.getElem?_eq_none
abbrev QaH:=@PassesOwn.never
abbrev QaI:=@Bool.false_eq_true
abbrev QaJ:=@List.length_singleton
abbrev QaK:=@Bool.and_eq_true
abbrev QaL:=@Int.le_refl
abbrev QaM:=@Nat.ne_of_lt
abbrev QaN:=@Nat.le_of_ble_eq_true
abbrev QaO:=@List.map_congr_left
abbrev QaP:=@Nat.lt_of_lt_of_le
abbrev QaQ:=@Int.emod_lt_of_pos
abbrev QaR:=@List.mem_map
abbrev QaS:=@Nat.zero_le
abbrev QaT:=@List.length_replicate
abbrev QaU:=@Heap.get?_update_other
abbrev QaV:=@PySem.F.plainAttrs_list
abbrev QaW:=@Nat.le_trans
abbrev QaX:=@Int.emod_nonneg
abbrev QaY:=@List.mem_append_left
abbrev QaZ:=@List.mem_iff_getElem?
abbrev Qa0:=@PySem.W.mg_none_of
abbrev Qa1:=@PySem.F.slot_list_append
abbrev Qa2:=@PySem.F.type_list_append
abbrev Qa3:=@List.take_length
abbrev Qa4:=@wpAny_newObj_type
abbrev Qa5:=@List.append_nil
abbrev Qa6:=@List.length_range
abbrev Qa7:=@List.append_assoc
abbrev Qa8:=@List.not_mem_nil
abbrev Qa9:=@Int.le_of_lt
abbrev Qba:=@Around.under_plainId
abbrev Qbb:=@List.filter_cons_of_pos
abbrev Qbc:=@List.map_map
abbrev Qbd:=@List.length_drop
abbrev Qbe:=@Int.toNat_of_nonneg
abbrev Qbf:=@List.mem_of_mem_take
abbrev Qbg:=@wpAny_truthy_bool
abbrev Qbh:=@wpAny_setField_rec
abbrev Qbi:=@Array.getElem?_toList
abbrev Qbj:=@Array.length_toList
abbrev Qbk:=@Heap.size_push
abbrev Qbl:=@List.getElem?_eq_none_iff
abbrev Qbm:=@List.mem_of_mem_drop
abbrev Qbn:=@List.sum_cons
abbrev Qbo:=@wpAny_field
abbrev Qbp:=@of_decide_eq_false
abbrev Qbq:=@Nat.ne_of_gt
abbrev Qbr:=@Heap.get?_update_self
abbrev Qbs:=@Nat.lt_irrefl
abbrev Qbt:=@wpS_bind
abbrev Qbu:=@Heap.SameBut.extBut
abbrev Qbv:=@if_false
abbrev Qbw:=@wpAny_seqItems
abbrev Qbx:=@List.take_of_length_le
abbrev Qby:=@Int.ediv_eq_zero_of_lt
abbrev Qbz:=@wpAny_holding
abbrev QbA:=@Option.some.inj
abbrev QbB:=@Int.add_zero
abbrev QbC:=@codeAny_builtin
abbrev QbD:=@List.mem_range
abbrev QbE:=@wpAny_call_entry
abbrev QbF:=@wpAny_callSpecial?_slot
abbrev QbG:=@List.filter_cons_of_neg
abbrev QbH:=@Nat.le_of_lt
abbrev QbI:=@wpAny_Call_Name_kw
abbrev QbJ:=@Nat.lt_or_eq_of_le
abbrev QbK:=@wpAny_mono
abbrev QbL:=@PySem.W.kia_one
abbrev QbM:=@List.length_nil
abbrev QbN:=@List.getLast?_eq_getElem?
abbrev QbO:=@plainId_quiet
abbrev QbP:=@PySem.mem_of_lookup
abbrev QbQ:=@PySem.F.slot_dict_itemiterator_next
abbrev QbR:=@Int.toNat_natCast
abbrev QbS:=@Int.zero_add
abbrev QbT:=@Int.add_mul_ediv_left
abbrev QbU:=@PyProof.Rows.callWith_type1
abbrev QbV:=@List.nodup_cons
abbrev QbW:=@if_true
abbrev QbX:=@List.foldl_cons
abbrev QbY:=@List.length_dropLast
abbrev QbZ:=@List.getElem?_range
abbrev Qb0:=@Nat.lt_succ_of_lt
abbrev Qb1:=@List.length_zipWith
abbrev Qb2:=@Array.getElem?_eq_getElem
abbrev Qb3:=@wpS_pure
abbrev Qb4:=@PySem.F.plain_extend_loop
abbrev Qb5:=@List.drop_eq_getElem_cons
abbrev Qb6:=@List.nil_append
abbrev Qb7:=@List.find?_cons
abbrev Qb8:=@PySem.F.slot_dict_get
abbrev Qb9:=@wpAny_typeNameOfWhole_itemiter
abbrev Qca:=@wpAny_updateSeq
abbrev Qcb:=@Int.emod_add_mul_ediv
abbrev Qcc:=@Nat.le_add_right
abbrev Qcd:=@List.replicate_succ'
abbrev Qce:=@wpAny_tryCatch
abbrev Qcf:=@decide_eq_true_eq
abbrev Qcg:=@beq_eq_false_iff_ne
abbrev Qch:=@wpAny_letGo
abbrev Qci:=@Nat.min_eq_left
abbrev Qcj:=@boot_isinstance
abbrev Qck:=@List.getElem?_set_self
abbrev Qcl:=@Calls.callWith_builtin
abbrev Qcm:=@Int.add_mul_emod_self_left
abbrev Qcn:=@Array.perm_iff_toList_perm
abbrev Qco:=@True.intro
abbrev Qcp:=@List.lookup_cons
abbrev Qcq:=@List.filter_append
abbrev Qcr:=@List.take_append_drop
abbrev Qcs:=@List.getElem?_drop
abbrev Qct:=@List.take_zero
abbrev Qcu:=@List.dropLast_subset
abbrev Qcv:=@wpAny_passesOwn
abbrev Qcw:=@Option.isSome_iff_exists
abbrev Qcx:=@List.ext_getElem?
abbrev Qcy:=@Bool.eq_false_iff
abbrev Qcz:=@Int.mul_zero
abbrev QcA:=@List.length_reverse
abbrev QcB:=@or_false
abbrev QcC:=@PySem.F.plainAttrs_dict
abbrev QcD:=@PySem.F.plain_list_iadd
abbrev QcE:=@List.mem_map_of_mem
abbrev QcF:=@PySem.boot_len
abbrev QcG:=@PySem.F.entry_dict_get
abbrev QcH:=@List.getElem?_take
abbrev QcI:=@List.forIn_cons
abbrev QcJ:=@Nat.sub_self
abbrev QcK:=@List.getElem?_zipWith
abbrev QcL:=@List.any_cons
abbrev QcM:=@List.map_take
abbrev QcN:=@List.map_drop
abbrev QcO:=@Array.getElem?_eq_some_iff
abbrev QcP:=@List.getElem?_set_ne
abbrev QcQ:=@PySem.F.args_dict_itemiterator_next_1
abbrev QcR:=@PySem.F.entry_dict_itemiterator_next
abbrev QcS:=@List.pairwise_iff_getElem
abbrev QcT:=@Decidable.byContradiction
abbrev QcU:=@Nat.lt_succ_self
abbrev QcV:=@Nat.max_eq_right
abbrev QcW:=@boot_min
abbrev QcX:=@Int.mul_add
abbrev QcY:=@Array.getElem_mem_toList
abbrev QcZ:=@Calls.spliced_cons
abbrev Qc0:=@PySem.W.callWith_K
abbrev Qc1:=@tupleKind_room_in1
abbrev Qc2:=@List.pairwise_cons
abbrev Qc3:=@List.sum_append
abbrev Qc4:=@List.length_eq_zero_iff
abbrev Qc5:=@boot_max
abbrev Qc6:=@PySem.W.mg_of
abbrev Qc7:=@wpAny_isOneOf_itemiter
abbrev Qc8:=@wpAny_rule
abbrev Qc9:=@Int.mul_one
abbrev Qda:=@wpAny_pyIter_list
abbrev Qdb:=@PyProof.Rows.slot_tuple_getitem
abbrev Qdc:=@Int.emod_eq_of_lt
abbrev Qdd:=@Nat.le_of_lt_succ
abbrev Qde:=@Int.sub_zero
abbrev Qdf:=@Int.mul_ediv_add_emod
abbrev Qdg:=@call_meetsIn
abbrev Qdh:=@wpS_forRange
abbrev Qdi:=@List.length_filter_le
abbrev Qdj:=@List.getLast?_eq_some_getLast
abbrev Qdk:=@wpAny_pyIter_zip
abbrev Qdl:=@List.cons_append
abbrev Qdm:=@List.any_eq_true
abbrev Qdn:=@List.take_append_of_le_length
abbrev Qdo:=@List.drop_append_of_le_length
abbrev Qdp:=@List.all_eq_true
abbrev Qdq:=@List.eq_nil_of_length_eq_zero
abbrev Qdr:=@Calls.evalArgs_plain
abbrev Qds:=@List.mem_of_getLast?
abbrev Qdt:=@wpAny_updateSeq_pair
abbrev Qdu:=@wpAny_standAt
abbrev Qdv:=@wpAny_attempt
abbrev Qdw:=@PySem.F.slot_dict_items_iter
abbrev Qdx:=@boot_tuple
abbrev Qdy:=@List.mem_filter
abbrev Qdz:=@List.filterMap_cons
abbrev QdA:=@wpAny_execs_nil
abbrev QdB:=@Bool.eq_iff_iff
abbrev QdC:=@PySem.W.plainGet_of
abbrev QdD:=@Heap.SameBut.update
abbrev QdE:=@Option.map_some
abbrev QdF:=@PySem.F.entry_proto_collect
abbrev QdG:=@PySem.F.plain_proto_collect
abbrev QdH:=@Nat.min_le_left
abbrev QdI:=@Int.natCast_add
abbrev QdJ:=@Int.ediv_nonneg
abbrev QdK:=@boot_list
abbrev QdL:=@Calls.Name_function_global
abbrev QdM:=@Int.fmod_eq_emod_of_nonneg
abbrev QdN:=@Int.fdiv_eq_ediv_of_nonneg
abbrev QdO:=@List.perm_ext_iff_of_nodup
abbrev QdP:=@assignInOrder_cons
abbrev QdQ:=@wpAny_pyIter_tuple
abbrev QdR:=@Nat.min_self
abbrev QdS:=@wpAny_letOwnedTupleGo_zip
abbrev QdT:=@wpAny_newTuple
abbrev QdU:=@Calls.call_function_entry
abbrev QdV:=@PySem.F.entry_extend_loop
abbrev QdW:=@Bool.not_false
abbrev QdX:=@beq_iff_eq
abbrev QdY:=@Calls.spliced_nil
abbrev QdZ:=@wpAny_getItem_list_slice
abbrev Qd0:=@PyProof.noPylong_of_log2
abbrev Qd1:=@List.foldl_append
abbrev Qd2:=@List.reverse_cons
abbrev Qd3:=@wpAny_dictEntries
abbrev Qd4:=@List.pairwise_map
abbrev Qd5:=@List.range'_eq_map_range
abbrev Qd6:=@Nat.le_succ_of_le
abbrev Qd7:=@PySem.F.slot_list_extend
abbrev Qd8:=@PySem.F.type_list_extend
abbrev Qd9:=@Paired.length
abbrev Qea:=@Nat.le_succ
abbrev Qeb:=@List.getElem?_replicate
abbrev Qec:=@List.all_cons
abbrev Qed:=@List.getLast?_cons_cons
abbrev Qee:=@wpAny_onRaise
abbrev Qef:=@PySem.F.args_dict_get_2
abbrev Qeg:=@PySem.F.args_dict_get_3
abbrev Qeh:=@PySem.F.entry_list_iadd
abbrev Qei:=@wpAny_Call_method0_late
abbrev Qej:=@PySem.F.slot_dict_items
abbrev Qek:=@Nat.gcd_pos_of_pos_left
abbrev Qel:=@List.getElem?_cons_zero
abbrev Qem:=@List.mem_flatMap
abbrev Qen:=@Heap.size_update
abbrev Qeo:=@List.mem_reverse
abbrev Qep:=@Nat.gcd_le_right
abbrev Qeq:=@Nat.succ_le_succ
abbrev Qer:=@PySem.W.cellsFrom_some
abbrev Qes:=@subscriptTail_builtinR
abbrev Qet:=@PySem.F.slot_dict_keys
abbrev Qeu:=@List.filter_eq_nil_iff
abbrev Qev:=@wpAny_isTrue_Compare1
abbrev Qew:=@codeAny_mono
abbrev Qex:=@List.of_mem_zip
abbrev Qey:=@wpAny_loadPart'
abbrev Qez:=@List.map_nil
abbrev QeA:=@List.length_set
abbrev QeB:=@Nat.sub_zero
abbrev QeC:=@PySem.F.type_dict_get
abbrev QeD:=@pairsOf_size
abbrev QeE:=@wpAny_dictEpoch
abbrev QeF:=@List.range_succ
abbrev QeG:=@List.getElem?_reverse
abbrev QeH:=@Nat.le_total
abbrev QeI:=@Nat.max_eq_left
abbrev QeJ:=@wpAny_setField
abbrev QeK:=@List.nodup_nil
abbrev QeL:=@List.drop_zero
abbrev QeM:=@wpAny_of_eq
abbrev QeN:=@wpS_reverse
abbrev QeO:=@mirror_perm
abbrev QeP:=@Constant_none
abbrev QeQ:=@evalPart_none
abbrev QeR:=@wpAny_newList
abbrev QeS:=@Bool.not_true
abbrev QeT:=@Subscript_
abbrev QeU:=@Walks.list
abbrev QeV:=@wpAny_typeOf
abbrev QeW:=@seqIndex_neg
abbrev QeX:=@Nat.gcd_comm
abbrev QeY:=@Int.mul_comm
abbrev QeZ:=@wpS_get
end
namespace PySem.W.Fast
def tw13340687800900398800:=()
def tw17411728533096884816:=()
def tw2677952605705114928:=()
def tw10396159990275328400:=()
def tw6374433851959450353:=()
def tw2554158188150345233:=()
def tw14373727823373317361:=()
def tw17184247863217375793:=()
def tw17773180290808603058:=()
def tw7794450253761608754:=()
def tw17661009591606551123:=()
def tw1582842554729698259:=()
def tw7834718781780234035:=()
def tw8974083302424292243:=()
def tw10391376071438951540:=()
def tw449393354887636756:=()
def tw12721196856893427796:=()
def tw3618979196406059828:=()
def tw8568378265709009140:=()
def tw16883885079106641044:=()
def tw13453199552770333045:=()
def tw8446962563748865653:=()
def tw15339153319980614165:=()
def tw211429134403134677:=()
def tw15674466770802556118:=()
def tw8198465092309196150:=()
def tw11219823816720753143:=()
def tw4700450991323302359:=()
def tw4418693143815259480:=()
def tw1142049539082331608:=()
def tw17958955201494008665:=()
def tw9635766824853750713:=()
def tw4235893595358531513:=()
def tw15518958490663337913:=()
def tw7077269064698004569:=()
def tw5455019592203047993:=()
def tw8417330872288706553:=()
def tw9052757445885594393:=()
def tw5773658110860314841:=()
def tw10340005941641581433:=()
def tw11377364387320437754:=()
def tw5036621897270201594:=()
def tw8182732293589556442:=()
def tw18400520054896918715:=()
def tw16773460843542056507:=()
def tw13730474094461167291:=()
def tw15425033512731297532:=()
def tw12758519440436724444:=()
def tw1156576890631934044:=()
def tw2792088271704831196:=()
def tw779139580919241020:=()
def tw58497960743714141:=()
def tw4013214578635072861:=()
def tw17190065068351288541:=()
def tw7446001658165694974:=()
def tw1692119342425820638:=()
def tw2639028913114128544:=()
def tw2214060863985816928:=()
def tw10950588319558489888:=()
def tw14468582100109025728:=()
def tw5427656405391856449:=()
def tw13817019877474513346:=()
def tw13967602522193885730:=()
def tw5948732289262381762:=()
def tw10766973949567753282:=()
def tw7247432897285245122:=()
def tw3340671838100863106:=()
def tw1343268738653922371:=()
def tw16824351192037591203:=()
def tw8876108611286124131:=()
def tw5265451440610405507:=()
def tw15702822681435814691:=()
def tw14709381034612173827:=()
def tw14760837527803902724:=()
def tw15728825734992419716:=()
def tw10950303146863252325:=()
def tw15624571407586153093:=()
def tw5740152856404208933:=()
def tw7527409862212400805:=()
def tw12155471661271115845:=()
def tw9459188118302809029:=()
def tw11886751672883890565:=()
def tw9933400213745802854:=()
def tw13780357265695934502:=()
def tw9272223803814461190:=()
def tw4328006445147364742:=()
def tw1758424133879874086:=()
def tw11916598548800351718:=()
def tw1804285583291169639:=()
def tw54348842191356295:=()
def tw11983111298558060071:=()
def tw7969869780358271016:=()
def tw14965104007993458888:=()
def tw8329908074160270984:=()
def tw9735317279427927721:=()
def tw743652199383375498:=()
def tw11443270573976427306:=()
def tw11991458610914796522:=()
def tw1935891151153641322:=()
def tw9392421547181218250:=()
def tw17556303990171200906:=()
def tw14518472805932832106:=()
def tw15949616927727716714:=()
def tw8239703843576493579:=()
def tw7746405122418166283:=()
def tw9786478962237572203:=()
def tw1930669177813538059:=()
def tw9979590668026928524:=()
def tw8060842439239281452:=()
def tw7811155476339912140:=()
def tw12575722650315892045:=()
def tw14294765651829688589:=()
def tw12415601220346756141:=()
def tw10091593044821105037:=()
def tw3580422803925233742:=()
def tw16813368569268366126:=()
def tw17479588810142342350:=()
def tw12450481349778390510:=()
def tw14449591204789312654:=()
def tw7567403701474201071:=()
def tw3437656688894718648:=()
end PySem.W.Fast
set_option Elab.async false
set_option linter.all false
set_option maxRecDepth 100000
namespace L2
open PySem PySem.Spec PyProof.Rows
variable {s s':Shared}{qa:List (Addr×Obj)}{x name m qe:Str}{a b C dx f:Addr}{A:Around}{u v:Value}{w:World}{E Q:Value→Shared→Prop}{e tg c l:Expr}{h h' base:Heap}{P prog:Program}{i t' j n:Nat}{op op':CmpOp}{us:List Value}{o:Obj}{es:List Expr}{M:Model}{ch fp:List Addr}{qk p:PySem.Pos}{body:List Stmt}{mA mg:Str→Option Value}{pl:Sem Bool}{kw:List (Str×Value)}{ps N:List Str}{g':Array GenState}{d':Drawn}{lo:Int}{g:Int→Int→Int}{outer:List Env}{fd:FuncData}{scope:Scope}
abbrev Key:=Sum Int Str
def ZkD:Key→Value→Bool
 | .inl k,v=>Value.isInt k v
 | .inr x,v=>Value.isStrOf x v
def ZuG (w:World):Key→Int
 | .inl k=>hashInt k
 | .inr x=>hashStr w x
theorem Zbc:∀{k:Key} {v:Value},ZkD k v=true→(∃i t,k=Sum.inl i∧v=Value.int i t)∨(∃x t,k=Sum.inr x∧v=Value.str x t)
 | .inl i,v,h=>by
  obtain⟨t,e⟩:=Value.isInt_shape (k:=i) (v:=v) h;exact .inl ⟨i,t,rfl,e⟩
 | .inr x,v,h=>by
  obtain⟨t,e⟩:=Value.isStrOf_shape (x:=x) (v:=v) h;exact .inr ⟨x,t,rfl,e⟩
theorem ZlO (i:Int)(t:Tok):ZkD (.inl i) (.int i t)=true:=by simp[ZkD,Value.isInt]
theorem ZlP (x:Str)(t:Tok):ZkD (.inr x) (.str x t)=true:=by simp[ZkD,Value.isStrOf]
theorem ZrY (a b:Int):decide ((Sum.inl a:Key)=Sum.inl b)=(a==b):=by
 by_cases e:a=b
 ·subst e;simp
 ·have h:¬(Sum.inl a:Key)=Sum.inl b:=fun q=>e (Sum.inl.inj q);rw[QaC h];exact(Qcg.mpr e).symm
theorem ZrZ (a b:Str):decide ((Sum.inr a:Key)=Sum.inr b)=decide (a=b):=by
 by_cases e:a=b
 ·subst e;simp
 ·have h:¬(Sum.inr a:Key)=Sum.inr b:=fun q=>e (Sum.inr.inj q);rw[QaC h,QaC e]
theorem Zr0 (a:Int)(b:Str):decide ((Sum.inl a:Key)=Sum.inr b)=false:=QaC (fun q=>nomatch q)
theorem Zr1 (a:Str)(b:Int):decide ((Sum.inr a:Key)=Sum.inl b)=false:=QaC (fun q=>nomatch q)
def Za3 (prog:Program)(w:World):PySem.KeyKind prog w Key where
 is:=ZkD
 hash:=ZuG w
 inj:=fun v a b ha hb=>by
  rcases Zbc ha with⟨i,t,rfl,rfl⟩|⟨x,t,rfl,rfl⟩
  ·rcases Zbc hb with⟨j,u,rfl,e⟩|⟨y,u,rfl,e⟩
   ·injection e with e1 _;rw[e1]
   ·exact nomatch e
  ·rcases Zbc hb with⟨j,u,rfl,e⟩|⟨y,u,rfl,e⟩
   ·exact nomatch e
   ·injection e with e1 _;rw[e1]
 byValue:=fun k v h=>by
  rcases Zbc h with⟨i,t,rfl,rfl⟩|⟨x,t,rfl,rfl⟩<;>rfl
 pyHash:=fun hv h=>by
  rcases Zbc hv with⟨i,t,rfl,rfl⟩|⟨x,t,rfl,rfl⟩
  ·exact wpAny_pyHash_int h
  ·exact wpAny_pyHash_str h
 eqBool:=fun hu hv h=>by
  rcases Zbc hu with⟨i,t,rfl,rfl⟩|⟨x,t,rfl,rfl⟩
  ·rcases Zbc hv with⟨j,u,rfl,rfl⟩|⟨y,u,rfl,rfl⟩
   ·rw[ZrY] at h;exact wpAny_eqBool_int h
   ·rw[Zr0] at h;exact SeqAt.EqAt.int_str i t y u _ _ _ _ h
  ·rcases Zbc hv with⟨j,u,rfl,rfl⟩|⟨y,u,rfl,rfl⟩
   ·rw[Zr1] at h;exact SeqAt.EqAt.str_int x t j u _ _ _ _ h
   ·rw[ZrZ] at h;exact wpAny_eqBool_str h
 «strs»:=fun k x t v h=>by
  rcases Zbc h with⟨i,u,rfl,e⟩|⟨y,u,rfl,e⟩
  ·exact nomatch e
  ·injection e with e1 _
   subst e1;cases v<;>rfl
theorem Ziw (prog:Program)(w:World)(i:Int)(t:Tok):(Za3 prog w).is (.inl i) (.int i t)=true:=ZlO i t
theorem Zix (prog:Program)(w:World)(x:Str)(t:Tok):(Za3 prog w).is (.inr x) (.str x t)=true:=ZlP x t
inductive V where
 |non|bl (b:Bool)|int (i:Int)|str (x:Str)|byt (b:Array UInt8)|flt (b:UInt64)|ref (a:Addr)|ty (n:String)
 deriving DecidableEq
def Zbf:V→Value→Prop
 | .non,u=>u=Value.none
 | .bl b,u=>u=Value.bool b
 | .int i,u=>∃t,u=Value.int i t
 | .str x,u=>∃t,u=Value.str x t
 | .byt b,u=>∃t,u=Value.bytes b t
 | .flt b,u=>∃t,u=Value.float b t
 | .ref a,u=>u=Value.ref a
 | .ty n,u=>u=Value.type n
abbrev Zbg:List V→List Value→Prop:=Paired Zbf
theorem Zbg.length {xs:List V}{us:List Value}(r:Zbg xs us):xs.length=us.length:=Qd9 r
theorem Zbg.get:∀{xs:List V} {us:List Value} {i:Nat} {x:V},Zbg xs us→xs[i]?=some x→∃u,us[i]?=some u∧Zbf x u
 |_,_,_,_,.nil,e=>by simp at e
 |_,_,0,_,.cons r _,e=>by simp at e;subst e;exact⟨_,rfl,r⟩
 |_,_,i+1,x,.cons _ t,e=>by
  obtain⟨u,h1,h2⟩:=Zbg.get (i:=i) (x:=x) t (by simpa using e);exact⟨u,by simpa using h1,h2⟩
theorem Zbg.set {x:V}{u:Value}(r:Zbf x u):∀{xs:List V} {us:List Value} (i:Nat),Zbg xs us→Zbg (xs.set i x) (us.set i u)
 |_,_,_,.nil=> .nil
 |_,_,0,.cons _ t=> .cons r t
 |_,_,i+1,.cons q t=> .cons q (Zbg.set r i t)
theorem Zbg.append:∀{xs ys:List V} {us ws:List Value},Zbg xs us→Zbg ys ws→Zbg (xs++ys) (us++ws)
 |_,_,_,_,.nil,s=>s
 |_,_,_,_,.cons r t,s=> .cons r (Zbg.append t s)
theorem Zbg.take:∀{xs:List V} {us:List Value} (n:Nat),Zbg xs us→Zbg (xs.take n) (us.take n)
 |_,_,0,_=> .nil
 |_,_,_+1,.nil=> .nil
 |_,_,n+1,.cons r t=> .cons r (Zbg.take n t)
theorem Zbg.drop:∀{xs:List V} {us:List Value} (n:Nat),Zbg xs us→Zbg (xs.drop n) (us.drop n)
 |_,_,0,r=>r
 |_,_,_+1,.nil=> .nil
 |_,_,n+1,.cons _ t=>Zbg.drop n t
def Zhi:Option V→Option Value→Prop
 |some v,some u=>Zbf v u
 |none,none=>True
 |_,_=>False
def KV {κ:Type}:List (κ×V)→List (κ×Value)→Prop:=Paired fun(p:κ×V) (q:κ×Value)=>p.1=q.1∧Zbf p.2 q.2
def kV:Key→V
 | .inl i=> .int i
 | .inr x=> .str x
inductive HO where
 |lst (xs:List V)
 |tup (xs:List V)
 |dK (kvs:List (Key×V))|dT (kvs:List (List Key×V))
 |set (S:Int→Bool) (n:Nat)
 |ins (C dx:Addr) (fs:List (Str×V))
 |own (x:Addr)
 |xd (fs:List (Str×V))
 |met (f x:Addr)
 |rng (lo hi:Int)
 |frz (o:Obj) (u:HO)
 |tbl (ps:Array Value)
 |ext (φ:Heap→Prop)
abbrev Hp:=Addr→Option HO
def upd (H:Hp)(a:Addr)(o:HO):Hp:=fun b=>if b=a then some o else H b
theorem Zad {H:Hp}{o:HO}:upd H a o a=some o:=by unfold upd;rw[Qp rfl]
theorem Zaq {H:Hp}{o:HO}(h:b≠a):upd H a o b=H b:=by unfold upd;rw[Qn h]
theorem Zqr {H:Hp}{o u:HO}:upd (upd H a o) a u=upd H a u:=by
 funext b;unfold upd;split<;>rfl
theorem Zob {H:Hp}{o u:HO}(h:H a=some o)(h':H b=some u)(d:o≠u):a≠b:=by
 intro e;subst e;rw[h] at h';exact d (QbA h')
theorem Zar {H:Hp}{o:HO}(h:H a=some o)(h':H b=none):a≠b:=by
 intro e;subst e;rw[h] at h';cases h'
section
variable (P:Program)(w:World)
def Zbw (H:Hp)(h:Heap)(a:Addr):HO→Prop
 | .lst xs=>xs.length≤sizeLine∧∃(its:List Value)(n:Nat),Zbg xs its∧h.get? a=some {cls:=.type "list",data:=.seq its.toArray n }
 | .tup xs=>xs.length≤sizeLine∧∃its:List Value,Zbg xs its∧IsTup h a its.toArray
 | .dK kvs=>kvs.length≤sizeLine∧(a==sysModules)=false∧∃vs,KV kvs vs∧h.DictOf (Za3 P w) a vs
 | .dT kvs=>kvs.length≤sizeLine∧(a==sysModules)=false∧∃xs:List (List Key×Addr×Value),
   Paired (fun(p:List Key×V) (q:List Key×Addr×Value)=>p.1=q.1∧H q.2.1=some (.tup (p.1.map kV))∧Zbf p.2 q.2.2) kvs xs∧
   ∃o es ep,h.get? a=some o∧o.ExactDict∧o.data= .dict es ep∧es.toList=xs.map (entryOfKey (tupleKind (Za3 P w)))∧(xs.map (·.1)).Nodup
 | .set S n=>h.SetOf (intKind P w) a S n
 | .ins C dx fs=>H dx=some (.own a)∧fs.length≤1000∧dx≠a∧h.get? a=some (PySem.W.instObj C dx)∧
   ∃mA,h.Ns1 dx mA∧(∀f,Zhi (fs.lookup f) (mA f))∧PySem.Within mA (fs.map (·.1))
 | .own _=>∃o,h.get? a=some o
 | .xd fs=>∃mA,h.Ns1 a mA∧∀f,Zhi (fs.lookup f) (mA f)
 | .rng lo hi=>∃t u v,h.get? a=some {cls:=.type "range",data:=.fields #[.int lo t,.int hi u,.int 1 v] }
 | .frz o u=>h.get? a=some o∧Zbw H h a u
 | .tbl ps=>h.get? a=some {cls:=.none,data:=.fields ps }
 | .met f x=>h.get? a=some (PySem.W.methodObj (.ref f) (.ref x))
 | .ext φ=>φ h∧(∃o,h.get? a=some o)∧∀h1 h2:Heap,φ h1→(∀o,h1.get? a=some o→h2.get? a=some o)→φ h2
def HOk (H:Hp)(h:Heap):Prop:=∀a o,H a=some o→Zbw P w H h a o
end
section
variable {H H':Hp}{o:HO}
theorem Zbw.lt (x:Zbw P w H h a o):a<h.objs.size:=by
 cases o with
 |lst xs=>obtain⟨_,_,_,_,e⟩:=x;exact Qan e
 |tup xs=>obtain⟨_,_,_,p⟩:=x;exact p.lt
 |dK kvs=>obtain⟨_,_,_,_,o,_,_,e,_⟩:=x;exact Qan e
 |dT kvs=>obtain⟨_,_,_,_,o,_,_,e,_⟩:=x;exact Qan e
 |set S n=>obtain⟨o,_,_,_,e,_⟩:=x;exact Qan e
 |ins C dx fs=>obtain⟨_,_,_,e,_⟩:=x;exact Qan e
 |own y=>obtain⟨_,e⟩:=x;exact Qan e
 |xd fs=>obtain⟨_,⟨_,_,_,e,_⟩,_⟩:=x;exact Qan e
 |rng lo hi=>obtain⟨_,_,_,e⟩:=x;exact Qan e
 |frz ob u=>obtain⟨e,_⟩:=x;exact Qan e
 |tbl ps=>exact Qan (show h.get? a=some _ from x)
 |met f y=>exact Qan (show h.get? a=some _ from x)
 |ext φ=>obtain⟨_,⟨_,e⟩,_⟩:=x;exact Qan e
theorem Paired.mapP {α β:Type}{F G:α→β→Prop}:∀{l₁:List α} {l₂:List β},Paired F l₁ l₂→(∀a b,F a b→G a b)→Paired G l₁ l₂
 |_,_,.nil,_=> .nil
 |_,_,.cons r t,f=> .cons (f _ _ r) (Paired.mapP t f)
theorem Zbw.stay (x:Zbw P w H h a o)(k:∀b u,(b=a∨H b=some (.own a))→h.get? b=some u→h'.get? b=some u)
  (ho:∀b,H b=some (.own a)→H' b=some (.own a)) (ht:∀b xs,H b=some (.tup xs)→H' b=some (.tup xs)):Zbw P w H' h' a o:=by
 induction o with
 |lst xs=>obtain⟨z,its,n,r,e⟩:=x;exact⟨z,its,n,r,k _ _ (.inl rfl) e⟩
 |tup xs=>obtain⟨z,its,r,ob,e,c⟩:=x;exact⟨z,its,r,ob,k _ _ (.inl rfl) e,c⟩
 |dK kvs=>obtain⟨z,y,vs,r,ob,es,ep,e,c⟩:=x;exact⟨z,y,vs,r,ob,es,ep,k _ _ (.inl rfl) e,c⟩
 |dT kvs=>
  obtain⟨z,y,xs,r,ob,es,ep,e,c⟩:=x;exact⟨z,y,xs,Paired.mapP r fun p q z=>⟨z.1,ht _ _ z.2.1,z.2.2⟩,ob,es,ep,k _ _ (.inl rfl) e,c⟩
 |set S n=>obtain⟨ob,es,ep,t,e,c⟩:=x;exact⟨ob,es,ep,t,k _ _ (.inl rfl) e,c⟩
 |ins C dx fs=>
  obtain⟨d,z,ne,e,mA,⟨od,es,ep,e2,c⟩,r⟩:=x;exact⟨ho _ d,z,ne,k _ _ (.inl rfl) e,mA,⟨od,es,ep,k _ _ (.inr d) e2,c⟩,r⟩
 |own y=>obtain⟨ob,e⟩:=x;exact⟨ob,k _ _ (.inl rfl) e⟩
 |xd fs=>obtain⟨mA,⟨od,es,ep,e,c⟩,r⟩:=x;exact⟨mA,⟨od,es,ep,k _ _ (.inl rfl) e,c⟩,r⟩
 |rng lo hi=>obtain⟨t,u,v,e⟩:=x;exact⟨t,u,v,k _ _ (.inl rfl) e⟩
 |frz ob u ih=>obtain⟨e,q⟩:=x;exact⟨k _ _ (.inl rfl) e,ih q⟩
 |tbl ps=>
  have e:h.get? a=some {cls:=.none,data:=.fields ps }:=x;show h'.get? a=some {cls:=.none,data:=.fields ps };exact k a _ (.inl rfl) e
 |met f y=>
  have e:h.get? a=some (PySem.W.methodObj (.ref f) (.ref y)):=x;show h'.get? a=some (PySem.W.methodObj (.ref f) (.ref y));exact k a _ (.inl rfl) e
 |ext φ=>obtain⟨p,⟨o,e⟩,st⟩:=x;exact⟨st _ _ p fun o q=>k _ _ (.inl rfl) q,⟨o,k _ _ (.inl rfl) e⟩,st⟩
theorem HOk.lt (x:HOk P w H h)(e:H a=some o):a<h.objs.size:=(x a o e).lt
theorem HOk.fresh (x:HOk P w H h)(e:h.objs.size≤a):H a=none:=by
 cases q:H a with
 |none=>rfl
 |some u=>exact absurd (QaP (x.lt q) e) (Qbs _)
theorem HOk.kept (x:HOk P w H h)(k:∀b u,h.get? b=some u→h'.get? b=some u):HOk P w H h':=fun a o e=>
 (x a o e).stay (fun b u _ q=>k b u q) (fun _ q=>q) fun _ _ q=>q
theorem HOk.laid (x:HOk P w H h)(k:∀b u,h.get? b=some u→h'.get? b=some u)(hp:h.objs.size≤a)(new:Zbw P w (upd H a o) h' a o):HOk P w (upd H a o) h':=fun b u e=>by
 have hn:=x.fresh hp;by_cases hb:b=a
 ·subst hb;rw[Zad] at e;cases e;exact new
 ·rw[Zaq hb] at e;exact(x b u e).stay (fun c v _ q=>k c v q) (fun c q=>by rw[Zaq (Zar q hn)];exact q) fun c xs q=>by rw[Zaq (Zar q hn)];exact q
end
def Rd (H:Hp)(a:Addr)(u:HO):Prop:=H a=some u∨∃o,H a=some (.frz o u)
theorem Rd.ok {H:Hp}{u:HO}(r:Rd H a u)(x:HOk P w H h):Zbw P w H h a u:=by
 rcases r with r|⟨o,r⟩
 ·exact x a u r
 ·obtain⟨_,q⟩:=x a _ r;exact q
def Mut:Option HO→Prop
 |some (.lst _)=>True
 |some (.dK _)=>True
 |some (.dT _)=>True
 |some (.set _ _)=>True
 |some (.ins _ _ _)=>True
 |some (.ext _)=>True
 |_=>False
section
variable {H:Hp}{x e:Addr}{o':HO}
theorem HOk.write (ok:HOk P w H h)(mu:Mut (H x))(he:e=x∨H e=some (.own x))(k:∀b u,b≠e→h.get? b=some u→h'.get? b=some u)(heo:∃u,h'.get? e=some u)
  (new:Zbw P w (upd H x o') h' x o'):HOk P w (upd H x o') h':=fun b u q=>by
 have nown:∀c y,H c=some (.own y)→c≠x:=fun c y r z=>by subst z;rw[r] at mu;exact mu
 have ntup:∀c xs,H c=some (.tup xs)→c≠x:=fun c xs r z=>by subst z;rw[r] at mu;exact mu
 by_cases hb:b=x
 ·subst hb;rw[Zad] at q;cases q;exact new
 ·rw[Zaq hb] at q;by_cases hbe:b=e
  ·have q':H b=some (.own x):=by
    rcases he with z|z
    ·exact absurd (hbe.trans z) hb
    ·rw[hbe];exact z
   rw[q] at q';cases q';obtain⟨v,hv⟩:=heo;exact⟨v,by rw[hbe];exact hv⟩
  ·refine(ok b u q).stay (fun c v hc r=>k c v ?_ r) (fun c r=>by rw[Zaq (nown c b r)];exact r) fun c xs r=>by rw[Zaq (ntup c xs r)];exact r
   rcases hc with rfl|hc
   ·exact hbe
   ·rintro rfl;rcases he with z|z
    ·exact nown c b hc z
    ·rw[hc] at z;cases z;exact hb rfl
end
structure Un (fs ex:List Addr)(H H':Hp)(h h':Heap):Prop where
 keep:∀b o,h.get? b=some o→H b=none→b∉fs→b∉ex→h'.get? b=some o
 slot:∀b o,h.get? b=some o→H b=none→b∈fs→b∉ex→∃sl,h'.get? b=some {o with slots:=sl }
 free:∀b o,h.get? b=some o→H b=none→b∉ex→H' b=none
 there:∀b o,h.get? b=some o→b∉ex→∃o',h'.get? b=some o'
 tups:∀b xs,H b=some (.tup xs)→H' b=some (.tup xs)
 frzs:∀b o u,H b=some (.frz o u)→H' b=some (.frz o u)
 tbls:∀b ps,H b=some (.tbl ps)→∃more,H' b=some (.tbl (ps++more))
section
variable {fs fs' ex ex':List Addr}{H H1 H2:Hp}{h1 h2:Heap}{x e:Addr}{o:HO}
theorem Un.any (u:Un fs ex H H1 h h1){ob:Obj}(q:h.get? b=some ob)(n:H b=none)(hx:b∉ex):∃sl,h1.get? b=some {ob with slots:=sl }:=by
 by_cases hb:b∈fs
 ·exact u.slot b ob q n hb hx
 ·exact⟨ob.slots,u.keep b ob q n hb hx⟩
theorem Un.kept (k:∀b u,h.get? b=some u→h'.get? b=some u):Un fs ex H H h h':=
 ⟨fun b ob q _ _ _=>k b ob q,fun b ob q _ _ _=>⟨ob.slots,k b ob q⟩,fun _ _ _ n _=>n,fun b ob q _=>⟨ob,k b ob q⟩,fun _ _ q=>q,fun _ _ _ q=>q,fun _ ps q=>⟨#[],by rw[q];simp⟩⟩
theorem Un.refl:Un fs ex H H h h:=Un.kept fun _ _ q=>q
theorem Un.laid (k:∀b u,h.get? b=some u→h'.get? b=some u)(hp:h.objs.size≤a)(hn:H a=none):Un fs ex H (upd H a o) h h' where
 keep:=fun b u q _ _ _=>k b u q
 slot:=fun b u q _ _ _=>⟨u.slots,k b u q⟩
 free:=fun b u q n _=>by rw[Zaq (QaM (QaP (Qan q) hp))];exact n
 there:=fun b u q _=>⟨u,k b u q⟩
 tups:=fun b xs q=>by rw[Zaq (Zar q hn)];exact q
 frzs:=fun b u xs q=>by rw[Zaq (Zar q hn)];exact q
 tbls:=fun b ps q=>⟨#[],by rw[Zaq (Zar q hn),q];simp⟩
theorem Un.write (mu:Mut (H x))(he:e=x∨H e=some (.own x))(k:∀b u,b≠e→h.get? b=some u→h'.get? b=some u)(heo:∃u,h'.get? e=some u):Un fs ex H (upd H x o) h h':=by
 have hx:∀b,H b=none→b≠x:=fun b n z=>by subst z;rw[n] at mu;exact mu
 have hb:∀b,H b=none→b≠e:=fun b n z=>by
  subst z;rcases he with r|r
  ·exact hx b n r
  ·rw[n] at r;cases r
 have hm:∀b u,H b=some u→¬Mut (some u)→b≠x:=fun b u q nm z=>by subst z;rw[q] at mu;exact nm mu
 refine⟨fun b u q n _ _=>k b u (hb b n) q,fun b u q n _ _=>⟨u.slots,k b u (hb b n) q⟩,fun b u q n _=>by rw[Zaq (hx b n)];exact n,fun b u q _=> ?_,
  fun b xs q=>by rw[Zaq (hm b _ q fun z=>z)];exact q,fun b u xs q=>by rw[Zaq (hm b _ q fun z=>z)];exact q,fun b ps q=>⟨#[],by rw[Zaq (hm b _ q fun z=>z),q];simp⟩⟩
 by_cases hbe:b=e
 ·subst hbe;exact heo
 ·exact⟨u,k b u hbe q⟩
end
def trk (h:Heap)(H:Hp):List Addr:=(List.range h.objs.size).filter fun a=>(H a).isSome
def Zoc (h:Heap)(H:Hp):Heap:=PySem.W.hideAll h (trk h H)
theorem ZlQ (h:Heap)(H:Hp):(Zoc h H).objs.size=h.objs.size:=PySem.W.hideAll_size _ _
theorem Zod {H:Hp}(e:h.get? b=some o)(n:H b=none):(Zoc h H).get? b=some o:=
 PySem.W.hideAll_get _ e fun hm=>by
  have q:(H b).isSome=true:=(Qdy.mp hm).2;rw[n] at q;simp at q
theorem Zqs {H:Hp}(e:(Zoc h H).get? b=some o):h.get? b=some o∧H b=none:=by
 have e':h.get? b=some o:=PySem.W.of_hideAll (trk h H) e;refine⟨e',?_⟩
 cases q:H b with
 |none=>rfl
 |some x=>
  have hm:b∈trk h H:=Qdy.mpr ⟨QbD.mpr (Qan e'),by simp[q]⟩;have z:(Zoc h H).get? b=none:=PySem.W.hideAll_none (trk h H) hm;rw[z] at e;cases e
def Zqt (g h:Heap)(L:Addr):List (Addr×Obj):=(List.range h.objs.size).filterMap fun a=>if a=L∨(g.get? a).isSome=true then none else(h.get? a).map fun o=>(a,o)
def rest (g h:Heap)(L d:Addr):List (Addr×Obj):=(Zqt g h L).filter fun p=>decide (p.1≠d)
structure Mod (K:FJ)(mg:Str→Option Value)(base:Heap):Prop where
 kin:K.In base
 glob:base.Ns mainGlobals mg
 blt:∃mb,base.Ns builtinsNs mb∧∀x:Str,x≠ "__name__" →mb x=bootBuiltins x
 nolimit:base.NoLimit
structure Cx where
 prog:Program
 w:World
 K:FJ
 mg:Str→Option Value
 base:Heap
 A:Around
 N:List Str
 s₀:Shared
 H₀:Hp
 env:Env
 outer:List Env
 stack:List Env
 ex:List Addr
 fn:Str→Bool
 calm:Bool
 pn:List (Addr×Obj)
 xe:Value→Shared→Prop
def frs (l:List Env):List Addr:=l.filterMap (·.frame)
abbrev Cx.fs (X:Cx):List Addr:=frs X.outer
def Vis (sc:Scope)(x:Str):Prop:=sc.names.lookup x=some .local∨sc.names.lookup x=some .cell∨sc.names.lookup x=some .free
def Loc (sc:Scope)(x:Str):Prop:=sc.names.lookup x=some .local∨sc.names.lookup x=some .cell
def Zut (env:Env)(h:Heap)(m:Str→Option Value)(x:Str)(u:Value):Prop:=
 (env.kindOf x=some .local∧m x=some u)∨((env.kindOf x=some .cell∨env.kindOf x=some .free)∧∃c,env.cells.lookup x=some c∧h.IsCell c (some u))
structure Cx.Ok (X:Cx):Prop where
 mod:Mod X.K X.mg X.base
 kind:X.env.scope.kind= .function
 glob:X.env.globals=mainGlobals
 blt:X.env.builtins=builtinsNs
 above:X.s₀.heap.objs.size≤X.env.locals
 inj:∀x y c,X.env.cells.lookup x=some c→X.env.cells.lookup y=some c→x=y
 has:∀x,(X.env.kindOf x=some .cell∨X.env.kindOf x=some .free)→∃c,X.env.cells.lookup x=some c
 cab:∀x c,X.fn x=true→X.env.cells.lookup x=some c→X.s₀.heap.objs.size≤c
 hd:X.calm=true→X.A.handled=none
 frames:X.A.frames=some X.stack
 stk:X.stack=X.outer∨(X.stack=X.env::X.outer∧X.env.frame=some X.env.locals)
 exf:∀b∈X.ex,b≠X.env.locals∧∀x c,X.env.cells.lookup x=some c→c≠b
 bs:∀b o,X.base.get? b=some o→X.s₀.heap.get? b=some o∧X.H₀ b=none
 bsz:X.base.objs.size≤X.s₀.heap.objs.size
 noex:∀b o,X.base.get? b=some o→b∉X.ex
 exfs:∀b∈X.ex,b∉X.fs
 funs:X.s₀.heap.FunFrames X.base X.outer
 frf:∀b∈X.fs,X.H₀ b=none
structure Inv (X:Cx)(qa:List (Addr×Obj))(σ:List (Option V))(H:Hp)(s:Shared):Prop where
 ok:X.Ok
 os:s.os=X.s₀.os
 bare:AllBare s.gens
 base:Un X.fs X.ex X.H₀ H X.s₀.heap s.heap
 loc:∃m,s.heap.Ns X.env.locals m∧∀(i:Nat)(x:Str)(v:V),X.N[i]?=some x→σ[i]?=some (some v)→Vis X.env.scope x→∃u,Zbf v u∧Zut X.env s.heap m x u
 cell:∀x c,X.env.cells.lookup x=some c→∃v,s.heap.IsCell c v
 free:H X.env.locals=none
 freeC:∀x c,X.env.cells.lookup x=some c→H c=none
 pin:∀p∈X.pn++qa,s.heap.get? p.1=some p.2∧H p.1=none∧p.1≠X.env.locals∧p.1∉X.fs∧∀v,p.2.data≠ .cell v
 hok:HOk X.prog X.w H s.heap
 len:σ.length=X.N.length
section
variable {X:Cx}{σ:List (Option V)}{H H':Hp}
theorem Cx.Ok.nofr (ok:X.Ok)(e:X.base.get? b=some o):b∉X.fs:=fun hb=>by
 have:=(ok.funs.mem hb).1;rw[e] at this;cases this
theorem Inv.bs (I:Inv X qa σ H s):∀b o,X.base.get? b=some o→s.heap.get? b=some o∧H b=none:=fun b o e=>
 ⟨I.base.keep b o (I.ok.bs b o e).1 (I.ok.bs b o e).2 (I.ok.nofr e) (I.ok.noex b o e),I.base.free b o (I.ok.bs b o e).1 (I.ok.bs b o e).2 (I.ok.noex b o e)⟩
theorem Inv.bk (I:Inv X qa σ H s):∀b o,X.base.get? b=some o→s.heap.get? b=some o:=fun b o e=>(I.bs b o e).1
theorem Inv.mod (I:Inv X qa σ H s):Mod X.K X.mg X.base:=I.ok.mod
theorem Inv.kIn (I:Inv X qa σ H s):X.K.In s.heap:=I.ok.mod.kin.keeps I.bk
theorem Inv.lt (I:Inv X qa σ H s):X.env.locals<s.heap.objs.size:=let⟨_,hn,_⟩:=I.loc;hn.lt
theorem Inv.sz (I:Inv X qa σ H s):X.s₀.heap.objs.size≤s.heap.objs.size:=QaW I.ok.above (QbH I.lt)
theorem Inv.nofs (I:Inv X qa σ H s)(h:s.heap.objs.size≤a):a∉X.fs:=fun hb=>by
 obtain⟨_,o,ho,_⟩:=I.ok.funs.mem hb;exact absurd (QaP (Qan ho) (QaW I.sz h)) (Qbs _)
theorem Inv.cne (I:Inv X qa σ H s):∀x c,X.env.cells.lookup x=some c→c≠X.env.locals:=fun x c e z=>by
 obtain⟨v,o,ho,hd⟩:=I.cell x c e;obtain⟨m,⟨o',es,ep,ho',hd',_⟩,_⟩:=I.loc;rw[z,ho'] at ho;cases ho;rw[hd'] at hd;cases hd
theorem Inv.funs (I:Inv X qa σ H s):s.heap.FunFrames X.base X.outer:=by
 have all:∀(l:List Env),(∀b∈frs l,b∈X.fs)→X.s₀.heap.FunFrames X.base l→s.heap.FunFrames X.base l:=by
  intro l
  induction l with
  |nil=>intro _ _;trivial
  |cons env r ih=>
   intro hs hl;obtain⟨hk,⟨L,o,hf,hn,ho,hd⟩,hr⟩:=hl;have hL:L∈X.fs:=hs L (by unfold frs;rw[Qdz,hf];exact Qah);obtain⟨sl,e⟩:=I.base.slot L o ho (I.ok.frf L hL) hL fun z=>I.ok.exfs L z hL;exact⟨hk,⟨L,_,hf,hn,e,hd⟩,ih (fun b hb=>hs b (by unfold frs;rw[Qdz,hf];exact Qag _ hb)) hr⟩
 exact all X.outer (fun _ hb=>hb) I.ok.funs
theorem Inv.stack (I:Inv X qa σ H s):s.heap.FunFrames X.base X.stack:=by
 rcases I.ok.stk with e|⟨e,hf⟩
 ·rw[e];exact I.funs
 ·rw[e];obtain⟨m,hn,_⟩:=I.loc;refine .cons (by rw[I.ok.kind];decide) hf hn ?_ I.funs;exact Heap.get?_none_of_le (QaW I.ok.bsz I.ok.above)
theorem Inv.stkSub (I:Inv X qa σ H s):∀b∈frs X.stack,b∈X.env.locals::X.fs:=fun b hb=>by
 rcases I.ok.stk with e|⟨e,hf⟩
 ·rw[e] at hb;exact Qag _ hb
 ·rw[e] at hb;unfold frs at hb;rw[Qdz,hf] at hb;exact hb
theorem Inv.stkFree (I:Inv X qa σ H s):∀b∈frs X.stack,H b=none:=fun b hb=>by
 rcases Qaw.mp (I.stkSub b hb) with e|hb
 ·rw[e];exact I.free
 ·obtain⟨_,o,ho,_⟩:=I.ok.funs.mem hb;exact I.base.free b o ho (I.ok.frf b hb) fun z=>I.ok.exfs b z hb
theorem Inv.step (I:Inv X qa σ H s)
  (hch:∀b∈ch,(b∈X.ex∨X.s₀.heap.objs.size≤b)∧b≠X.env.locals∧(∀x c,X.env.cells.lookup x=some c→c≠b)∧∀p∈X.pn++qa,p.1≠b)
  (keep:∀b o,b≠X.env.locals→b∉X.fs→b∉ch→s.heap.get? b=some o→H b=none→h'.get? b=some o)
  (slot:∀b o,b≠X.env.locals→b∈X.fs→b∉ch→s.heap.get? b=some o→H b=none→∃sl,h'.get? b=some {o with slots:=sl }) (free:∀b o,b∉ch→s.heap.get? b=some o→H b=none→H' b=none)
  (there:∀b o,b∉ch→s.heap.get? b=some o→∃o',h'.get? b=some o')
  (tups:∀b xs,H b=some (.tup xs)→H' b=some (.tup xs)) (frzs:∀b o u,H b=some (.frz o u)→H' b=some (.frz o u)) (tbls:∀b ps,H b=some (.tbl ps)→∃more,H' b=some (.tbl (ps++more)))
  (ns:∀m,s.heap.Ns X.env.locals m→h'.Ns X.env.locals m) (hok:HOk X.prog X.w H' h') (hg:AllBare g'):
  Inv X qa σ H' {s with heap:=h',gens:=g',drawn:=d',toks:=t' }:=by
 have neL:∀b o,X.s₀.heap.get? b=some o→b≠X.env.locals:=fun b o e=>QaM (QaP (Qan e) I.ok.above)
 have neC:∀b o,X.s₀.heap.get? b=some o→b∉X.ex→b∉ch:=fun b o e hx hb=>by
  rcases(hch b hb).1 with z|z
  ·exact hx z
  ·exact absurd (QaP (Qan e) z) (Qbs _)
 have cellK:∀x c,X.env.cells.lookup x=some c→∀v,s.heap.IsCell c v→h'.IsCell c v:=fun x c e v ⟨o,ho,hd⟩=>by
  have nch:c∉ch:=fun z=>(hch c z).2.2.1 x c e rfl;by_cases hc:c∈X.fs
  ·obtain⟨sl,q⟩:=slot c o (I.cne x c e) hc nch ho (I.freeC x c e);exact⟨_,q,hd⟩
  ·exact⟨o,keep c o (I.cne x c e) hc nch ho (I.freeC x c e),hd⟩
 refine⟨I.ok,I.os,hg,⟨fun b o e n hb hx=> ?_,fun b o e n hb hx=> ?_,fun b o e n hx=> ?_,fun b o e hx=> ?_,fun b xs e=>tups b xs (I.base.tups b xs e),fun b o xs e=>frzs b o xs (I.base.frzs b o xs e),fun b ps e=> ?_⟩,?_,fun x c e=> ?_,?_,fun x c e=> ?_,fun p hp=> ?_,hok,I.len⟩
 ·exact keep b o (neL b o e) hb (neC b o e hx) (I.base.keep b o e n hb hx) (I.base.free b o e n hx)
 ·obtain⟨sl,e1⟩:=I.base.slot b o e n hb hx;obtain⟨sl',e2⟩:=slot b _ (neL b o e) hb (neC b o e hx) e1 (I.base.free b o e n hx);exact⟨sl',e2⟩
 ·obtain⟨o',e1⟩:=I.base.there b o e hx;exact free b o' (neC b o e hx) e1 (I.base.free b o e n hx)
 ·obtain⟨o',e1⟩:=I.base.there b o e hx;exact there b o' (neC b o e hx) e1
 ·obtain⟨m1,e1⟩:=I.base.tbls b ps e;obtain⟨m2,e2⟩:=tbls b _ e1;exact⟨m1++m2,by rw[e2,Array.append_assoc]⟩
 ·obtain⟨m,hn,hl⟩:=I.loc;refine⟨m,ns m hn,fun i x v e1 e2 e3=> ?_⟩;obtain⟨u,r,l⟩:=hl i x v e1 e2 e3;refine⟨u,r,?_⟩;rcases l with l|⟨k,c,e,z⟩
  ·exact .inl l
  ·exact .inr ⟨k,c,e,cellK x c e _ z⟩
 ·obtain⟨v,z⟩:=I.cell x c e;exact⟨v,cellK x c e v z⟩
 ·obtain⟨m,⟨o,_,_,ho,_⟩,_⟩:=I.loc;exact free _ o (fun z=>(hch _ z).2.1 rfl) ho I.free
 ·obtain⟨v,o,ho,hd⟩:=I.cell x c e;exact free c o (fun z=>(hch c z).2.2.1 x c e rfl) ho (I.freeC x c e)
 ·obtain⟨e,n,ne,nf,d⟩:=I.pin p hp;have nch:p.1∉ch:=fun z=>(hch p.1 z).2.2.2 p hp rfl;exact⟨keep p.1 p.2 ne nf nch e n,free p.1 p.2 nch e n,ne,nf,d⟩
theorem Inv.un (I:Inv X qa σ H s)(u:Un X.fs [] H H' s.heap h')(hok:HOk X.prog X.w H' h'):Inv X qa σ H' {s with heap:=h',toks:=t' }:=by
 obtain⟨m,⟨o,es,ep,ho,r⟩,_⟩:=id I.loc;obtain⟨sl,hL⟩:=u.any ho I.free (by simp)
 exact I.step (g':=s.gens) (d':=s.drawn) (ch:=[]) (fun _ z=>nomatch z) (fun b o _ hb _ e n=>u.keep b o e n hb (by simp)) (fun b o _ hb _ e n=>u.slot b o e n hb (by simp)) (fun b o _ e n=>u.free b o e n (by simp)) (fun b o _ e=>u.there b o e (by simp)) u.tups u.frzs u.tbls (fun m' hm=>by
  obtain⟨o',es',ep',ho',r'⟩:=hm
  rw[ho] at ho';cases ho'
  exact⟨_,es',ep',hL,r'⟩) hok I.bare
theorem Inv.call (I:Inv X qa σ H s)(u:Un (frs X.stack) ch H H' s.heap h')(hok:HOk X.prog X.w H' h')(hg:AllBare g')
  (hch:∀b∈ch,(b∈X.ex∨X.s₀.heap.objs.size≤b)∧b≠X.env.locals∧(∀x c,X.env.cells.lookup x=some c→c≠b)∧∀p∈X.pn++qa,p.1≠b):
  Inv X qa σ H' {s with heap:=h',gens:=g',drawn:=d',toks:=t' }:=by
 obtain⟨m,⟨o,es,ep,ho,r⟩,_⟩:=id I.loc;obtain⟨sl,hL⟩:=u.any ho I.free fun z=>(hch _ z).2.1 rfl
 exact I.step (ch:=ch) hch (fun b o hL hb hc e n=>u.keep b o e n (fun z=>(Qaw.mp (I.stkSub b z)).elim hL hb) hc) (fun b o _ _ hc e n=>u.any e n hc) (fun b o hc e n=>u.free b o e n hc) (fun b o hc e=>u.there b o e hc) u.tups u.frzs u.tbls (fun m' hm=>by
  obtain⟨o',es',ep',ho',r'⟩:=hm
  rw[ho] at ho';cases ho'
  exact⟨_,es',ep',hL,r'⟩) hok hg
theorem Inv.turned {it:Addr}(I:Inv X qa σ H s)(k:∀b o,b≠it→s.heap.get? b=some o→h'.get? b=some o)(hn:H it=none)(hL:it≠X.env.locals)
  (h1:it∈X.ex∨X.s₀.heap.objs.size≤it) (h2:∀x c,X.env.cells.lookup x=some c→c≠it) (h3:∀p∈X.pn++qa,p.1≠it):Inv X qa σ H {s with heap:=h',toks:=t' }:=by
 have nit:∀b u,H b=some u→b≠it:=fun b u e z=>by rw[z,hn] at e;cases e
 refine I.step (g':=s.gens) (d':=s.drawn) (ch:=[it]) (fun b hb=> ?_) (fun b o _ _ hc e _=>k b o (fun z=>hc (by simp[z])) e) (fun b o _ _ hc e _=>⟨o.slots,k b o (fun z=>hc (by simp[z])) e⟩) (fun _ _ _ _ n=>n)
  (fun b o hc e=>⟨o,k b o (fun z=>hc (by simp[z])) e⟩) (fun _ _ e=>e) (fun _ _ _ e=>e) (fun b ps e=>⟨#[],by rw[e];simp⟩) (fun m hm=> ?_) (fun b u e=> ?_) I.bare
 ·have e:b=it:=by simpa using hb
  subst e;exact⟨h1,hL,h2,h3⟩
 ·obtain⟨o,es,ep,ho,r⟩:=hm;exact⟨o,es,ep,k _ o (Ne.symm hL) ho,r⟩
 ·refine(I.hok b u e).stay (fun c v hc q=>k c v ?_ q) (fun _ q=>q) fun _ _ q=>q;rcases hc with z|z
  ·rw[z];exact nit b u e
  ·exact nit c _ z
theorem Inv.tok (I:Inv X qa σ H s)(t:Nat):Inv X qa σ H {s with toks:=t }:=I.un (h':=s.heap) (t':=t) Un.refl I.hok
theorem Inv.kept {t':Nat}(I:Inv X qa σ H s)(k:∀b u,s.heap.get? b=some u→h'.get? b=some u):Inv X qa σ H {s with heap:=h',toks:=t' }:=I.un (Un.kept k) (I.hok.kept k)
theorem Inv.laid {a:Addr}{o:HO}{t':Nat}(I:Inv X qa σ H s)(k:∀b u,s.heap.get? b=some u→h'.get? b=some u)(hp:s.heap.objs.size≤a)(new:Zbw X.prog X.w (upd H a o) h' a o):
  Inv X qa σ (upd H a o) {s with heap:=h',toks:=t' }:=I.un (Un.laid k hp (I.hok.fresh hp)) (I.hok.laid k hp new)
theorem Inv.write {x e:Addr}{o:HO}{t':Nat}(I:Inv X qa σ H s)(mu:Mut (H x))(he:e=x∨H e=some (.own x))(k:∀b u,b≠e→s.heap.get? b=some u→h'.get? b=some u)(heo:∃u,h'.get? e=some u)
  (new:Zbw X.prog X.w (upd H x o) h' x o):Inv X qa σ (upd H x o) {s with heap:=h',toks:=t' }:=I.un (Un.write mu he k heo) (I.hok.write mu he k heo new)
theorem Inv.pins_of {pins':List (Addr×Obj)}(I:Inv X qa σ H s)(h:∀p∈pins',s.heap.get? p.1=some p.2∧H p.1=none∧p.1≠X.env.locals∧p.1∉X.fs∧∀v,p.2.data≠ .cell v):Inv X pins' σ H s:=
 ⟨I.ok,I.os,I.bare,I.base,I.loc,I.cell,I.free,I.freeC,fun p hp=>(Qap.mp hp).elim (fun z=>I.pin p (QaY _ z)) (h p),I.hok,I.len⟩
theorem ZjY (hN:N.Nodup)(a:N[i]?=some x)(b:N[j]?=some x):i=j:=by
 obtain⟨h1,e1⟩:=Qab.mp a;obtain⟨h2,e2⟩:=Qab.mp b;exact(List.getElem_inj hN).mp (e1.trans e2.symm)
theorem ZlR {v:V}{Q:Unit→Shared→Prop}(I:Inv X qa σ H s)(hN:X.N.Nodup)(hi:X.N[i]?=some x)(hx:Loc X.env.scope x)(r:Zbf v u)
  (h:∀s',Inv X qa (σ.set i (some v)) H s'→(∃a,Heap.SameBut a s.heap s'.heap∧(a=X.env.locals∨X.env.cells.lookup x=some a))→Q () s') (hf:X.fn x=true∨X.env.scope.names.lookup x=some .local:=by first|exact .inl rfl|exact .inr rfl|assumption):wpAny M A (storeName X.env x u) Q E s:=by
 obtain⟨m,hn,hl⟩:=id I.loc;have hcls:(X.env.scope.kind== .class ||(X.env.scope.kind== .module && X.env.locals !=X.env.globals))=false:=by rw[I.ok.kind];rfl
 have hiσ:i<σ.length:=by rw[I.len];exact(Qab.mp hi).1
 have cne:=I.cne
 have tracked:∀{a:Addr} {h':Heap},(∃o,s.heap.get? a=some o∧H a=none)→Heap.SameBut a s.heap h'→HOk X.prog X.w H h':=fun{a h'} ha hs b ob e=>by
  obtain⟨_,_,qi⟩:=ha;refine(I.hok b ob e).stay (fun c w' hc q=>(hs.2 c ?_).trans q) (fun _ q=>q) fun _ _ q=>q;rintro rfl;rcases hc with rfl|hc
  ·rw[qi] at e;cases e
  ·rw[qi] at hc;cases hc
 rcases hx with hk|hk
 ·refine wpAny_storeName_local hk hn (fun h' hn' hs=> ?_) hcls;obtain⟨oL,_,_,hoL,_⟩:=id hn;refine h _ ⟨I.ok,I.os,I.bare,⟨fun b o e n hb hx=> ?_,fun b o e n hb hx=> ?_,I.base.free,fun b o e hx=> ?_,I.base.tups,I.base.frzs,I.base.tbls⟩,⟨_,hn',fun j y v' e1 e2 e3=> ?_⟩,fun y c e=> ?_,I.free,I.freeC,fun p hp=> ?_,tracked ⟨oL,hoL,I.free⟩ hs,by simpa using I.len⟩ ⟨_,hs,.inl rfl⟩
  ·exact(hs.2 b (QaM (QaP (Qan e) I.ok.above))).trans (I.base.keep b o e n hb hx)
  ·obtain⟨sl,e1⟩:=I.base.slot b o e n hb hx;exact⟨sl,(hs.2 b (QaM (QaP (Qan e) I.ok.above))).trans e1⟩
  ·obtain⟨o',e1⟩:=I.base.there b o e hx;exact⟨o',(hs.2 b (QaM (QaP (Qan e) I.ok.above))).trans e1⟩
  ·by_cases hj:j=i
   ·subst hj;rw[hi] at e1;cases e1;rw[Qck hiσ] at e2;cases e2;exact⟨u,r,.inl ⟨hk,by simp⟩⟩
   ·rw[QcP (Ne.symm hj)] at e2;obtain⟨u',r',q⟩:=hl j y v' e1 e2 e3;refine⟨u',r',?_⟩;rcases q with⟨k,e⟩|⟨k,c,e,z⟩
    ·refine .inl ⟨k,?_⟩
     have:y≠x:=fun e=>hj (ZjY hN e1 (e ▸ hi));simp[this,e]
    ·exact .inr ⟨k,c,e,z.sameBut hs (cne y c e)⟩
  ·obtain⟨w',z⟩:=I.cell y c e;exact⟨w',z.sameBut hs (cne y c e)⟩
  ·obtain⟨e,n,ne,nf,d⟩:=I.pin p hp;exact⟨(hs.2 p.1 ne).trans e,n,ne,nf,d⟩
 ·have hfn:X.fn x=true:=by
   rcases hf with z|z
   ·exact z
   ·rw[z] at hk;cases hk
  obtain⟨c,hc⟩:=I.ok.has x (.inl hk);obtain⟨w',z⟩:=I.cell x c hc;refine wpAny_storeName_cell I.ok.kind hk hc z (fun h' hc' hs=> ?_);obtain⟨oc,hoc,hocd⟩:=id z;refine h {s with heap:=h' } ⟨I.ok,I.os,I.bare,⟨fun b o e n hb hx=> ?_,fun b o e n hb hx=> ?_,I.base.free,fun b o e hx=> ?_,I.base.tups,I.base.frzs,I.base.tbls⟩,⟨m,hn.sameBut hs (Ne.symm (cne x c hc)),fun j y v' e1 e2 e3=> ?_⟩,fun y c' e=> ?_,I.free,I.freeC,fun p hp=> ?_,tracked ⟨oc,hoc,I.freeC x c hc⟩ hs,by simpa using I.len⟩ ⟨c,hs,.inr hc⟩
  ·exact(hs.2 b (QaM (QaP (Qan e) (I.ok.cab x c hfn hc)))).trans (I.base.keep b o e n hb hx)
  ·obtain⟨sl,e1⟩:=I.base.slot b o e n hb hx;exact⟨sl,(hs.2 b (QaM (QaP (Qan e) (I.ok.cab x c hfn hc)))).trans e1⟩
  ·obtain⟨o',e1⟩:=I.base.there b o e hx;exact⟨o',(hs.2 b (QaM (QaP (Qan e) (I.ok.cab x c hfn hc)))).trans e1⟩
  ·by_cases hj:j=i
   ·subst hj;rw[hi] at e1;cases e1;rw[Qck hiσ] at e2;cases e2;exact⟨u,r,.inr ⟨.inl hk,c,hc,hc'⟩⟩
   ·rw[QcP (Ne.symm hj)] at e2;obtain⟨u',r',q⟩:=hl j y v' e1 e2 e3;refine⟨u',r',?_⟩;rcases q with q|⟨k,c',e,z'⟩
    ·exact .inl q
    ·refine .inr ⟨k,c',e,z'.sameBut hs ?_⟩;rintro rfl;exact hj (ZjY hN e1 (I.ok.inj _ _ _ e hc ▸ hi))
  ·by_cases hcc:c'=c
   ·subst hcc;exact⟨_,hc'⟩
   ·obtain⟨w2,z2⟩:=I.cell y c' e;exact⟨w2,z2.sameBut hs hcc⟩
  ·obtain⟨e,n,ne,nf,d⟩:=I.pin p hp;refine⟨(hs.2 p.1 ?_).trans e,n,ne,nf,d⟩;intro q;rw[q,hoc] at e;have q':oc=p.2:=QbA e;exact d w' (by rw[←q'];exact hocd)
theorem ZdS {v:V}{Q:Unit→Shared→Prop}(I:Inv X qa σ H s)(hN:X.N.Nodup)(hi:X.N[i]?=some x)(hx:Loc X.env.scope x)(r:Zbf v u)
  (h:∀s',Inv X qa (σ.set i (some v)) H s'→Q () s') (hf:X.fn x=true∨X.env.scope.names.lookup x=some .local:=by first|exact .inl rfl|exact .inr rfl|assumption):wpAny M A (storeName X.env x u) Q E s:=
 ZlR I hN hi hx r (fun s' I' _=>h s' I') hf
theorem Inv.call' (I:Inv X qa σ H s)(ho:s'.os=s.os)(u:Un (frs X.stack) ch H H' s.heap s'.heap)(hok:HOk X.prog X.w H' s'.heap)(hg:AllBare s'.gens)
  (hch:∀b∈ch,(b∈X.ex∨X.s₀.heap.objs.size≤b)∧b≠X.env.locals∧(∀x c,X.env.cells.lookup x=some c→c≠b)∧∀p∈X.pn++qa,p.1≠b):Inv X qa σ H' s':=by
 obtain⟨h',g',d',t',o'⟩:=s';have e:o'=s.os:=ho;subst e;exact I.call (g':=g') (t':=t') (d':=d') u hok hg hch
end
abbrev XK:=Value→Option Addr→Hp→Prop
abbrev St:=List (Option V)
abbrev VK:=V→Hp→Prop
abbrev TE:=St→Hp→VK→Prop
abbrev TT:=St→Hp→(Bool→Hp→Prop)→Prop
abbrev TA:=St→Hp→(List V→Hp→Prop)→Prop
structure ZlJ where
 nx:St→Hp→Prop
 rt:VK
 bk:St→Hp→Prop:=fun _ _=>False
 ct:St→Hp→Prop:=fun _ _=>False
abbrev TS:=ZlJ→St→Hp→Prop
def EP (X:Cx)(qa:List (Addr×Obj))(σ:St)(Q:VK)(u:Value)(s':Shared):Prop:=∃v H',Inv X qa σ H' s'∧Zbf v u∧Q v H'
def TP (X:Cx)(qa:List (Addr×Obj))(σ:St)(Q:Bool→Hp→Prop)(b:Bool)(s':Shared):Prop:=∃H',Inv X qa σ H' s'∧Q b H'
def AP (X:Cx)(qa:List (Addr×Obj))(σ:St)(Q:List V→Hp→Prop)(us:List Value)(s':Shared):Prop:=∃vs H',Inv X qa σ H' s'∧Zbg vs us∧Q vs H'
def SP (X:Cx)(qa:List (Addr×Obj))(D:ZlJ)(f:Flow)(s':Shared):Prop:=
 match f with
 | .next=>∃σ' H',Inv X qa σ' H' s'∧D.nx σ' H'
 | .brk=>∃σ' H',Inv X qa σ' H' s'∧D.bk σ' H'
 | .cont=>∃σ' H',Inv X qa σ' H' s'∧D.ct σ' H'
 | .ret u=>∃v σ' H',Inv X qa σ' H' s'∧Zbf v u∧D.rt v H'
def PE (X:Cx)(e:Expr)(t:TE):Prop:=
 ∀(qa:List (Addr×Obj))(s:Shared)(σ:St)(H:Hp)(Q:VK),Inv X qa σ H s→t σ H Q→wpAny (model X.prog X.w) X.A (eval e X.env) (EP X qa σ Q) X.xe s
def PT (X:Cx)(e:Expr)(t:TT):Prop:=
 ∀(qa:List (Addr×Obj))(s:Shared)(σ:St)(H:Hp)(Q:Bool→Hp→Prop),Inv X qa σ H s→t σ H Q→wpAny (model X.prog X.w) X.A (isTrue e X.env (eval e X.env)) (TP X qa σ Q) X.xe s
def PW (X:Cx)(e:Expr)(t:TT):Prop:=
 ∀(qu:Sem Value)(qa:List (Addr×Obj))(s:Shared)(σ:St)(H:Hp)(Q:Bool→Hp→Prop),Inv X qa σ H s→t σ H Q→wpAny (model X.prog X.w) X.A (isTrue e X.env qu) (TP X qa σ Q) X.xe s
theorem PW.pt {X:Cx}{t:TT}(h:PW X e t):PT X e t:=h _
def PA (X:Cx)(es:List Expr)(t:TA):Prop:=
 ∀(pos:PySem.Pos)(qa:List (Addr×Obj))(s:Shared)(σ:St)(H:Hp)(Q:List V→Hp→Prop),Inv X qa σ H s→t σ H Q→wpAny (model X.prog X.w) X.A (spliced (backTo pos (starEach es X.env))) (AP X qa σ Q) X.xe s
def PS (X:Cx)(st:Stmt)(t:TS):Prop:=
 ∀(qa:List (Addr×Obj))(s:Shared)(σ:St)(H:Hp)(D:ZlJ),Inv X qa σ H s→t D σ H→wpAny (model X.prog X.w) X.A (exec st X.env) (SP X qa D) X.xe s
def PSs (X:Cx)(st:List Stmt)(t:TS):Prop:=
 ∀(qa:List (Addr×Obj))(s:Shared)(σ:St)(H:Hp)(D:ZlJ),Inv X qa σ H s→t D σ H→wpAny (model X.prog X.w) X.A (execs st X.env) (SP X qa D) X.xe s
theorem thn {α:Type}{t:Sem α}{Q Q':α→Shared→Prop}(h:wpAny M A t Q E s)(hQ:∀a s,Q a s→Q' a s):wpAny M A t Q' E s:=QbK h hQ fun _ _ x=>x
section
variable {X:Cx}
def Zag (i:Nat):TE:=fun σ H Q=>∃v,σ[i]?=some (some v)∧Q v H
def tC (v:V):TE:=fun _ H Q=>Q v H
theorem Zr2 {pos:PySem.Pos}(hN:X.N[i]?=some x)(hv:Vis X.env.scope x)(hd:(x==("__debug__" :Str))=false:=by decide)(hcd:(x==("__classdict__" :Str))=false:=by decide):PE X (.Name x pos) (Zag i):=by
 intro qa s σ H Q I h;obtain⟨v,e,h⟩:=h;obtain⟨m,hn,hl⟩:=I.loc;obtain⟨u,r,l⟩:=hl i x v hN e hv;have fin:EP X qa σ Q u s:=⟨v,H,I,r,h⟩;rcases l with⟨hk,hm⟩|⟨hk,c,hc,qh⟩
 ·exact wpAny_Name (wpAny_loadName_local I.ok.kind hk hn hm fin) hd
 ·rcases hk with hk|hk
  ·exact wpAny_Name (wpAny_loadName_cell I.ok.kind hk hc qh fin) hd
  ·exact wpAny_Name (wpAny_loadName_free I.ok.kind hk hc qh fin hcd) hd
theorem Zai {i j pos}:PE X (.Constant (.int i) j pos) (tC (.int i)):=fun _ _ _ H _ I h=>wpAny_Constant_int ⟨.int i,H,I.tok _,⟨_,rfl⟩,h⟩
theorem Zhk {b j pos}:PE X (.Constant (.bool b) j pos) (tC (.bl b)):=fun _ _ _ H _ I h=>Constant_bool ⟨.bl b,H,I,rfl,h⟩
theorem ZlS {j pos}:PE X (.Constant .none j pos) (tC .non):=fun _ _ _ H _ I h=>QeP ⟨.non,H,I,rfl,h⟩
theorem Zdv {x j pos}:PE X (.Constant (.str x) j pos) (tC (.str x)):=fun _ _ _ H _ I h=>Calls.Constant_str ⟨.str x,H,I.tok _,⟨_,rfl⟩,h⟩
def Gl (X:Cx)(x:Str):Prop:=X.env.kindOf x=some .globalImplicit
theorem ZeP {σ:St}{H:Hp}{pos:PySem.Pos}(I:Inv X qa σ H s)(hg:Gl X x)(hm:X.mg x=some u)(h:Q u s)
  (hd:(x==("__debug__" :Str))=false:=by decide):wpAny (model X.prog X.w) X.A (eval (.Name x pos) X.env) Q E s:=
 QdL I.ok.kind hg (Calls.loadGlobal_global (by rw[I.ok.glob];exact I.mod.glob.keeps I.bk) hm h) hd
theorem Zep {σ:St}{H:Hp}{pos:PySem.Pos}(I:Inv X qa σ H s)(hg:Gl X x)(hm:X.mg x=none)(hv:bootBuiltins x=some u)(h:Q u s)
  (hn:x≠ "__name__" :=by decide) (hd:(x==("__debug__" :Str))=false:=by decide):wpAny (model X.prog X.w) X.A (eval (.Name x pos) X.env) Q E s:=by
 obtain⟨mb,h1,h2⟩:=I.mod.blt;exact QdL I.ok.kind hg (Calls.loadGlobal_builtin (by rw[I.ok.glob];exact I.mod.glob.keeps I.bk) hm (by rw[I.ok.blt];exact h1.keeps I.bk) ((h2 x hn).trans hv) h) hd
theorem ZlT {v:V}{pos:PySem.Pos}(hg:Gl X x)(hm:X.mg x=some u)(r:Zbf v u)(hd:(x==("__debug__" :Str))=false:=by decide):PE X (.Name x pos) (tC v):=
 fun _ _ _ H _ I h=>ZeP I hg hm ⟨v,H,I,r,h⟩ hd
theorem Zc6 {v:V}{pos:PySem.Pos}(hg:Gl X x)(hm:X.mg x=none)(hv:bootBuiltins x=some u)(r:Zbf v u)(hn:x≠ "__name__" :=by decide)(hd:(x==("__debug__" :Str))=false:=by decide):PE X (.Name x pos) (tC v):=
 fun _ _ _ H _ I h=>Zep I hg hm hv ⟨v,H,I,r,h⟩ hn hd
variable {a b:Expr}{ta tb:TE}{pos:PySem.Pos}
def PC (X:Cx)(op:CmpOp)(a b:Expr)(t:TE):Prop:=
 ∀(qa:List (Addr×Obj))(s:Shared)(σ:St)(H:Hp)(Q:VK),Inv X qa σ H s→t σ H Q→
  wpAny (model X.prog X.w) X.A (eval a X.env) (fun v s₁=>wpAny (model X.prog X.w) X.A (eval b X.env) (fun u s₂=>wpAny (model X.prog X.w) X.A (compareOp op v u) (EP X qa σ Q) X.xe s₂) X.xe s₁) X.xe s
theorem Zoe (b:Expr)(h:op≠ .In)(h2:op≠ .NotIn):behindInMarks op b=false:=by
 have e1:(op==CmpOp.In)=false:=by cases op<;>first|rfl|exact absurd rfl h
 have e2:(op==CmpOp.NotIn)=false:=by cases op<;>first|rfl|exact absurd rfl h2
 cases b<;>simp[behindInMarks,e1,e2]
def Zuu (ta:TE):TE:=fun σ H Q=>ta σ H fun x H1=>Q (.bl (decide (x= .non))) H1
def Zr3 (ta:TE):TE:=fun σ H Q=>ta σ H fun x H1=>Q (.bl (!decide (x= .non))) H1
theorem Zbf.none_iff {x:V}(r:Zbf x v):(v==Value.none)=decide (x= .non):=by
 cases x with
 |non=>cases r;rfl
 |bl _=>cases r;rfl
 |int _=>obtain⟨t,rfl⟩:=r;rfl
 |str _=>obtain⟨t,rfl⟩:=r;rfl
 |byt _=>obtain⟨t,rfl⟩:=r;rfl
 |flt _=>obtain⟨t,rfl⟩:=r;rfl
 |ref _=>cases r;rfl
 |ty _=>cases r;rfl
theorem Zr4 {j qk}(ha:PE X a ta):PC X .Is a (.Constant .none j qk) (Zuu ta):=by
 intro qa s σ H Q I h;refine thn (ha qa s σ H _ I h) fun v s1 ⟨x,H1,I1,r1,q1⟩=> ?_;exact QeP (is_none_gen ⟨.bl _,H1,I1,by rw[r1.none_iff];rfl,q1⟩)
theorem Zqu {j qk}(ha:PE X a ta):PC X .IsNot a (.Constant .none j qk) (Zr3 ta):=by
 intro qa s σ H Q I h;refine thn (ha qa s σ H _ I h) fun v s1 ⟨x,H1,I1,r1,q1⟩=> ?_;exact QeP (isnot_none_gen ⟨.bl _,H1,I1,by rw[r1.none_iff];rfl,q1⟩)
def tB (t:TE):TT:=fun σ H Q=>t σ H fun x H1=>∃c,x= .bl c∧Q c H1
theorem ZlU {t:TE}(h:PC X op a b t)(h1:behindInMarks op b=false:=by first|exact Zoe _ (by decide) (by decide)|rfl):PT X (.Compare a [op] [b] pos) (tB t):=by
 intro qa s σ H Q I hw;refine Qev (thn (h qa s σ H _ I hw) fun v s1 h1=>thn h1 fun u s2 h2=>thn h2 fun c s3 ⟨x,H1,I1,r1,q1⟩=> ?_) h1;obtain⟨d,rfl,q⟩:=q1;cases r1;exact Qbg ⟨H1,I1,q⟩
theorem Zb4 {t:TE}(h:PE X e t)(he:∀qu,isTrue e X.env qu=(do let v←qu;standAt e.pos;holding [v] (truthy v)):=by intro _;rfl):PT X e (tB t):=by
 intro qa s σ H Q I hw;refine isTrue_plain (thn (h qa s σ H _ I hw) fun v s1 ⟨x,H1,I1,r1,q1⟩=> ?_) (he _);obtain⟨d,rfl,q⟩:=q1;cases r1;exact Qbg ⟨H1,I1,q⟩
variable {tA tB':TT}{rest:List Expr}
def ZrU (t u:TT):TT:=fun σ H Q=>t σ H fun c H1=>if c=true then u σ H1 Q else Q false H1
def tOr (t u:TT):TT:=fun σ H Q=>t σ H fun c H1=>if c=true then Q true H1 else u σ H1 Q
def Zn8 (t:TT):TT:=fun σ H Q=>t σ H fun c H1=>Q (!c) H1
theorem Zf1 (ha:PT X a tA):PW X (.BoolOp .And [a] pos) tA:=by
 intro wh qa s σ H Q I h;refine isTrue_and (thn (ha qa s σ H Q I h) fun c s1 e=> ?_)
 cases c with
 |true=>exact isTrue_and_nil e
 |false=>exact e
theorem Zhl (ha:PT X a tA):PW X (.BoolOp .Or [a] pos) tA:=by
 intro wh qa s σ H Q I h;refine isTrue_or (thn (ha qa s σ H Q I h) fun c s1 e=> ?_)
 cases c with
 |false=>exact isTrue_or_nil e
 |true=>exact e
theorem Zhm (ha:PT X a tA)(hb:PW X (.BoolOp .And (b::rest) pos) tB'):PW X (.BoolOp .And (a::b::rest) pos) (ZrU tA tB'):=by
 intro wh qa s σ H Q I h;refine isTrue_and (thn (ha qa s σ H _ I h) fun c s1 ⟨H1,I1,q1⟩=> ?_)
 cases c with
 |true=>exact hb wh qa s1 σ H1 Q I1 q1
 |false=>exact⟨H1,I1,q1⟩
theorem Zhn (ha:PT X a tA)(hb:PW X (.BoolOp .Or (b::rest) pos) tB'):PW X (.BoolOp .Or (a::b::rest) pos) (tOr tA tB'):=by
 intro wh qa s σ H Q I h;refine isTrue_or (thn (ha qa s σ H _ I h) fun c s1 ⟨H1,I1,q1⟩=> ?_)
 cases c with
 |true=>exact⟨H1,I1,q1⟩
 |false=>exact hb wh qa s1 σ H1 Q I1 q1
theorem Zdw (ha:PT X a tA):PT X (.UnaryOp .Not a pos) (Zn8 tA):=by
 intro qa s σ H Q I h;exact isTrue_not (ha qa s σ H (fun c H1=>Q (!c) H1) I h)
def Zc2 (ta tb:TE):TE:=fun σ H Q=>ta σ H fun x H1=>∃c,x= .bl c∧if c=true then tb σ H1 Q else Q (.bl false) H1
def ZtM (ta tb:TE):TE:=fun σ H Q=>ta σ H fun x H1=>∃c,x= .bl c∧if c=true then Q (.bl true) H1 else tb σ H1 Q
def Ziy (ta:TE):TE:=fun σ H Q=>ta σ H fun x H1=>∃c,x= .bl c∧Q (.bl (!c)) H1
theorem Zcb {op}{t:TE}(h:PE X a t):PE X (.BoolOp op [a] pos) t:=fun qa s σ H Q I hw=>BoolOp_one (h qa s σ H Q I hw)
theorem Zb5 (ha:PE X a ta)(hb:PE X (.BoolOp .And (b::rest) pos) tb):PE X (.BoolOp .And (a::b::rest) pos) (Zc2 ta tb):=by
 intro qa s σ H Q I h;refine BoolOp_and (thn (ha qa s σ H _ I h) fun v s1 ⟨x,H1,I1,r1,q1⟩=> ?_);obtain⟨c,rfl,q1⟩:=q1;cases r1;refine Qbg ?_
 cases c with
 |true=>exact hb qa s1 σ H1 Q I1 q1
 |false=>exact⟨.bl false,H1,I1,rfl,q1⟩
theorem Zr5 (ha:PE X a ta)(hb:PE X (.BoolOp .Or (b::rest) pos) tb):PE X (.BoolOp .Or (a::b::rest) pos) (ZtM ta tb):=by
 intro qa s σ H Q I h;refine BoolOp_or (thn (ha qa s σ H _ I h) fun v s1 ⟨x,H1,I1,r1,q1⟩=> ?_);obtain⟨c,rfl,q1⟩:=q1;cases r1;refine Qbg ?_
 cases c with
 |false=>exact hb qa s1 σ H1 Q I1 q1
 |true=>exact⟨.bl true,H1,I1,rfl,q1⟩
theorem ZeQ (ha:PE X a ta):PE X (.UnaryOp .Not a pos) (Ziy ta):=by
 intro qa s σ H Q I h;refine UnaryOp_ (thn (ha qa s σ H _ I h) fun v s1 ⟨x,H1,I1,r1,q1⟩=> ?_);obtain⟨c,rfl,q1⟩:=q1;cases r1;exact not_of (Qbg ⟨.bl (!c),H1,I1,rfl,q1⟩)
def tIf (t:TT)(ta tb:TE):TE:=fun σ H Q=>t σ H fun c H1=>if c=true then ta σ H1 Q else tb σ H1 Q
theorem Zdi (hc:PT X c tA)(ha:PE X a ta)(hb:PE X b tb):PE X (.IfExp c a b pos) (tIf tA ta tb):=by
 intro qa s σ H Q I h;refine wpAny_IfExp (thn (hc qa s σ H _ I h) fun d s1 ⟨H1,I1,q1⟩=> ?_)
 cases d with
 |true=>exact ha qa s1 σ H1 Q I1 q1
 |false=>exact hb qa s1 σ H1 Q I1 q1
end
def SqL (K:FJ)(H:Hp)(a:Addr)(xs:List V):Prop:=
 Rd H a (.lst xs)∨
  ∃(o:Obj)(its:Array Value)(n:Nat),K.lookup a=some o∧o.cls= .type "list" ∧o.dict=none∧o.data= .seq its n∧its.size≤sizeLine∧Zbg xs its.toList
def SqT (K:FJ)(H:Hp)(a:Addr)(xs:List V):Prop:=
 Rd H a (.tup xs)∨
  ∃(o:Obj)(its:Array Value)(n:Nat),K.lookup a=some o∧o.cls= .type "tuple" ∧o.data= .seq its n∧its.size≤sizeLine∧Zbg xs its.toList
def ZuH:Value→Option V
 | .none=>some .non
 | .bool b=>some (.bl b)
 | .int i _=>some (.int i)
 | .str x _=>some (.str x)
 | .bytes b _=>some (.byt b)
 | .float b _=>some (.flt b)
 | .ref a=>some (.ref a)
 | .type n=>some (.ty n)
 |_=>none
theorem Zbf.abs {x:V}(r:Zbf x u):ZuH u=some x:=by
 cases x with
 |non=>cases r;rfl
 |bl _=>cases r;rfl
 |int _=>obtain⟨t,rfl⟩:=r;rfl
 |str _=>obtain⟨t,rfl⟩:=r;rfl
 |byt _=>obtain⟨t,rfl⟩:=r;rfl
 |flt _=>obtain⟨t,rfl⟩:=r;rfl
 |ref _=>cases r;rfl
 |ty _=>cases r;rfl
theorem Zbf.inj {x y:V}(r:Zbf x u)(q:Zbf y u):x=y:=QbA (r.abs.symm.trans q.abs)
theorem Zbg.inj:∀{xs ys:List V} {us:List Value},Zbg xs us→Zbg ys us→xs=ys
 |_,_,_,.nil,.nil=>rfl
 |_,_,_,.cons r t,.cons r' t'=>by rw[r.inj r',Zbg.inj t t']
section
variable {X:Cx}{σ:St}{H:Hp}{xs ys:List V}
theorem SqL.of {K:FJ}(h:H a=some (.lst xs)):SqL K H a xs:=.inl (.inl h)
theorem SqT.of {K:FJ}(h:H a=some (.tup xs)):SqT K H a xs:=.inl (.inl h)
theorem Inv.list (I:Inv X qa σ H s)(h:SqL X.K H a xs):∃its:List Value,Zbg xs its∧PlainL s.heap a its.toArray∧xs.length≤sizeLine:=by
 rcases h with h|⟨o,its,n,hk,hc,hd,hs,hz,r⟩
 ·obtain⟨z,its,n,r,e⟩:=h.ok I.hok;exact⟨its,r,⟨_,n,e,rfl,rfl,rfl⟩,z⟩
 ·refine⟨its.toList,r,⟨o,n,I.kIn a o hk,hc,hd,by simpa using hs⟩,?_⟩;have e:=r.length;simp only[Qbj] at e;omega
theorem Inv.tuple (I:Inv X qa σ H s)(h:SqT X.K H a xs):∃its:List Value,Zbg xs its∧IsTup s.heap a its.toArray∧xs.length≤sizeLine:=by
 rcases h with h|⟨o,its,n,hk,hc,hs,hz,r⟩
 ·obtain⟨z,its,r,p⟩:=h.ok I.hok;exact⟨its,r,p,z⟩
 ·refine⟨its.toList,r,⟨o,I.kIn a o hk,hc,n,by simpa using hs⟩,?_⟩;have e:=r.length;simp only[Qbj] at e;omega
theorem Inv.list_inj (I:Inv X qa σ H s)(h:SqL X.K H a xs)(h':SqL X.K H a ys):xs=ys:=by
 obtain⟨its,r,⟨o,n,e,_,_,d⟩,_⟩:=I.list h;obtain⟨its',r',⟨o',n',e',_,_,d'⟩,_⟩:=I.list h';rw[e] at e';cases e';rw[d] at d';injection d' with d1 _
 have:its=its':=by simpa using congrArg Array.toList d1
 subst this;exact r.inj r'
theorem Inv.tuple_inj (I:Inv X qa σ H s)(h:SqT X.K H a xs)(h':SqT X.K H a ys):xs=ys:=by
 obtain⟨its,r,⟨o,e,_,n,d⟩,_⟩:=I.tuple h;obtain⟨its',r',⟨o',e',_,n',d'⟩,_⟩:=I.tuple h';rw[e] at e';cases e';rw[d] at d';injection d' with d1 _
 have:its=its':=by simpa using congrArg Array.toList d1
 subst this;exact r.inj r'
end
abbrev Cx.wish (X:Cx)(E:Value→Shared→Prop):Cx:={X with xe:=E }
abbrev Cx.nox (X:Cx):Cx:=X.wish fun _ _=>False
theorem Cx.Ok.wish {X:Cx}(ok:X.Ok)(E:Value→Shared→Prop):(X.wish E).Ok:=
 ⟨ok.mod,ok.kind,ok.glob,ok.blt,ok.above,ok.inj,ok.has,ok.cab,ok.hd,ok.frames,ok.stk,ok.exf,ok.bs,ok.bsz,ok.noex,ok.exfs,ok.funs,ok.frf⟩
theorem Cx.Ok.unwish {X:Cx}(ok:(X.wish E).Ok):X.Ok:=
 ⟨ok.mod,ok.kind,ok.glob,ok.blt,ok.above,ok.inj,ok.has,ok.cab,ok.hd,ok.frames,ok.stk,ok.exf,ok.bs,ok.bsz,ok.noex,ok.exfs,ok.funs,ok.frf⟩
section
variable {X:Cx}{σ:St}{H:Hp}
theorem Inv.wish (I:Inv X qa σ H s)(E:Value→Shared→Prop):Inv (X.wish E) qa σ H s:=⟨I.ok.wish E,I.os,I.bare,I.base,I.loc,I.cell,I.free,I.freeC,I.pin,I.hok,I.len⟩
theorem Inv.unwish (I:Inv (X.wish E) qa σ H s):Inv X qa σ H s:=⟨I.ok.unwish,I.os,I.bare,I.base,I.loc,I.cell,I.free,I.freeC,I.pin,I.hok,I.len⟩
theorem SP.unwish {D:ZlJ}{f:Flow}{s':Shared}(h:SP (X.wish E) qa D f s'):SP X qa D f s':=by
 cases f with
 |next=>obtain⟨σ',H',I,q⟩:=h;exact⟨σ',H',I.unwish,q⟩
 |brk=>obtain⟨σ',H',I,q⟩:=h;exact⟨σ',H',I.unwish,q⟩
 |cont=>obtain⟨σ',H',I,q⟩:=h;exact⟨σ',H',I.unwish,q⟩
 |ret u=>obtain⟨v,σ',H',I,r,q⟩:=h;exact⟨v,σ',H',I.unwish,r,q⟩
theorem PE.nox {e:Expr}{t:TE}(h:PE X.nox e t):PE X e t:=fun qa s σ H Q I hw=>
 QbK (h qa s σ H Q (I.wish _) hw) (fun _ _ ⟨v,H',I',r,q⟩=>⟨v,H',I'.unwish,r,q⟩) fun _ _ z=>False.elim z
theorem PSs.nox {st:List Stmt}{t:TS}(h:PSs X.nox st t):PSs X st t:=fun qa s σ H D I hw=>
 QbK (h qa s σ H D (I.wish _) hw) (fun _ _ q=>q.unwish) fun _ _ z=>False.elim z
end
section
variable {X:Cx}{st:Stmt}{rest:List Stmt}{t u:TS}{te:TE}{pos:PySem.Pos}
def ZcK:TS:=fun D σ H=>D.nx σ H
def ZaL (t u:TS):TS:=fun D σ H=>t {D with nx:=u D } σ H
theorem Za8:PSs X [] ZcK:=fun _ _ σ H _ I h=>QdA ⟨σ,H,I,h⟩
theorem Zae (h1:PS X st t)(h2:PSs X rest u):PSs X (st::rest) (ZaL t u):=by
 intro qa s σ H D I h;refine wpAny_execs_cons (thn (h1 qa s σ H {D with nx:=u D } I h) fun f s1 q=> ?_)
 cases f with
 |next=>
  obtain⟨σ',H',I',q⟩:=q;exact h2 qa s1 σ' H' D I' q
 |ret v=>exact q
 |brk=>exact q
 |cont=>exact q
theorem Zak (h1:PS X st t):PSs X [st] t:=by
 intro qa s σ H D I h;refine wpAny_execs_cons (thn (h1 qa s σ H D I h) fun f s1 q=> ?_)
 cases f with
 |next=>exact QdA q
 |ret v=>exact q
 |brk=>exact q
 |cont=>exact q
def Zr6:TS:=fun D σ H=>D.ct σ H
theorem Ziz:PS X (.Continue pos) Zr6:=fun _ _ σ H _ I h=>wpAny_Continue ⟨σ,H,I,h⟩
theorem Inv.quiet {σ:St}{H:Hp}(I:Inv X qa σ H s):interactive X.env=false:=by simp[interactive,I.ok.kind]
def ZbD (te:TE):TS:=fun D σ H=>te σ H fun _ H1=>D.nx σ H1
theorem ZaP (he:PE X e te)(hs:swapsWith e none pos.line X.env=pure false:=by rfl):PS X (.Expr e pos) (ZbD te):=by
 intro qa s σ H D I h;exact wpAny_Expr_any (thn (he qa s σ H _ I h) fun v s1 ⟨x,H1,I1,r1,q1⟩=>⟨σ,H1,I1,q1⟩) I.quiet hs
def ZbB (te:TE):TS:=fun D σ H=>te σ H D.rt
theorem ZaA (he:PE X e te):PS X (.Return (some e) pos) (ZbB te):=by
 intro qa s σ H D I h;exact wpAny_Return_some (thn (he qa s σ H _ I h) fun v s1 ⟨x,H1,I1,r1,q1⟩=>⟨x,σ,H1,I1,r1,q1⟩)
def Zeq (c:TT)(t u:TS):TS:=fun D σ H=>c σ H fun b H1=>if b=true then t D σ H1 else u D σ H1
theorem Zb0 {a b:List Stmt}{tc:TT}(hc:PT X c tc)(ha:PSs X a t)(hb:PSs X b u):PS X (.If c a b pos) (Zeq tc t u):=by
 intro qa s σ H D I h;refine wpAny_If (thn (hc qa s σ H _ I h) fun d s1 ⟨H1,I1,q1⟩=> ?_)
 cases d with
 |true=>exact ha qa s1 σ H1 D I1 q1
 |false=>exact hb qa s1 σ H1 D I1 q1
end
abbrev TG:=V→St→Hp→(St→Hp→Prop)→Prop
abbrev TGs:=List V→St→Hp→(St→Hp→Prop)→Prop
def PG (X:Cx)(target:Expr)(t:TG):Prop:=
 ∀(qa:List (Addr×Obj))(s:Shared)(σ:St)(H:Hp)(v:V)(u:Value)(Q:St→Hp→Prop),Inv X qa σ H s→Zbf v u→t v σ H Q→
  wpAny (model X.prog X.w) X.A (assign target X.env u) (fun _ s'=>∃σ' H',Inv X qa σ' H' s'∧Q σ' H') X.xe s
def PGs (X:Cx)(ts:List Expr)(t:TGs):Prop:=
 ∀(qa:List (Addr×Obj))(s:Shared)(σ:St)(H:Hp)(vs:List V)(us:List Value)(Q:St→Hp→Prop),Inv X qa σ H s→Zbg vs us→t vs σ H Q→
  wpAny (model X.prog X.w) X.A (assignInOrder ((assignEach ts X.env).map (·.2)) us) (fun _ s'=>∃σ' H',Inv X qa σ' H' s'∧Q σ' H') X.xe s
abbrev ZtN:=V→V→V→Hp→(Hp→Prop)→Prop
def Zuv (X:Cx)(t:ZtN):Prop:=
 ∀(qa:List (Addr×Obj))(s:Shared)(σ:St)(H:Hp)(o i v:V)(ov iv u:Value)(Q:Hp→Prop),Inv X qa σ H s→Zbf o ov→Zbf i iv→Zbf v u→t o i v H Q→
  wpAny (model X.prog X.w) X.A (setItem ov iv u) (fun _ s'=>∃H',Inv X qa σ H' s'∧Q H') X.xe s
abbrev TIp:=V→V→Hp→VK→Prop
def PIp (X:Cx)(op:Operator)(t:TIp):Prop:=
 ∀(qa:List (Addr×Obj))(s:Shared)(σ:St)(H:Hp)(x y:V)(v u:Value)(Q:VK),Inv X qa σ H s→Zbf x v→Zbf y u→t x y H Q→
  wpAny (model X.prog X.w) X.A (inplaceOp op v u) (EP X qa σ Q) X.xe s
section
variable {X:Cx}{pos:PySem.Pos}
def Zan (i:Nat):TG:=fun v σ H Q=>Q (σ.set i (some v)) H
theorem Zaj (hN:X.N.Nodup)(hi:X.N[i]?=some x)(hx:Loc X.env.scope x)(hf:X.fn x=true∨X.env.scope.names.lookup x=some .local:=by first|exact .inl rfl|exact .inr rfl|assumption):PG X (.Name x pos) (Zan i):=by
 intro qa s σ H v u Q I r h;exact wpAny_assign_Name (ZdS I hN hi hx r (fun s' I'=>⟨_,H,I',h⟩) hf)
def ZcN:TGs:=fun vs σ H Q=>vs=[]∧Q σ H
def ZaC (t:TG)(u:TGs):TGs:=fun vs σ H Q=>∃v r,vs=v::r∧t v σ H fun σ' H'=>u r σ' H' Q
theorem ZaE:PGs X [] ZcN:=by
 intro qa s σ H vs us Q I r h;obtain⟨e,h⟩:=h;subst e;cases r;exact assignInOrder_nil ⟨σ,H,I,h⟩
theorem Zah {t:TG}{u:TGs}(h1:PG X e t)(h2:PGs X es u)
  (hs:(assignEach (e::es) X.env).map (·.2)=assign e X.env::(assignEach es X.env).map (·.2):=by rfl):PGs X (e::es) (ZaC t u):=by
 intro qa s σ H vs us Q I r h;obtain⟨v,vr,e1,h⟩:=h;subst e1
 cases r with
 |cons r rr=>
  rw[hs];refine QdP (thn (h1 qa s σ H _ _ _ I r h) fun _ s1 ⟨σ1,H1,I1,q1⟩=> ?_);exact h2 qa s1 σ1 H1 _ _ Q I1 rr q1
def Zcp (K:FJ)(n:Nat)(t:TGs):TG:=fun v σ H Q=>∃a xs,v= .ref a∧SqT K H a xs∧xs.length=n∧t xs σ H Q
theorem ZaY {k:Nat}{t:TGs}(hc:X.calm=true)(h:PGs X es t)
  (hn:(assignEach es X.env).length=n:=by rfl) (hst:(assignEach es X.env).findIdx? (·.1)=none:=by rfl):PG X (.Tuple es k pos) (Zcp X.K n t):=by
 intro qa s σ H v u Q I r hw;obtain⟨a,xs,e1,hq,hl,hw⟩:=hw;subst e1;cases r;obtain⟨its,rv,ht,hz⟩:=I.tuple hq;refine assign_Tuple_tuple (I.ok.hd hc) ht (by simp[hn,←hl,rv.length]) hst fun h' hx=> ?_;have I1:Inv X qa σ H {s with heap:=h' }:=I.kept (t':=s.toks) fun b o e=>hx b o (QaM (Qan e)) e;exact h qa _ σ H xs _ Q I1 (by simpa using rv) hw
def ZrV (to ti:TE)(t:ZtN):TG:=fun v σ H Q=>to σ H fun o H1=>ti σ H1 fun i H2=>t o i v H2 fun H3=>Q σ H3
theorem Zho {o i:Expr}{to ti:TE}{t:ZtN}(ho:PE X o to)(hi:PE X i ti)(hs:Zuv X t)
  (ha:∀v,assign (.Subscript o i pos) X.env v=(do
   let ov←holding [v] (eval o X.env)
   let iv←holding [v,ov] (eval i X.env)
   standAt pos
   holding [v,ov,iv] (setItem ov iv v)
   release [v,ov,iv] []):=by intro _;rfl):PG X (.Subscript o i pos) (ZrV to ti t):=by
 intro qa s σ H v u Q I r h;rw[ha];refine Qaa (Qbz (thn (ho qa s σ H _ I h) fun ov s1 ⟨x,H1,I1,r1,q1⟩=> ?_));refine Qaa (Qbz (thn (hi qa s1 σ H1 _ I1 q1) fun iv s2 ⟨y,H2,I2,r2,q2⟩=> ?_));refine Qaa (Qdu (Qaa (Qbz (thn (hs qa s2 σ H2 x y v ov iv u _ I2 r1 r2 r q2) fun _ s3 ⟨H3,I3,q3⟩=> ?_))));exact wpAny_release ⟨σ,H3,I3,q3⟩
def ZaW (te:TE)(g:TG):TS:=fun D σ H=>te σ H fun x H1=>g x σ H1 D.nx
theorem Za9 {te:TE}{g:TG}(he:PE X e te)(hg:PG X tg g)(hs:swapsWithSole [tg] e pos.line X.env=pure false:=by rfl)(hw:swappedStores [tg] e X.env=pure none:=by rfl)
  (h1:(assignEach [tg] X.env).map (·.2)=[assign tg X.env]:=by rfl):PS X (.Assign [tg] e pos) (ZaW te g):=by
 intro qa s σ H D I h;refine wpAny_Assign_stores (thn (he qa s σ H _ I h) fun v s1 ⟨x,H1,I1,r1,q1⟩=> ?_) hs hw;rw[h1];exact thn (hg qa s1 σ H1 x v _ I1 r1 q1) fun _ s2 q=>q
theorem Zat {te:TE}(hN:X.N.Nodup)(hi:X.N[i]?=some x)(hx:Loc X.env.scope x)(he:PE X e te)(hs:swapsWith e (some (.Name x qk)) pos.line X.env=pure false:=by rfl)(hf:X.fn x=true∨X.env.scope.names.lookup x=some .local:=by first|exact .inl rfl|exact .inr rfl|assumption):
  PS X (.Assign [.Name x qk] e pos) (ZaW te (Zan i)):=by
 intro qa s σ H D I h;refine wpAny_Assign_Name (thn (he qa s σ H _ I h) fun v s1 ⟨y,H1,I1,r1,q1⟩=> ?_) hs;exact ZdS I1 hN hi hx r1 (fun s2 I2=>⟨_,H1,I2,q1⟩) hf
def Zuw (i j:Nat)(ta:TA):TS:=fun D σ H=>ta σ H fun vs H1=>∃v w,vs=[v,w]∧D.nx ((σ.set i (some v)).set j (some w)) H1
theorem zL0:0≤sizeLine:=by decide
theorem zL1:1≤sizeLine:=by decide
theorem zL2:2≤sizeLine:=by decide
theorem zL3:3≤sizeLine:=by decide
theorem zL4:4≤sizeLine:=by decide
theorem zL8:8≤sizeLine:=by decide
theorem Zr7 {y:Str}{a b:Expr}{ta:TA}{px py pt:PySem.Pos}{kt k2 pt2}(hc:X.calm=true)(hN:X.N.Nodup)(hi:X.N[i]?=some x)(hj:X.N[j]?=some y)(hij:i≠j)
  (hx:X.env.scope.names.lookup x=some .local) (hy:X.env.scope.names.lookup y=some .local) (ha:PA X [a,b] ta)
  (hw:swappedStores [.Tuple [.Name x px,.Name y py] kt pt] (.Tuple [a,b] k2 pt2) X.env=pure (some [x,y]))
  (hs:swapsWithSole [.Tuple [.Name x px,.Name y py] kt pt] (.Tuple [a,b] k2 pt2) pos.line X.env=pure false:=by rfl):
  PS X (.Assign [.Tuple [.Name x px,.Name y py] kt pt] (.Tuple [a,b] k2 pt2) pos) (Zuw i j ta):=by
 intro qa s σ H D I h;rw[exec_Assign_arm];refine Qaa (Qdu ?_);rw[hs];refine Qaa (Qak ?_);rw[Qn (by decide)];refine Qaa (Tuple_ (thn (ha _ qa s σ H _ I h) fun us s1 ⟨vs,H1,I1,r1,q1⟩=> ?_));obtain⟨v,w,e1,q1⟩:=q1;subst e1
 obtain⟨u1,u2,rfl,rv,rw'⟩:∃u1 u2,us=[u1,u2]∧Zbf v u1∧Zbf w u2:=by
  cases r1 with
  |cons p q=>
   cases q with
   |cons p' q'=>
    cases q';exact⟨_,_,rfl,p,p'⟩
 refine Qa4 ?_ zL2;have I2:Inv X qa σ H1 {s1 with heap:=s1.heap.push {cls:=.type "tuple",data:=.seq [u1,u2].toArray } }:=I1.kept (t':=s1.toks) fun b o e=>Qac _ e;rw[hw];refine Qaa (Qak ?_);show wpAny (model X.prog X.w) X.A (do rule "assign.swapped-stores";let items←unpackItems (.ref s1.heap.objs.size) 2 none;assignInOrder [fun v=>bindName X.env y v,fun v=>bindName X.env x v] items.reverse;pure Flow.next) _ _ _;refine Qaa (Qc8 (Qaa (unpackItems_tuple (items:=#[u1,u2]) (I.ok.hd hc) (IsTup.new s1.heap _) fun h' hx'=> ?_)));have I3:=I2.kept (h':=h') (t':=s1.toks) fun b o e=>hx' b o (QaM (Qan e)) e;show wpAny _ _ (assignInOrder [fun v=>bindName X.env y v,fun v=>bindName X.env x v] [u2,u1]>>=fun _=>pure Flow.next) _ _ _;refine Qaa (QdP (wpAny_bindName (ZdS I3 hN hj (.inl hy) rw' (fun s2 I4=> ?_) (.inr hy))));refine QdP (wpAny_bindName (ZdS I4 hN hi (.inl hx) rv (fun s3 I5=>assignInOrder_nil (Qak ?_)) (.inr hx)));rw[List.set_comm _ _ (Ne.symm hij)] at I5;exact⟨_,H1,I5,q1⟩
def ZtO (i:Nat)(te:TE)(ti:TIp):TS:=fun D σ H=>∃x,σ[i]?=some (some x)∧te σ H fun y H1=>ti x y H1 fun z H2=>D.nx (σ.set i (some z)) H2
theorem ZjZ {te:TE}{op:Operator}{ti:TIp}(hN:X.N.Nodup)(hi:X.N[i]?=some x)(hx:Loc X.env.scope x)(he:PE X e te)(ho:PIp X op ti)(hf:X.fn x=true∨X.env.scope.names.lookup x=some .local:=by first|exact .inl rfl|exact .inr rfl|assumption):
  PS X (.AugAssign (.Name x qk) op e pos) (ZtO i te ti):=by
 intro qa s σ H D I h;obtain⟨v,e1,h⟩:=h;obtain⟨m,hn,hl⟩:=I.loc;have vis:Vis X.env.scope x:=by rcases hx with k|k;exact .inl k;exact .inr (.inl k)
 obtain⟨u,r,l⟩:=hl i x v hi e1 vis;refine wpAny_AugAssign_Name ?_
 have go:wpAny (model X.prog X.w) X.A (eval e X.env) (fun w s₂=>wpAny (model X.prog X.w) X.A (inplaceOp op u w) (fun r s₃=>wpAny (model X.prog X.w) X.A (storeName X.env x r) (fun _=>SP X qa D .next) X.xe s₃) X.xe s₂) X.xe s:=by
  refine thn (he qa s σ H _ I h) fun w s1 ⟨y,H1,I1,r1,q1⟩=> ?_;refine thn (ho qa s1 σ H1 v y u w _ I1 r r1 q1) fun z s2 ⟨zv,H2,I2,r2,q2⟩=> ?_;exact ZdS I2 hN hi hx r2 (fun s3 I3=>⟨_,H2,I3,q2⟩) hf
 rcases l with⟨hk,hm⟩|⟨hk,c,hc,qh⟩
 ·exact wpAny_loadName_local I.ok.kind hk hn hm go
 ·rcases hk with hk|hk
  ·exact wpAny_loadName_cell I.ok.kind hk hc qh go
  ·rcases hx with k|k
   ·have:X.env.scope.names.lookup x=some .free:=hk;rw[k] at this;cases this
   ·have:X.env.scope.names.lookup x=some .free:=hk;rw[k] at this;cases this
def ipI (f:Int→Int→Int):TIp:=fun x y H Q=>∃i j,x= .int i∧y= .int j∧Q (.int (f i j)) H
theorem Zj0:PIp X .Add (ipI fun i j=>i+j):=by
 intro qa s σ H x y v u Q I r1 r2 h;obtain⟨i,j,e1,e2,q⟩:=h;subst e1;subst e2;obtain⟨t,rfl⟩:=r1;obtain⟨t',rfl⟩:=r2;exact iadd_int ⟨.int _,H,I.tok _,⟨_,rfl⟩,q⟩
end
section
variable {X:Cx}{pos:PySem.Pos}
def Zer (c:TT)(tb:TS):TS:=fun D σ H=>∃W:Nat→St→Hp→Prop,(∃m,W m σ H)∧∀m σ H,W m σ H→
 c σ H fun b H1=>if b=true then∃N:St→Hp→Prop,(∀σ' H',N σ' H'→∃m',m'<m∧W m' σ' H')∧tb {D with nx:=N,ct:=N,bk:=D.nx } σ H1 else D.nx σ H1
theorem ZcO {tc:TT}{tb:TS}(hp:PassesOwn (model X.prog X.w) X.A X.env X.xe)(hc:PT X c tc)(hb:PSs X body tb):PS X (.While c body [] pos) (Zer tc tb):=by
 intro qa s σ H D I h;obtain⟨W,⟨m0,w0⟩,turn⟩:=h;refine wpAny_While (codeAny_whileLoop (fun n s'=>∃σ' H',Inv X qa σ' H' s'∧W n σ' H') ?_ m0 ⟨σ,H,I,w0⟩);rintro n s1 ⟨σ1,H1,I1,w1⟩;refine Qcv hp (thn (hc qa s1 σ1 H1 _ I1 (turn n σ1 H1 w1)) fun b s2 ⟨H2,I2,q2⟩=> ?_)
 cases b with
 |true=>
  obtain⟨N,hN,q2⟩:=q2;rw[Qp rfl];refine Qcv hp (thn (hb qa s2 σ1 H2 _ I2 q2) fun f s3 q3=> ?_)
  cases f with
  |next=>
   obtain⟨σ3,H3,I3,n3⟩:=q3;obtain⟨m',hm,w3⟩:=hN σ3 H3 n3;exact⟨m',hm,σ3,H3,I3,w3⟩
  |cont=>
   obtain⟨σ3,H3,I3,n3⟩:=q3;obtain⟨m',hm,w3⟩:=hN σ3 H3 n3;exact⟨m',hm,σ3,H3,I3,w3⟩
  |brk=>exact q3
  |ret v=>exact q3
 |false=>
  rw[Qn QaE];exact QdA ⟨σ1,H2,I2,q2⟩
end
structure It where
 go:Nat→Hp→Prop
 yld:Nat→Hp→V→Hp→Prop
 stop:Nat→Hp→Prop
def Zn9 (X:Cx)(qa:List (Addr×Obj))(H:Hp)(b:Addr):Prop:=
 H b=none∧b≠X.env.locals∧b∉X.fs∧(b∈X.ex∨X.s₀.heap.objs.size≤b)∧(∀x c,X.env.cells.lookup x=some c→c≠b)∧∀p∈X.pn++qa,p.1≠b
theorem Inv.fpOk {X:Cx}{σ:St}{H H':Hp}(I:Inv X qa σ H s)(hb:s.heap.objs.size≤b)(hn:H' b=none):Zn9 X qa H' b:=by
 refine⟨hn,Qbq (QaP I.lt hb),I.nofs hb,.inr (QaW I.sz hb),fun x c e z=> ?_,fun p hp z=> ?_⟩
 ·obtain⟨v,q⟩:=I.cell x c e;exact absurd (QaP q.lt (by rw[z];exact hb)) (Qbs _)
 ·exact absurd (QaP (Qan (I.pin p hp).1) (by rw[z];exact hb)) (Qbs _)
structure ZpS (P:Program)(w:World)(K:FJ)(tg:Expr)(J:It)(fp:List Addr)(it:Addr)(tn:Nat→Heap→Prop)(cm:Cx→Prop:=fun X=>X.calm=true):Prop where
 mem:it∈fp
 obj:∀i h,tn i h→∀b∈fp,∃o,h.get? b=some o∧∀v,o.data≠ .cell v
 keep:∀i h h',tn i h→(∀b∈fp,∀o,h.get? b=some o→h'.get? b=some o)→tn i h'
 item:∀(X:Cx),X.prog=P→X.w=w→X.K=K→cm X→∀(i:Nat)(qa:List (Addr×Obj))(s:Shared)(σ:St)(H:Hp)(E:Value→Shared→Prop),Inv X qa σ H s→(∀b∈fp,Zn9 X qa H b)→tn i s.heap→J.go i H→
  wpAny (model P w) X.A (pyNext (.ref it)) (fun r s1=>∃u,r=some u∧
   wpAny (model P w) X.A (letOwnedTupleGo tg (.ref it) u) (fun _ s2=>∃x H',Inv X qa σ H' s2∧Zbf x u∧J.yld i H x H'∧tn (i+1) s2.heap∧∀b∈fp,H' b=none) E s1) E s
 done:∀(X:Cx),X.prog=P→X.w=w→X.K=K→cm X→∀(i:Nat)(qa:List (Addr×Obj))(s:Shared)(σ:St)(H:Hp)(E:Value→Shared→Prop),Inv X qa σ H s→(∀b∈fp,Zn9 X qa H b)→tn i s.heap→J.stop i H→
  wpAny (model P w) X.A (pyNext (.ref it)) (fun r s1=>r=none∧Inv X qa σ H s1) E s
 self:∀(A:Around)(i:Nat)(s:Shared)(Q:Value→Shared→Prop)(E:Value→Shared→Prop),tn i s.heap→Q (.ref it) s→wpAny (model P w) A (pyIter (.ref it)) Q E s
abbrev TI:=St→Hp→(It→Hp→Prop)→Prop
def PIE (X:Cx)(qa:List (Addr×Obj))(σ:St)(tg:Expr)(R:It→Hp→Prop)(itv:Value)(s2:Shared)(cm:Cx→Prop:=fun X=>X.calm=true):Prop:=
 ∃(it:Addr)(fp:List Addr)(tn:Nat→Heap→Prop)(J:It)(H':Hp),itv= .ref it∧Inv X qa σ H' s2∧ZpS X.prog X.w X.K tg J fp it tn cm∧tn 0 s2.heap∧(∀b∈fp,Zn9 X qa H' b)∧R J H'
def PI (X:Cx)(tg qf:Expr)(wi:TI)(cm:Cx→Prop:=fun X=>X.calm=true):Prop:=
 ∀(qa:List (Addr×Obj))(s:Shared)(σ:St)(H:Hp)(R:It→Hp→Prop),Inv X qa σ H s→wi σ H R→
  wpAny (model X.prog X.w) X.A (eval qf X.env) (fun v s1=>wpAny (model X.prog X.w) X.A (pyIter v) (fun v s2=>PIE X qa σ tg R v s2 cm) X.xe s1) X.xe s
theorem Zof {it:Addr}{n:String}{vs:Array Value}{Q:Unit→Shared→Prop}(ho:s.heap.get? it=some o)(hc:o.cls= .type n)(hd:o.data= .fields vs)
  (hn:["enumerate", "zip", "dict_itemiterator", "dict_reverseitemiterator", "odict_iterator", "itertools.zip_longest", "itertools.pairwise"].contains n=false) (hQ:Q () s):wpAny M A (letOwnedTupleGo tg (.ref it) u) Q E s:=by
 unfold letOwnedTupleGo
 cases tg<;>first
  |exact Qak hQ
  | (cases u<;>first
    |exact Qak hQ
    | (refine Qaa (wpAny_load ho ?_)
       rw[hc,hd]
       show wpAny M A (if(["enumerate", "zip", "dict_itemiterator", "dict_reverseitemiterator", "odict_iterator", "itertools.zip_longest", "itertools.pairwise"].contains n && vs[0]?==some (rawInt _))=true then _ else _) Q E s
       rw[Qn (by intro h;rw[hn,Bool.false_and] at h;cases h)]
       exact Qak hQ))
def Itl (K:FJ)(a:Addr):It:=
 ⟨fun i H=>∃xs x,SqL K H a xs∧xs[i]?=some x,fun i H x H'=>H'=H∧∀xs,SqL K H a xs→xs[i]?=some x,fun i H=>∃xs,SqL K H a xs∧xs.length≤i⟩
def Itt (K:FJ)(a:Addr):It:=
 ⟨fun i H=>∃xs x,SqT K H a xs∧xs[i]?=some x,fun i H x H'=>H'=H∧∀xs,SqT K H a xs→xs[i]?=some x,fun i H=>∃xs,SqT K H a xs∧xs.length≤i⟩
def Itr (lo:Int)(n:Nat):It:=⟨fun i _=>i<n,fun i H x H'=>H'=H∧x= .int (lo+i),fun i _=>n≤i⟩
theorem ZlV {K:FJ}(a it:Addr):ZpS P w K tg (Itl K a) [it] it (fun i h=>h.IsListIter it a i) where
 mem:=by simp
 obj:=fun i h st b hb=>by
  have e:b=it:=by simpa using hb
  subst e;obtain⟨o,e,c,d⟩:=st;exact⟨o,e,fun v z=>by rw[d] at z;cases z⟩
 keep:=fun i h h' st k=>st.at fun o e=>k it (by simp) o e
 item:=by
  intro X hP hw hK hc i qa s σ H E I hf st hg;subst hP hw hK;obtain⟨xs,x,hq,hx⟩:=hg;obtain⟨its,rv,p,hz⟩:=I.list hq;obtain⟨u,hu,ru⟩:=rv.get hx;obtain⟨f0,f1,f2,f3,f4,f5⟩:=hf it (by simp);refine wpAny_pyNext_list_item st p.isList (x:=u) (by simpa using hu) fun h' st' sb=> ?_;have I1:Inv X qa σ H {s with heap:=h' }:=I.turned (t':=s.toks) (fun b o hb e=>(sb.2 b hb).trans e) f0 f1 f3 f4 f5;obtain⟨o,e,c,d⟩:=id st';exact⟨u,rfl,Zof (s:={s with heap:=h' }) e c d (by decide) ⟨x,H,I1,ru,⟨rfl,fun ys hy=>by rw[I.list_inj hy hq];exact hx⟩,st',fun b hb=>(hf b hb).1⟩⟩
 done:=by
  intro X hP hw hK hc i qa s σ H E I hf st hg;subst hP hw hK;obtain⟨xs,hq,hx⟩:=hg;obtain⟨its,rv,p,hz⟩:=I.list hq;obtain⟨f0,f1,f2,f3,f4,f5⟩:=hf it (by simp);have hl:=rv.length;exact wpAny_pyNext_list_end (I.ok.hd hc) st p.isList (by simp;omega) fun h' eb=>⟨rfl,I.turned (t':=s.toks) (fun b o hb e=>eb b o hb e) f0 f1 f3 f4 f5⟩
 self:=fun _ _ _ _ _ st h=>wpAny_pyIter_listiter st h
theorem ZkE {K:FJ}(a it:Addr):ZpS P w K tg (Itt K a) [it] it (fun i h=>h.IsTupleIter it a i) where
 mem:=by simp
 obj:=fun i h st b hb=>by
  have e:b=it:=by simpa using hb
  subst e;obtain⟨o,e,c,d⟩:=st;exact⟨o,e,fun v z=>by rw[d] at z;cases z⟩
 keep:=fun i h h' st k=>st.at fun o e=>k it (by simp) o e
 item:=by
  intro X hP hw hK hc i qa s σ H E I hf st hg;subst hP hw hK;obtain⟨xs,x,hq,hx⟩:=hg;obtain⟨its,rv,p,hz⟩:=I.tuple hq;obtain⟨u,hu,ru⟩:=rv.get hx;obtain⟨f0,f1,f2,f3,f4,f5⟩:=hf it (by simp);refine wpAny_pyNext_tuple_item st (show s.heap.IsTuple a its.toArray from p) (x:=u) (by simpa using hu) fun h' st' sb=> ?_;have I1:Inv X qa σ H {s with heap:=h' }:=I.turned (t':=s.toks) (fun b o hb e=>(sb.2 b hb).trans e) f0 f1 f3 f4 f5;obtain⟨o,e,c,d⟩:=id st';exact⟨u,rfl,Zof (s:={s with heap:=h' }) e c d (by decide) ⟨x,H,I1,ru,⟨rfl,fun ys hy=>by rw[I.tuple_inj hy hq];exact hx⟩,st',fun b hb=>(hf b hb).1⟩⟩
 done:=by
  intro X hP hw hK hc i qa s σ H E I hf st hg;subst hP hw hK;obtain⟨xs,hq,hx⟩:=hg;obtain⟨its,rv,p,hz⟩:=I.tuple hq;obtain⟨f0,f1,f2,f3,f4,f5⟩:=hf it (by simp);have hl:=rv.length;exact wpAny_pyNext_tuple_end (I.ok.hd hc) st (show s.heap.IsTuple a its.toArray from p) (by simp;omega) fun h' eb=>⟨rfl,I.turned (t':=s.toks) (fun b o hb e=>eb b o hb e) f0 f1 f3 f4 f5⟩
 self:=fun _ _ _ _ _ st h=>wpAny_pyIter_tupleiter st h
theorem ZkF {K:FJ}(it:Addr)(lo:Int)(n:Nat):ZpS P w K tg (Itr lo n) [it] it (fun i h=>IsRangeIter h it (lo+(i:Nat)*1) ((n:Int)-(i:Nat)) 1) where
 mem:=by simp
 obj:=fun i h st b hb=>by
  have e:b=it:=by simpa using hb
  subst e
  exact⟨_,st,fun v z=>by
   have z':Data.fields _=Data.cell v:=z
   cases z'⟩
 keep:=fun i h h' st k=>k it (by simp) _ st
 item:=by
  intro X hP hw hK hc i qa s σ H E I hf st hg;subst hP hw hK;obtain⟨f0,f1,f2,f3,f4,f5⟩:=hf it (by simp);have W:=Walks.range (prog:=X.prog) (w:=X.w) (I.ok.hd hc) it lo 1 n;refine W.item i s _ _ hg st fun v h' tk hv st' kk=> ?_;obtain⟨t,rfl⟩:=hv;have I1:Inv X qa σ H {s with heap:=h',toks:=tk }:=I.turned (fun b o hb e=>kk b o (by simpa using hb) e) f0 f1 f3 f4 f5;refine⟨_,rfl,Zof (s:={s with heap:=h',toks:=tk }) (n:= "range_iterator") st' rfl rfl (by decide) ⟨.int (lo+i),H,I1,⟨t,?_⟩,⟨rfl,rfl⟩,st',fun b hb=>(hf b hb).1⟩⟩;rw[Qc9]
 done:=by
  intro X hP hw hK hc i qa s σ H E I hf st hg;subst hP hw hK;obtain⟨f0,f1,f2,f3,f4,f5⟩:=hf it (by simp);exact wpAny_pyNext_range_end (I.ok.hd hc) st (by have:n≤i:=hg;omega) fun h' eb=>⟨rfl,I.turned (t':=s.toks) (fun b o hb e=>eb b o hb e) f0 f1 f3 f4 f5⟩
 self:=fun _ _ _ _ _ st h=>wpAny_pyIter_rangeiter st h
section
variable {X:Cx}
def Zc7 (K:FJ)(tl:TE):TI:=fun σ H R=>tl σ H fun x H1=>∃a,x= .ref a∧(∃xs,SqL K H1 a xs)∧R (Itl K a) H1
def ZuI (K:FJ)(tl:TE):TI:=fun σ H R=>tl σ H fun x H1=>∃a,x= .ref a∧(∃xs,SqT K H1 a xs)∧R (Itt K a) H1
theorem Zbn {tl:TE}(hl:PE X l tl):PI X tg l (Zc7 X.K tl):=by
 intro qa s σ H R I h;refine thn (hl qa s σ H _ I h) fun v s1 ⟨x,H1,I1,r1,q1⟩=> ?_;obtain⟨a,e,⟨xs,hq⟩,q⟩:=q1;subst e;cases r1;obtain⟨its,rv,p,hz⟩:=I1.list hq;refine Qda p.isList ?_;refine⟨s1.heap.objs.size,[s1.heap.objs.size],_,_,H1,rfl,I1.kept (t':=s1.toks) fun b o e=>Qac _ e,ZlV a _,⟨_,Qat _ rfl,rfl,rfl⟩,fun b hb=> ?_,q⟩;have e:b=s1.heap.objs.size:=by simpa using hb
 subst e;exact I1.fpOk (Qai _) (I1.hok.fresh (Qai _))
theorem Zr8 {tl:TE}(hl:PE X l tl):PI X tg l (ZuI X.K tl):=by
 intro qa s σ H R I h;refine thn (hl qa s σ H _ I h) fun v s1 ⟨x,H1,I1,r1,q1⟩=> ?_;obtain⟨a,e,⟨xs,hq⟩,q⟩:=q1;subst e;cases r1;obtain⟨its,rv,p,hz⟩:=I1.tuple hq;refine QdQ (show s1.heap.IsTuple a its.toArray from p) ?_;refine⟨s1.heap.objs.size,[s1.heap.objs.size],_,_,H1,rfl,I1.kept (t':=s1.toks) fun b o e=>Qac _ e,ZkE a _,⟨_,Qat _ rfl,rfl,rfl⟩,fun b hb=> ?_,q⟩;have e:b=s1.heap.objs.size:=by simpa using hb
 subst e;exact I1.fpOk (Qai _) (I1.hok.fresh (Qai _))
theorem Zog {σ:St}{H:Hp}{R:It→Hp→Prop}{hi:Int}{t u v:Tok}{tk:Nat}(I:Inv X qa σ H s)(h1: -(2^62)≤lo)(h2:lo<2^62)(h3: -(2^62)≤hi)(h4:hi<2^62)
  (q:R (Itr lo (hi-lo).toNat) H):wpAny (model X.prog X.w) X.A (pyIter (.ref s.heap.objs.size)) (PIE X qa σ tg R) E {s with heap:=s.heap.push {cls:=.type "range",data:=.fields #[.int lo t,.int hi u,.int 1 v] },toks:=tk }:=by
 refine wpAny_pyIter_range (IsRange.new ..) (small_one h1 h2 h3 h4) ?_;have I1:Inv X qa σ H {s with heap:=s.heap.push {cls:=.type "range",data:=.fields #[.int lo t,.int hi u,.int 1 v] },toks:=tk }:=I.kept fun b o e=>Qac _ e
 refine⟨(s.heap.push {cls:=.type "range",data:=.fields #[.int lo t,.int hi u,.int 1 v] }).objs.size,[(s.heap.push {cls:=.type "range",data:=.fields #[.int lo t,.int hi u,.int 1 v] }).objs.size],_,_,H,rfl,
  I1.kept (t':=tk) fun b o e=>Qac _ e,ZkF _ lo (hi-lo).toNat,?_,fun b hb=> ?_,q⟩
 ·have e1:lo+((0:Nat):Int)*1=lo:=by simp
  have e2:(((hi-lo).toNat:Nat):Int)-((0:Nat):Int)=Builtin.Range.rangeSize lo hi 1:=by rw[rangeSize_one];split<;>omega
  show IsRangeIter _ _ (lo+((0:Nat):Int)*1) ((((hi-lo).toNat:Nat):Int)-((0:Nat):Int)) 1;rw[e1,e2];exact Qat _ rfl
 ·have e:b=(s.heap.push {cls:=.type "range",data:=.fields #[.int lo t,.int hi u,.int 1 v] }).objs.size:=by simpa using hb
  subst e;exact I1.fpOk (Qai _) (I1.hok.fresh (Qai _))
def Zew (ta:TA):TI:=fun σ H R=>ta σ H fun vs H1=>∃j:Int,vs=[.int j]∧-(2^62)≤j∧j<2^62∧R (Itr 0 j.toNat) H1
theorem Zbq {a:Expr}{ta:TA}{pos:PySem.Pos}(hg:Gl X "range")(hm:X.mg "range" =none)(ha:PA X [a] ta)(hs:starEach [a] X.env=[(false,eval a X.env)]:=by rfl):PI X tg (.Call (.Name "range" p) [a] [] pos) (Zew ta):=by
 intro qa s σ H R I h;refine Call_ (Zep I hg hm boot_range (QbU (thn (ha pos qa s σ H _ I h) fun us s1 ⟨vs,H1,I1,r1,q1⟩=> ?_) hs rfl));obtain⟨j,e,q1,q2,q⟩:=q1;subst e
 cases r1 with
 |cons r rr=>
  cases rr;obtain⟨t,rfl⟩:=r;exact call_range_1 (Zog I1 (by omega) (by omega) q1 q2 (by simpa using q))
def ZfJ (wi:TI)(g:TG)(tb:TS):TS:=fun D σ H=>wi σ H fun J H1=>∃W:Nat→Nat→St→Hp→Prop,(∃m,W 0 m σ H1)∧∀i m σ H,W i m σ H→
 (J.stop i H∧D.nx σ H)∨(J.go i H∧∃N:St→Hp→Prop,(∀σ' H',N σ' H'→∃m',m'<m∧W (i+1) m' σ' H')∧∀x H',J.yld i H x H'→g x σ H' fun σ2 H2=>tb {D with nx:=N,ct:=N,bk:=D.nx } σ2 H2)
def Zhp (fp:List Addr)(h:Heap):List (Addr×Obj):=fp.filterMap fun b=>(h.get? b).map fun o=>(b,o)
theorem Zdj (hb:b∈fp)(e:h.get? b=some o):(b,o)∈Zhp fp h:=List.mem_filterMap.mpr ⟨b,hb,by rw[e];rfl⟩
theorem ZlW {p:Addr×Obj}(hp:p∈Zhp fp h):p.1∈fp∧h.get? p.1=some p.2:=by
 obtain⟨b,hb,e⟩:=List.mem_filterMap.mp hp
 cases q:h.get? b with
 |none=>rw[q] at e;cases e
 |some o=>
  rw[q] at e;have e':(b,o)=p:=QbA e;subst e';exact⟨hb,q⟩
theorem Inv.pinned {σ:St}{H:Hp}(I:Inv X qa σ H s)(hf:∀b∈fp,Zn9 X qa H b)(ho:∀b∈fp,∃o,s.heap.get? b=some o∧∀v,o.data≠ .cell v):Inv X (qa++Zhp fp s.heap) σ H s:=
 I.pins_of fun p hp=>(Qap.mp hp).elim (fun z=>I.pin p (QaA _ z)) fun z=>by
  obtain⟨hb,e⟩:=ZlW z;obtain⟨f0,f1,f2,_⟩:=hf p.1 hb;obtain⟨o,e',d⟩:=ho p.1 hb;rw[e] at e';cases e';exact⟨e,f0,f1,f2,d⟩
theorem Inv.unpinned {pl:List (Addr×Obj)}{σ:St}{H:Hp}(I:Inv X (qa++pl) σ H s):Inv X qa σ H s:=I.pins_of fun p hp=>I.pin p (QaA _ (QaY _ hp))
theorem ZbC {qf:Expr}{wi:TI}{g:TG}{tb:TS}{pos:PySem.Pos}(hp:PassesOwn (model X.prog X.w) X.A X.env X.xe)(hc:X.calm=true)(hi:PI X tg qf wi)(hg:PG X tg g)(hb:PSs X body tb)
  (hs:∀x,foldedSetIterable qf X.env x=pure x:=by intro _;rfl):PS X (.For tg qf body [] pos) (ZfJ wi g tb):=by
 intro qa s σ H D I h;refine wpAny_For (thn (hi qa s σ H _ I h) fun v s1 h1=>thn h1 fun itv s2 h2=> ?_) hs;obtain⟨it,fp,tn,J,H2,e,I2,T,st2,f2,W,⟨m0,w0⟩,turn⟩:=h2;subst e;have stat:∀{H':Hp},(∀b∈fp,H' b=none)→∀b∈fp,Zn9 X qa H' b:=fun hn b hb=>⟨hn b hb,(f2 b hb).2⟩;refine codeAny_forLoop_any (fun n s'=>∃i σ' H',Inv X qa σ' H' s'∧tn i s'.heap∧(∀b∈fp,H' b=none)∧W i n σ' H') ?_ m0 ⟨0,σ,H2,I2,st2,fun b hb=>(f2 b hb).1,w0⟩;rintro n s3 ⟨i,σ3,H3,I3,st3,fr3,w3⟩;rcases turn i n σ3 H3 w3 with⟨stop,qn⟩|⟨go,N,hN,step⟩
 ·refine Qcv hp (thn (T.done X rfl rfl rfl hc i qa s3 σ3 H3 X.xe I3 (stat fr3) st3 stop) fun r s4 ⟨hr,I4⟩=> ?_);subst hr;exact QdA ⟨σ3,H3,I4,qn⟩
 ·refine Qcv hp (thn (T.item X rfl rfl rfl hc i qa s3 σ3 H3 X.xe I3 (stat fr3) st3 go) fun r s4 ⟨u,hr,h4⟩=> ?_);subst hr;refine Qcv hp (thn h4 fun _ s5 ⟨x,H5,I5,r5,y5,st5,fr5⟩=> ?_);have I5':=I5.pinned (stat fr5) (T.obj _ _ st5);refine Qcv hp (thn (hg _ s5 σ3 H5 x u _ I5' r5 (step x H5 y5)) fun _ s6 ⟨σ6,H6,I6,q6⟩=> ?_);refine Qcv hp (thn (hb _ s6 σ6 H6 _ I6 q6) fun f s7 q7=> ?_)
  have again:∀{σ7:St} {H7:Hp},Inv X (qa++Zhp fp s5.heap) σ7 H7 s7→N σ7 H7→∃m,m<n∧∃i σ' H',Inv X qa σ' H' s7∧tn i s7.heap∧(∀b∈fp,H' b=none)∧W i m σ' H':=fun{σ7 H7} I7 n7=>by
   obtain⟨m',hm,w7⟩:=hN σ7 H7 n7;refine⟨m',hm,i+1,σ7,H7,I7.unpinned,T.keep _ _ _ st5 fun b hb o e=>(I7.pin (b,o) (QaA _ (QaA _ (Zdj hb e)))).1,fun b hb=> ?_,w7⟩;obtain⟨o,e,d⟩:=T.obj _ _ st5 b hb;exact(I7.pin (b,o) (QaA _ (QaA _ (Zdj hb e)))).2.1
  cases f with
  |next=>obtain⟨σ7,H7,I7,n7⟩:=q7;exact again I7 n7
  |cont=>obtain⟨σ7,H7,I7,n7⟩:=q7;exact again I7 n7
  |brk=>obtain⟨σ7,H7,I7,q7⟩:=q7;exact⟨σ7,H7,I7.unpinned,q7⟩
  |ret v=>obtain⟨x7,σ7,H7,I7,r7,q7⟩:=q7;exact⟨x7,σ7,H7,I7.unpinned,r7,q7⟩
end
theorem ZbL {K:FJ}{xs:List V}{g:TG}{tb:TS}{D:ZlJ}{σ:St}{H:Hp}(Pv:Nat→St→Hp→Prop)(h0:Pv 0 σ H)(hl:∀i σ H,i≤xs.length→Pv i σ H→SqL K H a xs)
  (hs:∀i x σ H,xs[i]?=some x→Pv i σ H→g x σ H fun σ2 H2=>tb {D with nx:=Pv (i+1),ct:=Pv (i+1),bk:=D.nx } σ2 H2) (hd:∀σ H,Pv xs.length σ H→D.nx σ H):
  ∃W:Nat→Nat→St→Hp→Prop,(∃m,W 0 m σ H)∧∀i m σ H,W i m σ H→
   ((Itl K a).stop i H∧D.nx σ H)∨((Itl K a).go i H∧∃N:St→Hp→Prop,(∀σ' H',N σ' H'→∃m',m'<m∧W (i+1) m' σ' H')∧∀x H',(Itl K a).yld i H x H'→g x σ H' fun σ2 H2=>tb {D with nx:=N,ct:=N,bk:=D.nx } σ2 H2):=by
 refine⟨fun i m σ H=>m=xs.length-i∧i≤xs.length∧Pv i σ H,⟨xs.length,by simp,QaS _,h0⟩,?_⟩;rintro i m σ H ⟨rfl,hi,p⟩;have q:=hl i σ H hi p;by_cases hlt:i<xs.length
 ·refine .inr ⟨⟨xs,xs[i],q,by simp[hlt]⟩,Pv (i+1),fun σ' H' p'=>⟨xs.length-(i+1),by omega,rfl,hlt,p'⟩,fun x H' y=> ?_⟩;obtain⟨e,y⟩:=y;subst e;exact hs i x σ _ (y xs q) p
 ·have e:i=xs.length:=by omega
  subst e;exact .inl ⟨⟨xs,q,Qai _⟩,hd σ H p⟩
theorem Zci {g:TG}{tb:TS}{D:ZlJ}{σ:St}{H:Hp}(Pv:Nat→St→Hp→Prop)(h0:Pv 0 σ H)
  (hs:∀i σ H,i<n→Pv i σ H→g (.int (lo+i)) σ H fun σ2 H2=>tb {D with nx:=Pv (i+1),ct:=Pv (i+1),bk:=D.nx } σ2 H2) (hd:∀σ H,Pv n σ H→D.nx σ H):
  ∃W:Nat→Nat→St→Hp→Prop,(∃m,W 0 m σ H)∧∀i m σ H,W i m σ H→
   ((Itr lo n).stop i H∧D.nx σ H)∨((Itr lo n).go i H∧∃N:St→Hp→Prop,(∀σ' H',N σ' H'→∃m',m'<m∧W (i+1) m' σ' H')∧∀x H',(Itr lo n).yld i H x H'→g x σ H' fun σ2 H2=>tb {D with nx:=N,ct:=N,bk:=D.nx } σ2 H2):=by
 refine⟨fun i m σ H=>m=n-i∧i≤n∧Pv i σ H,⟨n,by simp,QaS _,h0⟩,?_⟩;rintro i m σ H ⟨rfl,hi,p⟩;by_cases hlt:i<n
 ·refine .inr ⟨hlt,Pv (i+1),fun σ' H' p'=>⟨n-(i+1),by omega,rfl,hlt,p'⟩,fun x H' y=> ?_⟩;obtain⟨e,y⟩:=y;subst e y;exact hs i σ _ hlt p
 ·have e:i=n:=by omega
  subst e;exact .inl ⟨Qai _,hd σ H p⟩
theorem Zj1 {c:TT}{tb:TS}{D:ZlJ}{σ:St}{H:Hp}(Pv:St→Hp→Prop)(μ:St→Hp→Nat)(h0:Pv σ H)
  (hs:∀σ H,Pv σ H→c σ H fun b H1=>if b=true then tb {D with nx:=fun σ' H'=>Pv σ' H'∧μ σ' H'<μ σ H,ct:=fun σ' H'=>Pv σ' H'∧μ σ' H'<μ σ H,bk:=D.nx } σ H1 else D.nx σ H1)
  (mono:∀σ H Q Q',(∀b H1,Q b H1→Q' b H1)→c σ H Q→c σ H Q'):Zer c tb D σ H:=by
 refine⟨fun m σ H=>m=μ σ H∧Pv σ H,⟨_,rfl,h0⟩,?_⟩;rintro m σ H ⟨rfl,p⟩;refine mono σ H _ _ (fun b H1 q=> ?_) (hs σ H p)
 cases b with
 |true=>exact⟨_,fun σ' H' ⟨p',l⟩=>⟨_,l,rfl,p'⟩,q⟩
 |false=>exact q
abbrev R2:=V→V→Hp→VK→Prop
def OpR (X:Cx)(f:Value→Value→Sem Value)(r:R2):Prop:=
 ∀(qa:List (Addr×Obj))(s:Shared)(σ:St)(H:Hp)(x y:V)(v u:Value)(Q:VK),Inv X qa σ H s→Zbf x v→Zbf y u→r x y H Q→
  wpAny (model X.prog X.w) X.A (f v u) (EP X qa σ Q) X.xe s
def UnR (X:Cx)(f:Value→Sem Value)(r:V→Hp→VK→Prop):Prop:=
 ∀(qa:List (Addr×Obj))(s:Shared)(σ:St)(H:Hp)(x:V)(v:Value)(Q:VK),Inv X qa σ H s→Zbf x v→r x H Q→
  wpAny (model X.prog X.w) X.A (f v) (EP X qa σ Q) X.xe s
def Zcq (X:Cx)(f:Value)(r:List V→Hp→VK→Prop):Prop:=
 ∀(qa:List (Addr×Obj))(s:Shared)(σ:St)(H:Hp)(xs:List V)(us:List Value)(Q:VK),Inv X qa σ H s→Zbg xs us→r xs H Q→
  wpAny (model X.prog X.w) X.A (call f us) (EP X qa σ Q) X.xe s
def ZuJ (X:Cx)(r:V→Hp→(Bool→Hp→Prop)→Prop):Prop:=
 ∀(qa:List (Addr×Obj))(s:Shared)(σ:St)(H:Hp)(x:V)(v:Value)(Q:Bool→Hp→Prop),Inv X qa σ H s→Zbf x v→r x H Q→
  wpAny (model X.prog X.w) X.A (truthy v) (TP X qa σ Q) X.xe s
def tOp (r:R2)(ta tb:TE):TE:=fun σ H Q=>ta σ H fun x H1=>tb σ H1 fun y H2=>r x y H2 Q
def tUn (r:V→Hp→VK→Prop)(ta:TE):TE:=fun σ H Q=>ta σ H fun x H1=>r x H1 Q
def rI (C:Int→Int→Prop)(g:Int→Int→V):R2:=fun x y H Q=>∃i j,x= .int i∧y= .int j∧C i j∧Q (g i j) H
def rI0 (g:Int→Int→V):R2:=fun x y H Q=>∃i j,x= .int i∧y= .int j∧Q (g i j) H
def rU (g:Int→V):V→Hp→VK→Prop:=fun x H Q=>∃i,x= .int i∧Q (g i) H
section
variable {X:Cx}{a b:Expr}{ta tb tc:TE}{pos:PySem.Pos}
theorem ZtP (ha:PE X a ta)(hb:PE X b tb){σ:St}{H:Hp}{R:V→V→Hp→Prop}(I:Inv X qa σ H s)
  (h:ta σ H fun x H1=>tb σ H1 fun y H2=>R x y H2) {Q:Value→Shared→Prop} {f:Value→Value→Sem Value}
  (hf:∀v u s2 x y H2,Inv X qa σ H2 s2→Zbf x v→Zbf y u→R x y H2→wpAny (model X.prog X.w) X.A (f v u) Q X.xe s2):
  wpAny (model X.prog X.w) X.A (eval a X.env) (fun v s₁=>wpAny (model X.prog X.w) X.A (eval b X.env) (fun u s₂=>wpAny (model X.prog X.w) X.A (f v u) Q X.xe s₂) X.xe s₁) X.xe s:=by
 refine thn (ha qa s σ H _ I h) fun v s1 ⟨x,H1,I1,r1,q1⟩=> ?_;refine thn (hb qa s1 σ H1 _ I1 q1) fun u s2 ⟨y,H2,I2,r2,q2⟩=> ?_;exact hf v u s2 x y H2 I2 r1 r2 q2
theorem Zax {op:Operator}{r:R2}(ho:OpR X (binaryOp op) r)(ha:PE X a ta)(hb:PE X b tb):PE X (.BinOp a op b pos) (tOp r ta tb):=by
 intro qa s σ H Q I h;exact wpAny_BinOp (ZtP ha hb I h fun v u s2 x y H2 I2 rx ry q=>ho qa s2 σ H2 x y v u Q I2 rx ry q)
theorem Zex {op:UnaryOp}{r:V→Hp→VK→Prop}(ho:UnR X (unaryOp op) r)(ha:PE X a ta):PE X (.UnaryOp op a pos) (tUn r ta):=by
 intro qa s σ H Q I h;exact UnaryOp_ (thn (ha qa s σ H _ I h) fun v s1 ⟨x,H1,I1,r1,q1⟩=>ho qa s1 σ H1 x v Q I1 r1 q1)
theorem opI {f:Value→Value→Sem Value}{C:Int→Int→Prop}
  (rule:∀(i j:Int)(t u:Tok)(s:Shared)(Q:Value→Shared→Prop)(E:Value→Shared→Prop),C i j→Q (.int (g i j) s.toks) {s with toks:=s.toks+1 }→wpAny (model X.prog X.w) X.A (f (.int i t) (.int j u)) Q E s):
  OpR X f (rI C fun i j=> .int (g i j)):=by
 intro qa s σ H x y v u Q I rx ry h;obtain⟨i,j,rfl,rfl,hc,q⟩:=h;obtain⟨t,rfl⟩:=rx;obtain⟨t',rfl⟩:=ry;exact rule i j t t' s _ _ hc ⟨.int (g i j),H,I.tok _,⟨_,rfl⟩,q⟩
theorem Zux {f:Value→Value→Sem Value}
  (rule:∀(i j:Int)(t u:Tok)(s:Shared)(Q:Value→Shared→Prop)(E:Value→Shared→Prop),Q (.int (g i j) s.toks) {s with toks:=s.toks+1 }→wpAny (model X.prog X.w) X.A (f (.int i t) (.int j u)) Q E s):
  OpR X f (rI0 fun i j=> .int (g i j)):=by
 intro qa s σ H x y v u Q I rx ry h;obtain⟨i,j,rfl,rfl,q⟩:=h;obtain⟨t,rfl⟩:=rx;obtain⟨t',rfl⟩:=ry;exact rule i j t t' s _ _ ⟨.int (g i j),H,I.tok _,⟨_,rfl⟩,q⟩
theorem ZtH {f:Value→Value→Sem Value}{g:Int→Int→Bool}
  (rule:∀(i j:Int)(t u:Tok)(s:Shared)(Q:Value→Shared→Prop)(E:Value→Shared→Prop),Q (.bool (g i j)) s→wpAny (model X.prog X.w) X.A (f (.int i t) (.int j u)) Q E s):
  OpR X f (rI0 fun i j=> .bl (g i j)):=by
 intro qa s σ H x y v u Q I rx ry h;obtain⟨i,j,rfl,rfl,q⟩:=h;obtain⟨t,rfl⟩:=rx;obtain⟨t',rfl⟩:=ry;exact rule i j t t' s _ _ ⟨.bl (g i j),H,I,rfl,q⟩
def ZtI (i j:Int):Prop:=0≤j∧j≤1000000∧i.natAbs<2^64
def ZlK (i j:Int):Prop:=(-(2^64)<i∧i<2^64)∨(-(2^64)<j∧j<2^64)
theorem ZlK.ok {i j:Int}(h:ZlK i j):IntMulOk i j:=by
 rcases h with⟨h1,h2⟩|⟨h1,h2⟩
 ·exact .of_left (intBits_le_64 h1 h2)
 ·exact .of_right (intBits_le_64 h1 h2)
theorem ZaF:OpR X (binaryOp .Add) (rI0 fun i j=> .int (i+j)):=Zux fun _ _ _ _ _ _ _ q=>add_int q
theorem Za0:OpR X (binaryOp .Sub) (rI0 fun i j=> .int (i-j)):=Zux fun _ _ _ _ _ _ _ q=>sub_int q
theorem Zdx:OpR X (binaryOp .Mult) (rI ZlK fun i j=> .int (i*j)):=opI fun _ _ _ _ _ _ _ hc q=>mul_int q hc.ok
theorem Zcs:OpR X (binaryOp .Mod) (rI (fun _ j=>0<j) fun i j=> .int (i%j)):=opI fun i j _ _ _ _ _ hc q=>by
 have h1:(0:Int)<j:=hc;exact mod_int' (by omega) (by rw[QdM i (by omega)];exact q)
theorem ZlX:OpR X (binaryOp .Pow) (rI ZtI fun i j=> .int (i^j.toNat)):=opI fun _ _ _ _ _ _ _ hc q=>pow_int_small hc.1 hc.2.1 hc.2.2 q
theorem unI {f:Value→Sem Value}{g:Int→Int}
  (rule:∀(i:Int)(t:Tok)(s:Shared)(Q:Value→Shared→Prop)(E:Value→Shared→Prop),Q (.int (g i) s.toks) {s with toks:=s.toks+1 }→wpAny (model X.prog X.w) X.A (f (.int i t)) Q E s):
  UnR X f (rU fun i=> .int (g i)):=by
 intro qa s σ H x v Q I rx h;obtain⟨i,rfl,q⟩:=h;obtain⟨t,rfl⟩:=rx;exact rule i t s _ _ ⟨.int (g i),H,I.tok _,⟨_,rfl⟩,q⟩
theorem ZcZ:UnR X (unaryOp .USub) (rU fun i=> .int (-i)):=unI fun _ _ _ _ _ q=>neg_int q
end
def Zuy:V→V→Bool
 | .non,.non=>true| .non,.int _=>true| .int _,.non=>true| .non,.bl _=>true| .bl _,.non=>true| .non,.str _=>true| .str _,.non=>true
 | .int _,.int _=>true| .bl _,.bl _=>true| .str _,.str _=>true| .byt _,.byt _=>true
 | .int _,.str _=>true| .str _,.int _=>true| .bl _,.str _=>true| .str _,.bl _=>true
 |_,_=>false
def rEq:R2:=fun x y H Q=>Zuy x y=true∧Q (.bl (decide (x=y))) H
def rNe:R2:=fun x y H Q=>Zuy x y=true∧Q (.bl (!decide (x=y))) H
theorem ZlY {i j:Int}:decide (V.int i=V.int j)=(i==j):=by
 rw[QdB];simp
theorem ZpT {i j:Bool}:decide (V.bl i=V.bl j)=(i==j):=by
 rw[QdB];simp
theorem ZlZ {i j:Str}:decide (V.str i=V.str j)=(i==j):=by
 rw[QdB];simp
theorem Zl0 {i j:Array UInt8}:decide (V.byt i=V.byt j)=(i.toList==j.toList):=by
 rw[QdB];cases i;cases j;simp
section
variable {X:Cx}{a b:Expr}{ta tb tc:TE}{pos:PySem.Pos}
theorem Za5 {σ:St}{H:Hp}{Q:VK}{k k':Bool}(I:Inv X qa σ H s)(q:Q (.bl k) H)(e:k=k'):EP X qa σ Q (.bool k') s:=by
 subst e;exact⟨.bl k,H,I,rfl,q⟩
theorem Zdz:OpR X (compareOp .Eq) rEq:=by
 intro qa s σ H x y v u Q I rx ry h;obtain⟨hs,q⟩:=h
 cases x with
 |non=>
  cases rx
  cases y with
  |non=>cases ry;exact PySem.EqNone.eq_none_none (Za5 I q (by simp))
  |bl j=>cases ry;exact PySem.EqNone.eq_none_bool (Za5 I q (by simp))
  |int j=>obtain⟨t',rfl⟩:=ry;exact PySem.EqNone.eq_none_int (Za5 I q (by simp))
  |str j=>obtain⟨t',rfl⟩:=ry;exact PySem.EqNone.eq_none_str (Za5 I q (by simp))
  |_=>exact absurd (show false=true from hs) QaE
 |bl i=>
  cases rx
  cases y with
  |non=>cases ry;exact PySem.EqNone.eq_bool_none (Za5 I q (by simp))
  |bl j=>cases ry;exact eq_bool (Za5 I q ZpT)
  |str j=>obtain⟨t',rfl⟩:=ry;exact PySem.EqMixed.eq_bool_str (Za5 I q (by simp))
  |_=>exact absurd (show false=true from hs) QaE
 |int i=>
  obtain⟨t,rfl⟩:=rx
  cases y with
  |non=>cases ry;exact PySem.EqNone.eq_int_none (Za5 I q (by simp))
  |int j=>obtain⟨t',rfl⟩:=ry;exact eq_int (Za5 I q ZlY)
  |str j=>obtain⟨t',rfl⟩:=ry;exact PySem.EqMixed.eq_int_str (Za5 I q (by simp))
  |_=>exact absurd (show false=true from hs) QaE
 |str i=>
  obtain⟨t,rfl⟩:=rx
  cases y with
  |non=>cases ry;exact PySem.EqNone.eq_str_none (Za5 I q (by simp))
  |bl j=>cases ry;exact PySem.EqMixed.eq_str_bool (Za5 I q (by simp))
  |int j=>obtain⟨t',rfl⟩:=ry;exact PySem.EqMixed.eq_str_int (Za5 I q (by simp))
  |str j=>obtain⟨t',rfl⟩:=ry;exact eq_str (Za5 I q ZlZ)
  |_=>exact absurd (show false=true from hs) QaE
 |byt i=>
  obtain⟨t,rfl⟩:=rx
  cases y with
  |byt j=>obtain⟨t',rfl⟩:=ry;exact PySem.W.eq_bytes (Za5 I q Zl0)
  |_=>exact absurd (show false=true from hs) QaE
 |_=>cases y<;>exact absurd (show false=true from hs) QaE
theorem Zl1:OpR X (compareOp .NotEq) rNe:=by
 intro qa s σ H x y v u Q I rx ry h;obtain⟨hs,q⟩:=h
 cases x with
 |non=>
  cases rx
  cases y with
  |non=>cases ry;exact PySem.EqNone.ne_none_none (Za5 I q (by simp))
  |bl j=>cases ry;exact PySem.EqNone.ne_none_bool (Za5 I q (by simp))
  |int j=>obtain⟨t',rfl⟩:=ry;exact PySem.EqNone.ne_none_int (Za5 I q (by simp))
  |str j=>obtain⟨t',rfl⟩:=ry;exact PySem.EqNone.ne_none_str (Za5 I q (by simp))
  |_=>exact absurd (show false=true from hs) QaE
 |bl i=>
  cases rx
  cases y with
  |non=>cases ry;exact PySem.EqNone.ne_bool_none (Za5 I q (by simp))
  |bl j=>cases ry;exact ne_bool (Za5 I q (congrArg not ZpT))
  |str j=>obtain⟨t',rfl⟩:=ry;exact PySem.EqMixed.ne_bool_str (Za5 I q (by simp))
  |_=>exact absurd (show false=true from hs) QaE
 |int i=>
  obtain⟨t,rfl⟩:=rx
  cases y with
  |non=>cases ry;exact PySem.EqNone.ne_int_none (Za5 I q (by simp))
  |int j=>obtain⟨t',rfl⟩:=ry;exact Zh2 (Za5 I q (congrArg not ZlY))
  |str j=>obtain⟨t',rfl⟩:=ry;exact PySem.EqMixed.ne_int_str (Za5 I q (by simp))
  |_=>exact absurd (show false=true from hs) QaE
 |str i=>
  obtain⟨t,rfl⟩:=rx
  cases y with
  |non=>cases ry;exact PySem.EqNone.ne_str_none (Za5 I q (by simp))
  |bl j=>cases ry;exact PySem.EqMixed.ne_str_bool (Za5 I q (by simp))
  |int j=>obtain⟨t',rfl⟩:=ry;exact PySem.EqMixed.ne_str_int (Za5 I q (by simp))
  |str j=>obtain⟨t',rfl⟩:=ry;exact ne_str (Za5 I q (congrArg not ZlZ))
  |_=>exact absurd (show false=true from hs) QaE
 |byt i=>
  obtain⟨t,rfl⟩:=rx
  cases y with
  |byt j=>obtain⟨t',rfl⟩:=ry;exact PySem.W.ne_bytes (Za5 I q (congrArg not Zl0))
  |_=>exact absurd (show false=true from hs) QaE
 |_=>cases y<;>exact absurd (show false=true from hs) QaE
theorem Zey:OpR X (compareOp .Lt) (rI0 fun i j=> .bl (decide (i<j))):=ZtH fun _ _ _ _ _ _ _ q=>lt_int q
theorem ZiA:OpR X (compareOp .LtE) (rI0 fun i j=> .bl (decide (i≤j))):=ZtH fun _ _ _ _ _ _ _ q=>le_int q
theorem Zoh:OpR X (compareOp .Gt) (rI0 fun i j=> .bl (decide (j<i))):=ZtH fun _ _ _ _ _ _ _ q=>gt_int q
theorem Zoi:OpR X (compareOp .GtE) (rI0 fun i j=> .bl (decide (j≤i))):=ZtH fun _ _ _ _ _ _ _ q=>ge_int q
theorem ZaN (b:Expr)(h:op≠ .In:=by decide)(h2:op≠ .NotIn:=by decide):behindInMarks op b=false:=by
 have e1:(op==CmpOp.In)=false:=by cases op<;>first|rfl|exact absurd rfl h
 have e2:(op==CmpOp.NotIn)=false:=by cases op<;>first|rfl|exact absurd rfl h2
 cases b<;>simp[behindInMarks,e1,e2]
theorem Zbo {r:R2}(ho:OpR X (compareOp op) r)(ha:PE X a ta)(hb:PE X b tb)(hm:behindInMarks op b=false):PE X (.Compare a [op] [b] pos) (tOp r ta tb):=by
 intro qa s σ H Q I h;exact wpAny_Compare1 (ZtP ha hb I h fun v u s2 x y H2 I2 rx ry q=>ho qa s2 σ H2 x y v u Q I2 rx ry q) hm
def ZbE (t:TE):TT:=fun σ H Q=>t σ H fun x H'=>∃k,x= .bl k∧Q k H'
theorem ZaQ {r:R2}(ho:OpR X (compareOp op) r)(ha:PE X a ta)(hb:PE X b tb)(hm:behindInMarks op b=false):PT X (.Compare a [op] [b] pos) (ZbE (tOp r ta tb)):=by
 intro qa s σ H Q I h
 refine Qev (thn (ha qa s σ H _ I h) fun v s1 ⟨x,H1,I1,r1,q1⟩=>thn (hb qa s1 σ H1 _ I1 q1) fun u s2 ⟨y,H2,I2,r2,q2⟩=>
  thn (ho qa s2 σ H2 x y v u _ I2 r1 r2 q2) fun c s3 ⟨z,H3,I3,r3,k,e,q3⟩=> ?_) hm
 subst e;cases r3;exact Qbg ⟨H3,I3,q3⟩
def Zj2 (r r':R2)(ta tb tc:TE):TE:=fun σ H Q=>ta σ H fun x H1=>tb σ H1 fun y H2=>r x y H2 fun z H3=>∃k,z= .bl k∧
 (if k=true then tc σ H3 fun w' H4=>r' y w' H4 Q else Q (.bl false) H3)
theorem Zoj {r r':R2}(ho:OpR X (compareOp op) r)(ho':OpR X (compareOp op') r')(ha:PE X a ta)(hb:PE X b tb)(hc:PE X c tc)
  (hm:lastMarks [op,op'] [b,c]=false:=by with_unfolding_all rfl):PE X (.Compare a [op,op'] [b,c] pos) (Zj2 r r' ta tb tc):=by
 intro qa s σ H Q I h
 refine Compare_chain (thn (ha qa s σ H _ I h) fun v s1 ⟨x,H1,I1,r1,q1⟩=>chain_link (thn (hb qa s1 σ H1 _ I1 q1) fun u s2 ⟨y,H2,I2,r2,q2⟩=>
  thn (ho qa s2 σ H2 x y v u _ I2 r1 r2 q2) fun d s3 ⟨z,H3,I3,r3,k,e,q3⟩=> ?_)) hm
 subst e;cases r3;refine Qbg ?_
 cases k with
 |false=>exact ite_ff ⟨.bl false,H3,I3,rfl,q3⟩
 |true=>exact ite_tt (chain_last (thn (hc qa s3 σ H3 _ I3 q3) fun w' s4 ⟨z',H4,I4,r4,q4⟩=>ho' qa s4 σ H4 y z' u w' Q I4 r2 r4 q4))
theorem Zok {r r':R2}(ho:OpR X (compareOp op) r)(ho':OpR X (compareOp op') r')(ha:PE X a ta)(hb:PE X b tb)(hc:PE X c tc)
  (hm:lastMarks [op,op'] [b,c]=false:=by with_unfolding_all rfl):PT X (.Compare a [op,op'] [b,c] pos) (ZbE (Zj2 r r' ta tb tc)):=by
 intro qa s σ H Q I h
 refine isTrue_chain (thn (ha qa s σ H _ I h) fun v s1 ⟨x,H1,I1,r1,q1⟩=>test_link (thn (hb qa s1 σ H1 _ I1 q1) fun u s2 ⟨y,H2,I2,r2,q2⟩=>
  thn (ho qa s2 σ H2 x y v u _ I2 r1 r2 q2) fun d s3 ⟨z,H3,I3,r3,k,e,q3⟩=> ?_)) hm
 subst e;cases r3;refine Qbg ?_
 cases k with
 |false=>
  obtain⟨k',e',q'⟩:=q3;cases e';exact ite_ff ⟨H3,I3,q'⟩
 |true=>
  refine ite_tt (test_last (thn (hc qa s3 σ H3 _ I3 q3) fun w' s4 ⟨z',H4,I4,r4,q4⟩=>thn (ho' qa s4 σ H4 y z' u w' _ I4 r2 r4 q4) fun d' s5 ⟨z2,H5,I5,r5,k2,e2,q5⟩=> ?_));subst e2;cases r5;exact Qbg ⟨H5,I5,q5⟩
def Zr9 (K:FJ)(x:V)(H:Hp)(k:Bool):Prop:=
 match x with
 | .non=>k=false
 | .bl b=>k=b
 | .int i=>k=(i !=0)
 | .str y=>y.length≤sizeLine∧k=((y.length:Int) !=0)
 | .byt y=>y.size≤sizeLine∧k=((y.size:Int) !=0)
 | .ref p=>(∃xs,SqL K H p xs∧k= !xs.isEmpty)∨(∃xs,SqT K H p xs∧k= !xs.isEmpty)∨∃kvs,H p=some (.dK kvs)∧k= !kvs.isEmpty
 |_=>False
theorem ZkG {κ:Type}{kvs:List (κ×V)}{vs:List (κ×Value)}(r:KV kvs vs):(!vs.isEmpty)= !kvs.isEmpty:=by
 cases r<;>rfl
theorem ZfK {xs:List V}{its:List Value}(r:Zbg xs its):(!its.toArray.isEmpty)= !xs.isEmpty:=by
 cases r<;>simp
theorem Zhq:(sizeLine:Nat)<2^63:=by rw[sizeLine_eq];decide
theorem Zsa:ZuJ X (fun x H Q=>∃k,Zr9 X.K x H k∧Q k H):=by
 intro qa s σ H x v Q I rx h;obtain⟨k,e,q⟩:=h;have hl:=Zhq;have hs:sizeLine=16777216:=sizeLine_eq
 cases x with
 |non=>
  cases rx;have e':k=false:=e;subst e';exact truthy_none ⟨H,I,q⟩
 |bl b=>
  cases rx;have e':k=b:=e;subst e';exact Qbg ⟨H,I,q⟩
 |int i=>
  obtain⟨t,rfl⟩:=rx;have e':k=(i !=0):=e;subst e';exact PySem.P.truthy_int ⟨H,I,q⟩
 |str y=>
  obtain⟨t,rfl⟩:=rx;obtain⟨hy,e'⟩:y.length≤sizeLine∧k=((y.length:Int) !=0):=e;subst e';exact PySem.P.truthy_str (by omega) ⟨H,I.tok _,q⟩
 |byt y=>
  obtain⟨t,rfl⟩:=rx;obtain⟨hy,e'⟩:y.size≤sizeLine∧k=((y.size:Int) !=0):=e;subst e';exact PySem.W.truthy_bytes (by omega) ⟨H,I.tok _,q⟩
 |ref p=>
  cases rx;have e':(∃xs,SqL X.K H p xs∧k= !xs.isEmpty)∨(∃xs,SqT X.K H p xs∧k= !xs.isEmpty)∨∃kvs,H p=some (.dK kvs)∧k= !kvs.isEmpty:=e;rcases e' with⟨xs,hx,e'⟩|⟨xs,hx,e'⟩|⟨kvs,hx,e'⟩
  ·subst e';obtain⟨its,r,pl,hz⟩:=I.list hx;have hlen:=r.length;exact wpAny_truthy_list pl.isList (by simp only[Qay];omega) ⟨H,I.tok _,by rw[ZfK r];exact q⟩
  ·subst e';obtain⟨its,r,pl,hz⟩:=I.tuple hx;have hlen:=r.length;exact truthy_tuple pl (by simp only[Qay];omega) ⟨H,I.tok _,by rw[ZfK r];exact q⟩
  ·subst e';obtain⟨hz,hS,vs,r,m⟩:kvs.length≤sizeLine∧(p==sysModules)=false∧∃vs,KV kvs vs∧s.heap.DictOf (Za3 X.prog X.w) p vs:=I.hok p _ hx;have hlen:kvs.length=vs.length:=Qd9 r;exact wpAny_truthy_dict hS m (by omega) ⟨H,I.tok _,by rw[ZkG r];exact q⟩
 |_=>exact(show False from e).elim
theorem ZeF (ha:PE X a ta)(he:∀qu,isTrue a X.env qu=(do let v←qu;standAt a.pos;holding [v] (truthy v))):
  PT X a (fun σ H Q=>ta σ H fun x H'=>∃k,Zr9 X.K x H' k∧Q k H'):=by
 intro qa s σ H Q I h;exact isTrue_plain (thn (ha qa s σ H _ I h) fun v s1 ⟨x,H1,I1,r1,q1⟩=>Zsa qa s1 σ H1 x v Q I1 r1 q1) (he _)
theorem Zc8 {x:V}(r:Zbg [x] us):∃u,us=[u]∧Zbf x u:=by
 cases r with
 |cons r1 r2=>cases r2;exact⟨_,rfl,r1⟩
theorem ZkH {x y:V}(r:Zbg [x,y] us):∃u w',us=[u,w']∧Zbf x u∧Zbf y w':=by
 cases r with
 |cons r1 r2=>
  cases r2 with
  |cons r3 r4=>cases r4;exact⟨_,_,rfl,r1,r3⟩
theorem Zj3:Zcq X (.builtin "abs") (fun xs H Q=>∃i,xs=[.int i]∧Q (.int (if i<0 then -i else i)) H):=by
 intro qa s σ H xs us Q I r h;obtain⟨i,rfl,q⟩:=h;obtain⟨u,rfl,t,rfl⟩:=Zc8 r;exact call_abs_int fun u tk=>⟨.int (if i<0 then -i else i),H,I.tok _,⟨_,rfl⟩,q⟩
theorem ZbF (hc:X.calm=true):Zcq X (.builtin "max") (fun xs H Q=>∃i j,xs=[.int i,.int j]∧Q (.int (if j>i then j else i)) H):=by
 intro qa s σ H xs us Q I r h;obtain⟨i,j,rfl,q⟩:=h;obtain⟨u,w',rfl,⟨t,rfl⟩,⟨t',rfl⟩⟩:=ZkH r;refine max_two_ints (I.ok.hd hc) fun h' tk k=>⟨_,H,I.kept k,?_,q⟩;by_cases hj:j>i
 ·rw[Qp hj,Qp hj];exact⟨_,rfl⟩
 ·rw[Qn hj,Qn hj];exact⟨_,rfl⟩
theorem Zbl (hc:X.calm=true):Zcq X (.builtin "min") (fun xs H Q=>∃i j,xs=[.int i,.int j]∧Q (.int (if j<i then j else i)) H):=by
 intro qa s σ H xs us Q I r h;obtain⟨i,j,rfl,q⟩:=h;obtain⟨u,w',rfl,⟨t,rfl⟩,⟨t',rfl⟩⟩:=ZkH r;refine min_two_ints (I.ok.hd hc) fun h' tk k=>⟨_,H,I.kept k,?_,q⟩;by_cases hj:j<i
 ·rw[Qp hj,Qp hj];exact⟨_,rfl⟩
 ·rw[Qn hj,Qn hj];exact⟨_,rfl⟩
theorem Zhr:Zcq X (.type "int") (fun xs H Q=>(∃i,xs=[.int i]∧Q (.int i) H)∨∃k,xs=[.bl k]∧Q (.int (if k then 1 else 0)) H):=by
 intro qa s σ H xs us Q I r h;rcases h with⟨i,rfl,q⟩|⟨k,rfl,q⟩
 ·obtain⟨u,rfl,t,rfl⟩:=Zc8 r;exact call_int_int ⟨.int i,H,I,⟨_,rfl⟩,q⟩
 ·obtain⟨u,rfl,r1⟩:=Zc8 r;cases r1;exact call_int_bool ⟨.int (if k then 1 else 0),H,I.tok _,⟨_,rfl⟩,q⟩
end
structure Zqv (h:Heap)(x dx C:Addr)(mA:Str→Option Value):Prop where
 obj:h.get? x=some (PySem.W.instObj C dx)
 ns:h.Ns1 dx mA
 ne:dx≠x
theorem Zl2 (n:h.Ns1 dx mA):∃od,h.get? dx=some od∧∀name,PySem.W.lookIn name od=some (mA name):=by
 obtain⟨o,es,ep,ho,hd,hk,_,hm⟩:=n;refine⟨o,ho,fun name=> ?_⟩;have e:=hm name;unfold nsFind findBy at e;rw[←Array.find?_toList] at e;unfold PySem.W.lookIn;rw[hd];dsimp only;split
 ·rename_i y q;rw[q] at e;exact congrArg some e
 ·rename_i q;rw[q] at e
  have a:es.toList.any (·.refKey)=false:=by
   rw[List.any_eq_false];intro y hy;obtain⟨z,t,hkey⟩:=hk y (Array.mem_toList_iff.mp hy);simp[DictEntry.refKey,hkey]
  have a':¬es.toList.any (·.refKey)=true:=by rw[a];exact QaE
  rw[Qn a'];exact congrArg some e
theorem Zqv.look {x:Addr}(I:Zqv h x dx C mA):∃od,PySem.W.InstAt h x (PySem.W.instObj C dx) C (some od)∧∀name,PySem.W.lookIn name od=some (mA name):=
 let⟨od,ho,hl⟩:=Zl2 I.ns
 ⟨od,⟨I.obj,rfl,rfl,ho⟩,hl⟩
section
variable {K:FJ}{x:Addr}
theorem Zqw {expr:Bool}(X:K.In s.heap)(I:Zqv s.heap x dx C mA)(hg:PySem.W.plainGet K C name=true)(hh:PySem.W.hasDictIn K C=true)
  (ha:PySem.W.findIn K (.ref C) name=some none) (hv:mA name=some v) (hv':PySem.W.handedIn v=true) (h:Q v {s with toks:=s.toks+1 }):
  wpAny (model prog w) A (getAttr (.ref x) name expr) Q E s:=by
 obtain⟨od,J,hl⟩:=I.look;exact PySem.W.get_value X J (QdC hg).1 (PySem.W.findObj_own hh ha rfl (by rw[hl,hv])) hv' h
theorem Zol {Q:Value×List Value→Shared→Prop}(X:K.In s.heap)(I:Zqv s.heap x dx C mA)(hg:PySem.W.plainGet K C name=true)
  (hf:PySem.W.findIn K (.ref C) name=some (some (.ref f))) (ht:PySem.W.isFn K (.ref f)=true) (hv:mA name=none) (h:Q (.ref f,[.ref x]) s):
  wpAny (model prog w) A (getMethod (.ref x) name pl) Q E s:=by
 obtain⟨od,J,hl⟩:=I.look;exact PySem.W.method_fn X J (QdC hg).1 (QdC hg).2 hf (QdX.mp ht) (by show(PySem.W.lookIn name od).map (·.isSome)=some false;rw[hl,hv];rfl) h
theorem Zqx {ns:List Str}{Q:Unit→Shared→Prop}(X:K.In s.heap)(I:Zqv s.heap x dx C mA)
  (hs:PySem.W.findIn K (.ref C) "__setattr__" =some (some (.builtin "object.__setattr__"))) (hp:PySem.W.plainOver K C=true) (ht:PySem.W.takerIn K C name=some none) (hh:PySem.W.hasDictIn K C=true)
  (hw:PySem.Within mA ns) (hsz:ns.length≤sizeLine)
  (h:∀h',Zqv h' x dx C (fun y=>if y=name then some v else mA y)→Heap.SameBut dx s.heap h'→Q () {s with heap:=h',toks:=s.toks+2 }):
  wpAny (model prog w) A (setAttr (.ref x) name v) Q E s:=by
 obtain⟨od,J,hl⟩:=I.look;refine PySem.W.set_plain X J hs (PySem.W.osa_open (s:={s with toks:=s.toks+1 }) (r:=none) X J hp ht fun b=> ?_);obtain⟨cd,hc,hd'⟩:=PySem.W.any_some hh;have hx:s.heap.get? x=some ⟨.ref C,some dx,.plain,#[]⟩:=I.obj;refine Qaa (Qak (Qaa (Qaa (wpAny_loadPart hx (Qaa (PySem.W.Looks.here (s:={s with toks:=s.toks+1 }) (PySem.W.looks_clsIn X hc) ?_))))));rw[hd'];refine Qak (a:=some dx) (Qaa (Qak (Qaa ?_)));refine wpAny_nsSet1 (s:={s with toks:=s.toks+1 }) I.ns fun h' hn2 hs2=> ?_;obtain⟨oD,esD,epD,hoD,hdD,hcD⟩:=hn2.count (PySem.Within.cons name v hw);refine Qaa (wpAny_lookBehind hoD (by rw[hdD];exact pastItsLine_dict (QaW hcD (by rw[QaB];omega))) ?_);exact Qak (h _ ⟨(hs2.2 _ (Ne.symm I.ne)).trans I.obj,hn2,I.ne⟩ hs2)
theorem Zom {R:Result→Shared→Prop}{vs:List Value}(X:K.In s.heap)(hm:PySem.W.makesIn K C=true)
  (hi:PySem.W.findIn K (.ref C) "__init__" =some (some (.ref f))) (hf:PySem.W.typeIn K (.ref f)=some (.type "function"))
  (h:codeAny (model prog w) (A.under (.builtin "type.__call__" ⟨.ref C::vs,kw⟩)) (.call (.ref f) ⟨.ref (s.heap.objs.size+1)::vs,kw⟩) (PySem.W.InitBack (s.heap.objs.size+1) R)
   {s with heap:=(s.heap.push PySem.W.emptyDict).push (PySem.W.instObj C s.heap.objs.size) }):
  codeAny (model prog w) A (.call (.ref C) ⟨vs,kw⟩) R s:=by
 obtain⟨hh,g,d,t,os⟩:=s;exact PySem.W.make_core (PySem.W.makes_of X hm) (PySem.W.looks_findIn X hi) (fun self=>PySem.W.bind_fn X self hf) (.inl rfl) h
end
def ZdT (f:Str)(v:V):List (Str×V)→List (Str×V)
 | []=>[(f,v)]
 | (g,x)::r=>if g=f then(g,v)::r else(g,x)::ZdT f v r
theorem ZbN (f g:Str)(v:V):∀fs:List (Str×V),(ZdT f v fs).lookup g=if g=f then some v else fs.lookup g
 | []=>by
  show List.lookup g [(f,v)]=_;by_cases h:g=f
  ·have hb:(g==f)=true:=QdX.mpr h;simp only[List.lookup,hb,Qp h]
  ·have hb:(g==f)=false:=Qcg.mpr h;simp only[List.lookup,hb,Qn h]
 | (k,x)::r=>by
  have ih:=ZbN f g v r;rw[show ZdT f v ((k,x)::r)=(if k=f then(k,v)::r else(k,x)::ZdT f v r) from rfl];by_cases hk:k=f
  ·rw[Qp hk];by_cases h:g=k
   ·have hb:(g==k)=true:=QdX.mpr h;simp only[List.lookup,hb,Qp (h.trans hk)]
   ·have hb:(g==k)=false:=Qcg.mpr h;simp only[List.lookup,hb,Qn (fun e:g=f=>h (e.trans hk.symm))]
  ·rw[Qn hk];by_cases h:g=k
   ·have hb:(g==k)=true:=QdX.mpr h;simp only[List.lookup,hb,Qn (fun e:g=f=>hk (h.symm.trans e))]
   ·have hb:(g==k)=false:=Qcg.mpr h;simp only[List.lookup,hb];exact ih
theorem ZeR (f:Str)(v:V):∀fs:List (Str×V),f∈(ZdT f v fs).map (·.1)∧∀g,g∈fs.map (·.1)→g∈(ZdT f v fs).map (·.1)
 | []=>⟨by simp[ZdT],fun g h=>by simp at h⟩
 | (k,x)::r=>by
  obtain⟨i1,i2⟩:=ZeR f v r;rw[show ZdT f v ((k,x)::r)=(if k=f then(k,v)::r else(k,x)::ZdT f v r) from rfl];by_cases hk:k=f
  ·rw[Qp hk];subst hk;exact⟨by simp,fun g h=>by simpa using h⟩
  ·rw[Qn hk];refine⟨?_,fun g h=> ?_⟩
   ·rw[QaD];exact Qag _ i1
   ·rw[QaD] at h⊢;rcases Qaw.mp h with e|e
    ·exact Qaw.mpr (.inl e)
    ·exact Qag _ (i2 g e)
theorem ZeS (f:Str)(v:V):∀fs:List (Str×V),(ZdT f v fs).length≤fs.length+1
 | []=>by simp[ZdT]
 | (k,x)::r=>by
  have ih:=ZeS f v r;rw[show ZdT f v ((k,x)::r)=(if k=f then(k,v)::r else(k,x)::ZdT f v r) from rfl];by_cases hk:k=f
  ·rw[Qp hk,QaB,QaB];omega
  ·rw[Qn hk,QaB,QaB];omega
theorem Zhi.some_of {v:V}{o:Option Value}(r:Zhi (some v) o):∃u,o=some u∧Zbf v u:=by
 cases o with
 |none=>exact(show False from r).elim
 |some u=>exact⟨u,rfl,r⟩
theorem Zhi.none_of {o:Option Value}(r:Zhi none o):o=none:=by
 cases o with
 |none=>rfl
 |some u=>exact(show False from r).elim
theorem Zl3 {v:V}(r:Zbf v u):PySem.W.handedIn u=true:=by
 cases v with
 |non=>cases(show u=Value.none from r);rfl
 |bl b=>cases(show u=Value.bool b from r);rfl
 |int i=>obtain⟨t,e⟩:=(show∃t,u=Value.int i t from r);cases e;rfl
 |str x=>obtain⟨t,e⟩:=(show∃t,u=Value.str x t from r);cases e;rfl
 |byt b=>obtain⟨t,e⟩:=(show∃t,u=Value.bytes b t from r);cases e;rfl
 |flt b=>obtain⟨t,e⟩:=(show∃t,u=Value.float b t from r);cases e;rfl
 |ref a=>cases(show u=Value.ref a from r);rfl
 |ty n=>cases(show u=Value.type n from r);rfl
section
variable {H H':Hp}{fs fs':List (Str×V)}
theorem Zf2 (hok:HOk P w H h)(e:H a=some (.ins C dx fs)):∃mA,Zqv h a dx C mA∧(∀f,Zhi (fs.lookup f) (mA f))∧PySem.Within mA (fs.map (·.1))∧fs.length≤1000∧H dx=some (.own a):=by
 obtain⟨d,z,ne,ob,mA,n,r,q⟩:=(show Zbw P w H h a (.ins C dx fs) from hok a _ e);exact⟨mA,⟨ob,n,ne⟩,r,q,z,d⟩
end
structure Cls (K:FJ)(C:Addr):Prop where
 pg:PySem.W.plainGet K C Str.empty=true
 hd:PySem.W.hasDictIn K C=true
 po:PySem.W.plainOver K C=true
 sa:PySem.W.findIn K (.ref C) "__setattr__" =some (some (.builtin "object.__setattr__"))
theorem Cls.get {K:FJ}(c:Cls K C)(f:Str):PySem.W.plainGet K C f=true:=c.pg
def Zcc (K:FJ)(C:Addr)(f:Str):Prop:=PySem.W.findIn K (.ref C) f=some none
theorem Zcc.taker {K:FJ}{f:Str}(n:Zcc K C f):PySem.W.takerIn K C f=some none:=by
 unfold PySem.W.takerIn;rw[show PySem.W.findIn K (.ref C) f=some none from n];rfl
structure ZtQ (K:FJ)(C:Addr)(m:Str)(f:Addr):Prop where
 at_:PySem.W.findIn K (.ref C) m=some (some (.ref f))
 fn:PySem.W.isFn K (.ref f)=true
 kp:PySem.W.keepIn K (.ref f)=true
section
variable {X:Cx}{σ:St}{H:Hp}{fs:List (Str×V)}{f:Str}{v:V}
theorem ZkI {b:Bool}(I:Inv X qa σ H s)(e:H a=some (.ins C dx fs))(c:Cls X.K C)(n:Zcc X.K C f)(l:fs.lookup f=some v)
  (h:∀u s',Inv X qa σ H s'→Zbf v u→Q u s'):wpAny (model X.prog X.w) A (getAttr (.ref a) f b) Q E s:=by
 obtain⟨mA,O,r,_,_,_⟩:=Zf2 I.hok e;obtain⟨u,hu,ru⟩:=Zhi.some_of (v:=v) (o:=mA f) (by rw[←l];exact r f);exact Zqw I.kIn O (c.get f) c.hd n hu (Zl3 ru) (h u _ (I.tok _) ru)
theorem ZkJ {g:Addr}{Q:Value×List Value→Shared→Prop}(I:Inv X qa σ H s)(e:H a=some (.ins C dx fs))(c:Cls X.K C)(k:ZtQ X.K C m g)(l:fs.lookup m=none)
  (h:Q (.ref g,[.ref a]) s):wpAny (model X.prog X.w) A (getMethod (.ref a) m pl) Q E s:=by
 obtain⟨mA,O,r,_,_,_⟩:=Zf2 I.hok e;have hn:mA m=none:=Zhi.none_of (by rw[←l];exact r m);exact Zol I.kIn O (c.get m) k.at_ k.fn hn h
theorem ZfL {y:V}{Q:Unit→Shared→Prop}(I:Inv X qa σ H s)(e:H a=some (.ins C dx fs))(c:Cls X.K C)(n:Zcc X.K C f)(hl:fs.length<1000)(ry:Zbf y u)
  (h:∀s',Inv X qa σ (upd H a (.ins C dx (ZdT f y fs))) s'→Q () s'):wpAny (model X.prog X.w) A (setAttr (.ref a) f u) Q E s:=by
 obtain⟨mA,O,r,wi,_,ho⟩:=Zf2 I.hok e;have hz:(fs.map (·.1)).length≤sizeLine:=by rw[Qaf,sizeLine_eq];omega
 refine Zqx I.kIn O c.sa c.po n.taker c.hd wi hz fun h' O' sb=>h _ ?_;have hd:∃o,h'.get? dx=some o:=let⟨o,_,_,e',_⟩:=O'.ns;⟨o,e'⟩;refine I.write (x:=a) (e:=dx) (by rw[e];exact Qco) (.inr ho) (fun b q hb z=>(sb.2 b hb).trans z) hd ?_;refine⟨by rw[Zaq O.ne];exact ho,?_,O.ne,O'.obj,_,O'.ns,fun g=> ?_,fun g hg=> ?_⟩
 ·have:=ZeS f y fs;omega
 ·show Zhi ((ZdT f y fs).lookup g) (if g=f then some u else mA g);rw[ZbN];by_cases q:g=f
  ·rw[Qp q,Qp q];exact ry
  ·rw[Qn q,Qn q];exact r g
 ·by_cases q:g=f
  ·rw[q];exact(ZeR f y fs).1
  ·refine(ZeR f y fs).2 g (wi g fun z=>hg ?_);show(if g=f then some u else mA g)=none;rw[Qn q];exact z
theorem Inv.made (I:Inv X qa σ H s):Inv X qa σ (upd (upd H s.heap.objs.size (.own (s.heap.objs.size+1))) (s.heap.objs.size+1) (.ins C s.heap.objs.size []))
  {s with heap:=(s.heap.push PySem.W.emptyDict).push (PySem.W.instObj C s.heap.objs.size) }:=by
 have e1:(s.heap.push PySem.W.emptyDict).get? s.heap.objs.size=some PySem.W.emptyDict:=Qat s.heap rfl
 have e2:((s.heap.push PySem.W.emptyDict).push (PySem.W.instObj C s.heap.objs.size)).get? (s.heap.objs.size+1)=some (PySem.W.instObj C s.heap.objs.size):=by
  have:=Qat (s.heap.push PySem.W.emptyDict) (o:=PySem.W.instObj C s.heap.objs.size) rfl
  rwa [Qbk] at this
 have e3:(s.heap.push PySem.W.emptyDict).Ns s.heap.objs.size (fun _=>none):=⟨PySem.W.emptyDict,#[],_,e1,rfl,(fun e he=>absurd he (by simp)),fun _=>rfl⟩;have I1:=I.laid (a:=s.heap.objs.size) (o:=.own (s.heap.objs.size+1)) (h':=s.heap.push PySem.W.emptyDict) (t':=s.toks) (fun b u q=>Qac _ q) (Qai _) ⟨_,e1⟩;refine I1.laid (a:=s.heap.objs.size+1) (o:=.ins C s.heap.objs.size []) (t':=s.toks) (fun b u q=>Qac _ q) (Nat.le_of_eq (Qbk _ _)) ?_;have ne:s.heap.objs.size≠s.heap.objs.size+1:=QaM (QcU _);refine⟨by rw[Zaq ne,Zad],QaS _,ne,e2,fun _=>none,(Heap.Ns1.of_empty e3).at fun o q=>Qac _ q,fun _=>Qco,fun y hy=>absurd rfl hy⟩
theorem Zqy {env:Env}{f:Str}{pos:PySem.Pos}(hb:attributeBase e f env (eval e env)=eval e env)
  (h:wpAny (model prog w) A (eval e env) (fun o s₁=>wpAny (model prog w) A (getAttr o f true) Q E s₁) E s):wpAny (model prog w) A (eval (.Attribute e f pos) env) Q E s:=
 Attribute_any_ h (by rw[arm_eval_Attribute,hb])
end
def Zhj (K:FJ)(ta:TE)(f:Str):TE:=fun σ H Q=>ta σ H fun x H1=>∃a C dx fs v,x= .ref a∧H1 a=some (.ins C dx fs)∧Cls K C∧Zcc K C f∧fs.lookup f=some v∧Q v H1
def ZtR (K:FJ)(ta tv:TE)(f:Str):TS:=fun D σ H=>tv σ H fun y H1=>ta σ H1 fun x H2=>∃a C dx fs,x= .ref a∧H2 a=some (.ins C dx fs)∧Cls K C∧Zcc K C f∧fs.length<1000∧
 D.nx σ (upd H2 a (.ins C dx (ZdT f y fs)))
section
variable {X:Cx}{o value:Expr}{f:Str}{pos tpos:PySem.Pos}{ta tv:TE}
theorem Zct (he:PE X e ta)(hb:attributeBase e f X.env (eval e X.env)=eval e X.env):PE X (.Attribute e f pos) (Zhj X.K ta f):=by
 intro qa s σ H Q I h;refine Zqy hb (thn (he qa s σ H _ I h) fun u s1 ⟨x,H1,I1,rx,a,C,dx,fs,v,ex,ea,c,n,l,q⟩=> ?_);subst ex;obtain rfl:u=Value.ref a:=rx;exact ZkI I1 ea c n l fun u' s2 I2 ru=>⟨v,H1,I2,ru,q⟩
theorem ZpU (ha:PE X o ta)(hv:PE X value tv)(hs:swapsWith value (some (.Attribute o f qk)) pos.line X.env=pure false):PS X (.Assign [.Attribute o f qk] value pos) (ZtR X.K ta tv f):=by
 intro qa s σ H D I h;refine plainObj_wpAny_Assign_Attribute (thn (hv qa s σ H _ I h) fun u s1 ⟨y,H1,I1,ry,q⟩=>thn (ha qa s1 σ H1 _ I1 q) fun ov s2 ⟨x,H2,I2,rx,a,C,dx,fs,ex,ea,c,n,l,q2⟩=> ?_) hs;subst ex;obtain rfl:ov=Value.ref a:=rx;exact ZfL I2 ea c n l ry fun s3 I3=>⟨σ,_,I3,q2⟩
end
section
variable {X:Cx}{σ:St}{H:Hp}{c:Value}{b:Bool}
inductive Zfw (K:FJ) (H:Hp):V→Value→Prop where
 |non:Zfw K H .non (.type "NoneType")
 |bl (x:Bool):Zfw K H (.bl x) (.type "bool")
 |int (i:Int):Zfw K H (.int i) (.type "int")
 |str (x:Str):Zfw K H (.str x) (.type "str")
 |flt (x:UInt64):Zfw K H (.flt x) (.type "float")
 |lst {a:Addr} {xs:List V} (e:H a=some (.lst xs)):Zfw K H (.ref a) (.type "list")
 |frz {a:Addr} {o:Obj} {xs:List V} (e:H a=some (.frz o (.lst xs))):Zfw K H (.ref a) (.type "list")
 |tup {a:Addr} {xs:List V} (e:H a=some (.tup xs)):Zfw K H (.ref a) (.type "tuple")
 |dK {a:Addr} {kvs:List (Key×V)} (e:H a=some (.dK kvs)):Zfw K H (.ref a) (.type "dict")
 |dT {a:Addr} {kvs:List (List Key×V)} (e:H a=some (.dT kvs)):Zfw K H (.ref a) (.type "dict")
 |ins {a C dx:Addr} {fs:List (Str×V)} (e:H a=some (.ins C dx fs)) (cl:Cls K C) (ha:PySem.W.findIn K (.ref C) "__class__" =some (some (.builtin "object.__class__")))
   (hn:PySem.W.specialIn K (.builtin "object.__class__") "__get__" =some (some (.builtin "getset_descriptor.__get__"))) (htk:PySem.W.takesIn K (.builtin "object.__class__")=some true)
   (hm:PySem.W.mroIn K C (.type "object")=some true):Zfw K H (.ref a) (.ref C)
theorem Zl4 {x:V}{t:Value}(I:Inv X qa σ H s)(rx:Zbf x u)(ty:Zfw X.K H x t)(e:PySem.W.kitOne X.K t c=some b)(h:∀tk,Q (.bool b) {s with toks:=tk }):
  wpAny (model X.prog X.w) A (call (.builtin "isinstance") [u,c]) Q E s:=by
 cases ty with
 |non=>cases(show u=Value.none from rx);exact QbL PySem.W.kitx_none I.kIn Qco e (fun z=>nomatch z) h
 |bl y=>cases(show u=Value.bool y from rx);exact QbL PySem.W.kitx_bool I.kIn Qco e (fun z=>nomatch z) h
 |int i=>obtain⟨t,q⟩:=(show∃t,u=Value.int i t from rx);cases q;exact QbL PySem.W.kitx_int I.kIn Qco e (fun z=>nomatch z) h
 |str y=>obtain⟨t,q⟩:=(show∃t,u=Value.str y t from rx);cases q;exact QbL PySem.W.kitx_str I.kIn Qco e (fun z=>nomatch z) h
 |flt y=>obtain⟨t,q⟩:=(show∃t,u=Value.float y t from rx);cases q;exact QbL PySem.W.kitx_float I.kIn Qco e (fun z=>nomatch z) h
 | @lst a xs ea=>
  cases(show u=Value.ref a from rx);obtain⟨_,_,n,_,h1⟩:=(show Zbw X.prog X.w H s.heap a (.lst xs) from I.hok a _ ea);exact QbL PySem.W.kitx_list I.kIn ⟨_,h1,rfl⟩ e (fun z=>nomatch z) h
 | @frz a ob xs ea=>
  cases(show u=Value.ref a from rx);obtain⟨_,_,_,n,_,h1⟩:=(show Zbw X.prog X.w H s.heap a (.frz ob (.lst xs)) from I.hok a _ ea);exact QbL PySem.W.kitx_list I.kIn ⟨_,h1,rfl⟩ e (fun z=>nomatch z) h
 | @tup a xs ea=>
  cases(show u=Value.ref a from rx);obtain⟨_,_,_,p⟩:=(show Zbw X.prog X.w H s.heap a (.tup xs) from I.hok a _ ea);obtain⟨o,h1,h2,_⟩:=p;exact QbL PySem.W.kitx_tuple I.kIn ⟨o,h1,h2⟩ e (fun z=>nomatch z) h
 | @dK a kvs ea=>
  cases(show u=Value.ref a from rx);obtain⟨_,_,vs,_,p⟩:=(show Zbw X.prog X.w H s.heap a (.dK kvs) from I.hok a _ ea);obtain⟨o,es,ep,h1,h2,_⟩:=p;exact QbL PySem.W.kitx_dict I.kIn ⟨o,h1,h2.1⟩ e (fun z=>nomatch z) h
 | @dT a kvs ea=>
  cases(show u=Value.ref a from rx);obtain⟨_,_,xs,_,o,es,ep,h1,h2,_⟩:=(show Zbw X.prog X.w H s.heap a (.dT kvs) from I.hok a _ ea);exact QbL PySem.W.kitx_dict I.kIn ⟨o,h1,h2.1⟩ e (fun z=>nomatch z) h
 | @ins a C dx fs ea cl ha hn htk hm=>
  cases(show u=Value.ref a from rx);obtain⟨mA,O,_⟩:=Zf2 I.hok ea;obtain⟨od,J,_⟩:=O.look;exact QbL (PySem.W.kitx_own (cl.get _) cl.hd ha hn htk hm) I.kIn J e (fun z=>nomatch z) h
end
structure Zdr (k:Nat)(A:Around):Prop where
 hd:A.handled=none
 dp:A.depth+3*k+5<recursionLimit
 un:A.units+16*k+200<cLine
 gd:A.guards=some []
theorem Zdr.mono {k:Nat}(r:Zdr k A)(h:j≤k):Zdr j A:=⟨r.hd,by have:=r.dp;omega,by have:=r.un;omega,r.gd⟩
theorem Zdr.deeper {k:Nat}{A:Around}(r:Zdr (k+1) A)(env:Env):Zdr k (A.deeper env):=
 ⟨r.hd,by have:=r.dp;show A.depth+1+3*k+5<_;omega,by have:=r.un;show A.units+3+16*k+200<_;omega,r.gd⟩
theorem ZkK :(A.under (.builtin "type.__call__" ⟨.ref C::us,kw⟩)).depth=A.depth+1:=by
 first|rfl|simp[Around.under,Code.weight,Code.isCreation,Code.isGuard,Code.isCaller,Code.frames,Code.isFrame,guardIds]
theorem ZkL :(A.under (.builtin "type.__call__" ⟨.ref C::us,kw⟩)).units=A.units+1:=by
 first|rfl|simp[Around.under,Code.cUnits,Code.frames,Code.isFrame]
theorem Zdr.make {k:Nat}(r:Zdr (k+1) A)(C:Addr)(us:List Value)(kw:List (Str×Value)):Zdr k (A.under (.builtin "type.__call__" ⟨.ref C::us,kw⟩)):=
 ⟨r.hd,by have:=r.dp;rw[ZkK];omega,by have:=r.un;rw[ZkL];omega,r.gd⟩
theorem Zdr.depth {k:Nat}{A:Around}(r:Zdr k A):A.depth<recursionLimit:=by have:=r.dp;omega
theorem Zdr.units {k:Nat}{A:Around}(r:Zdr k A):A.units+64<cLine:=by have:=r.un;omega
def Zap:TA:=fun _ H Q=>Q [] H
def Zaa (ta:TE)(tr:TA):TA:=fun σ H Q=>ta σ H fun x H1=>tr σ H1 fun xs H2=>Q (x::xs) H2
section
variable {X:Cx}{te:TE}{t:TA}{pos:PySem.Pos}
theorem Zab:PA X [] Zap:=fun _ _ _ _ H Q I h=>QdY ⟨[],H,I,.nil,h⟩
theorem ZaH (ha:PE X e te)(hr:PA X es t)(hs:starEach (e::es) X.env=(false,eval e X.env)::starEach es X.env:=by rfl):PA X (e::es) (Zaa te t):=by
 intro pos qa s σ H Q I h;rw[hs];show wpAny _ _ (spliced ((false,eval e X.env)::backTo pos (starEach es X.env))) _ _ s;refine QcZ (thn (ha qa s σ H _ I h) fun u s1 ⟨x,H1,I1,r1,q1⟩=> ?_);exact thn (hr pos qa s1 σ H1 _ I1 q1) fun us s2 ⟨xs,H2,I2,r2,q2⟩=>⟨x::xs,H2,I2,.cons r1 r2,q2⟩
def Zcr (t:TA):TE:=fun σ H Q=>t σ H fun xs H1=>xs.length≤sizeLine∧∀p,H1 p=none→Q (.ref p) (upd H1 p (.tup xs))
def Zc0 (t:TA):TE:=fun σ H Q=>t σ H fun xs H1=>xs.length≤sizeLine∧∀p,H1 p=none→Q (.ref p) (upd H1 p (.lst xs))
theorem ZaO {x1}(h:PA X es t):PE X (.Tuple es x1 pos) (Zcr t):=by
 intro qa s σ H Q I hq;refine wpAny_Tuple_spliced (thn (h pos qa s σ H _ I hq) fun us s1 ⟨xs,H1,I1,r,z,q⟩=>⟨by rw[←r.length];exact z,?_⟩);have hf:H1 s1.heap.objs.size=none:=I1.hok.fresh (Qai _);refine⟨.ref s1.heap.objs.size,upd H1 s1.heap.objs.size (.tup xs),I1.laid (t':=s1.toks) (fun b u e=>Qac _ e) (Qai _) ?_,rfl,q _ hf⟩;exact⟨z,us,r,⟨_,Qat _ rfl,rfl,_,rfl⟩⟩
theorem ZaR (h:PA X es t):PE X (.List es pos) (Zc0 t):=by
 intro qa s σ H Q I hq;refine wpAny_List_spliced (thn (h pos qa s σ H _ I hq) fun us s1 ⟨xs,H1,I1,r,z,q⟩=>⟨by rw[←r.length];exact z,?_⟩);have hf:H1 s1.heap.objs.size=none:=I1.hok.fresh (Qai _);refine⟨.ref s1.heap.objs.size,upd H1 s1.heap.objs.size (.lst xs),I1.laid (t':=s1.toks) (fun b u e=>Qac _ e) (Qai _) ?_,rfl,q _ hf⟩;exact⟨z,us,0,r,Qat _ rfl⟩
end
abbrev Sp:=List V→Hp→VK→XK→Prop
abbrev CXT:=List Env→Hp→Shared→XK→Value→Shared→Prop
structure Zqz (P:Program)(w:World)(K:FJ)(mg:Str→Option Value)(base:Heap)(A:Around)(outer:List Env)(s:Shared)(H:Hp):Prop where
 frames:A.frames=some outer
 mod:Mod K mg base
 bs:∀b o,base.get? b=some o→s.heap.get? b=some o∧H b=none
 bsz:base.objs.size≤s.heap.objs.size
 funs:s.heap.FunFrames base outer
 frf:∀b∈frs outer,H b=none
 hok:HOk P w H s.heap
 bare:AllBare s.gens
def CE (outer:List Env)(P:Program)(w:World)(H:Hp)(s:Shared)(Q:VK)(u:Value)(s':Shared):Prop:=
 ∃v H',s'.os=s.os∧AllBare s'.gens∧Un (frs outer) [] H H' s.heap s'.heap∧HOk P w H' s'.heap∧Zbf v u∧Q v H'
def CR (CX:CXT)(outer:List Env)(P:Program)(w:World)(H:Hp)(s:Shared)(Q:VK)(E:XK)(r:Result)(s':Shared):Prop:=
 match r with
 | .ok (.ret u)=>CE outer P w H s Q u s'
 | .ok _=>False
 | .error e=>CX outer H s E e s'
structure Za6 (P:Program)(w:World)(K:FJ)(mg:Str→Option Value)(base:Heap)(CX:CXT)(k:Nat)(f:Addr)(fd:FuncData)(ps:List Str)(sp:Sp):Prop where
 len:∀vs H Q E,sp vs H Q E→vs.length=ps.length
 run:∀(A:Around)(outer:List Env)(s:Shared)(H:Hp)(args:Args)(us:List Value)(vs:List V)(Q:VK)(E:XK),Zdr k A→Zqz P w K mg base A outer s H→BindsTo s fd args (ps.zip us)→Zbg vs us→sp vs H Q E→
  codeAny (model P w) A (.call (.ref f) args) (CR CX outer P w H s Q E) s
theorem Zqz.make {K:FJ}{H:Hp}(e:Zqz P w K mg base A outer s H)(C:Addr)(us:List Value)(kw:List (Str×Value)):
  Zqz P w K mg base (A.under (.builtin "type.__call__" ⟨.ref C::us,kw⟩)) outer s H:=⟨by first|exact e.frames|(simpa[Around.under,Code.envs,Code.isFrame,pushEnvs] using e.frames),e.mod,e.bs,e.bsz,e.funs,e.frf,e.hok,e.bare⟩
section
variable {X:Cx}{σ:St}{H:Hp}
theorem Inv.env0 (I:Inv X qa σ H s):Zqz X.prog X.w X.K X.mg X.base X.A X.stack s H:=
 ⟨I.ok.frames,I.ok.mod,I.bs,QaW I.ok.bsz I.sz,I.stack,I.stkFree,I.hok,I.bare⟩
theorem Inv.after {Q:VK}(I:Inv X qa σ H s)(h:CE X.stack X.prog X.w H s Q u s'):EP X qa σ Q u s':=by
 obtain⟨v,H',os,bare,un,hok,r,q⟩:=h;obtain⟨hh,g,d,t,os'⟩:=s';obtain rfl:os'=s.os:=os;exact⟨v,H',I.call (h':=hh) (g':=g) (d':=d) (t':=t) (ch:=[]) un hok bare (fun b z=>absurd z (by simp)),r,q⟩
end
def Zau (sp:Sp)(dvs:List V)(E:XK)(t:TA):TE:=fun σ H Q=>t σ H fun vs H1=>sp (vs++dvs) H1 Q E
def Zf3 (C:Addr)(m:Str)(sp:Sp)(dvs:List V)(E:XK)(ta:TE)(t:TA):TE:=fun σ H Q=>ta σ H fun x H1=>∃a dx fs,x= .ref a∧H1 a=some (.ins C dx fs)∧fs.lookup m=none∧
 t σ H1 fun vs H2=>sp (x::(vs++dvs)) H2 Q E
def ZqA (C:Addr)(sp:Sp)(dvs:List V)(E:XK)(t:TA):TE:=fun σ H Q=>t σ H fun vs H1=>∀x dx,H1 x=none→H1 dx=none→dx≠x→
 sp (.ref x::(vs++dvs)) (upd (upd H1 dx (.own x)) x (.ins C dx [])) (fun v H2=>v= .non∧Q (.ref x) H2) E
def ZdA (K:FJ)(fd:FuncData)(ps:List Str)(ds:List Value):Prop:=
 ∀(s:Shared)(us:List Value),K.In s.heap→(us++ds).length=ps.length→BindsTo s fd ⟨us,[]⟩ (ps.zip (us++ds))
theorem ZdA.all {K:FJ}(h:∀us:List Value,us.length=ps.length→bindArgs fd ⟨us,[]⟩=pure (ps.zip us)):ZdA K fd ps []:=fun s us _ hl=>by
 rw[Qa5] at hl⊢;exact .of_eq (h us hl)
def ZfM (CX:CXT)(X:Cx)(E:XK):Prop:=∀(qa:List (Addr×Obj))(σ:St)(H:Hp)(s:Shared)(e:Value)(s':Shared),Inv X qa σ H s→CX X.stack H s E e s'→X.xe e s'
section
variable {X:Cx}{CX:CXT}{k:Nat}{sp:Sp}{dvs:List V}{ds:List Value}{E:XK}{pos qg:PySem.Pos}{o:Expr}{ta:TE}{t:TA}
theorem Zl5 {σ:St}{H:Hp}{Q:VK}{vs:List V}(F:Za6 X.prog X.w X.K X.mg X.base CX k f fd ps sp)(hr:Zdr k X.A)(hb:ZdA X.K fd ps ds)(hd:Zbg dvs ds)(hx:ZfM CX X E)
  (I:Inv X qa σ H s) (r:Zbg vs us) (h:sp (vs++dvs) H Q E):wpAny (model X.prog X.w) X.A (call (.ref f) us) (EP X qa σ Q) X.xe s:=by
 have r2:Zbg (vs++dvs) (us++ds):=r.append hd;have hl:(us++ds).length=ps.length:=by rw[←r2.length];exact F.len _ _ _ _ h
 refine wpAny_call (Qew (F.run X.A X.stack s H ⟨us,[]⟩ (us++ds) (vs++dvs) Q E hr I.env0 (hb s us I.kIn hl) r2 h) fun r s' hq=> ?_)
 cases r with
 |error e=>exact hx qa σ H s e s' I hq
 |ok fl=>
  cases fl with
  |ret u=>exact I.after hq
  |next=>exact False.elim hq
  |brk=>exact False.elim hq
  |cont=>exact False.elim hq
theorem ZqB (F:Za6 X.prog X.w X.K X.mg X.base CX k f fd ps sp)(hr:Zdr k X.A)(hg:Gl X x)(hm:X.mg x=some (.ref f))(hk:PySem.W.keepIn X.K (.ref f)=true)(hb:ZdA X.K fd ps ds)(hd:Zbg dvs ds)(hx:ZfM CX X E)
  (ha:PA X (e::es) t) (hdb:(x==("__debug__" :Str))=false:=by decide) (he:starEach (e::es) X.env=(false,eval e X.env)::starEach es X.env:=by rfl) (hpl:(backTo pos (starEach es X.env)).any (·.1)=false:=by rfl):
  PE X (.Call (.Name x p) (e::es) [] pos) (Zau sp dvs E t):=by
 intro qa s σ H Q I h;refine QbI (ZeP I hg hm ?_ hdb);refine Qc0 (h₀:=X.base) I.ok.mod.kin hk (thn (ha pos qa s σ H _ I h) fun us s1 ⟨vs,H1,I1,r,q⟩=>⟨I1.kIn,?_⟩) he hpl;exact Zl5 F hr hb hd hx I1 r q
theorem ZqC (he:PE X o ta)(c:Cls X.K C)(hm:ZtQ X.K C m f)(F:Za6 X.prog X.w X.K X.mg X.base CX k f fd ps sp)(hr:Zdr k X.A)(hb:ZdA X.K fd ps ds)(hd:Zbg dvs ds)(hx:ZfM CX X E)(ha:PA X (e::es) t)
  (hst:starEach (e::es) X.env=(false,eval e X.env)::starEach es X.env:=by rfl) (hpl:(backTo pos (starEach es X.env)).any (·.1)=false:=by rfl)
  (ht:eval (.Call (.Attribute o m qg) (e::es) [] pos) X.env=(do
   let ov←eval o X.env
   standAt qg.atName
   let(f,first) ←holding [ov] (getMethod ov m pl)
   callWith pos f first (backTo pos (starEach (e::es) X.env)) (backToKw pos (keywordEach [] X.env))):=by rfl):
  PE X (.Call (.Attribute o m qg) (e::es) [] pos) (Zf3 C m sp dvs E ta t):=by
 intro qa s σ H Q I h;refine PySem.W.methodCall_KW (pl:=pl) (thn (he qa s σ H _ I h) fun u s1 ⟨x,H1,I1,rx,a,dx,fs,ex,ea,l,q⟩=> ?_) ht;subst ex;obtain rfl:u=Value.ref a:=rx;refine ZkJ I1 ea c hm l ?_;refine Qc0 (first:=[.ref a]) (h₀:=X.base) I.ok.mod.kin hm.kp (thn (ha pos qa s1 σ H1 _ I1 q) fun us s2 ⟨vs,H2,I2,r,q2⟩=>⟨I2.kIn,?_⟩) hst hpl;exact Zl5 (us:=.ref a::us) (vs:=.ref a::vs) F hr hb hd hx I2 (.cons rfl r) q2
structure Mk (K:FJ)(C f:Addr):Prop where
 makes:PySem.W.makesIn K C=true
 init:PySem.W.findIn K (.ref C) "__init__" =some (some (.ref f))
 fn:PySem.W.isFn K (.ref f)=true
 kp:PySem.W.keepIn K (.ref C)=true
theorem Zon {σ:St}{H:Hp}{Q:VK}{vs:List V}(M:Mk X.K C f)(F:Za6 X.prog X.w X.K X.mg X.base CX k f fd ps sp)(hr:Zdr (k+1) X.A)(hb:ZdA X.K fd ps ds)(hd:Zbg dvs ds)
  (hx:ZfM CX X E) (I:Inv X qa σ H s) (r:Zbg vs us)
  (h:∀x dx,H x=none→H dx=none→dx≠x→sp (.ref x::(vs++dvs)) (upd (upd H dx (.own x)) x (.ins C dx [])) (fun v H2=>v= .non∧Q (.ref x) H2) E):
  wpAny (model X.prog X.w) X.A (call (.ref C) us) (EP X qa σ Q) X.xe s:=by
 have hq:=h (s.heap.objs.size+1) s.heap.objs.size (I.hok.fresh (Qea _)) (I.hok.fresh (Qai _)) (QaM (QcU _));have I2:=Inv.made (C:=C) I;have r2:Zbg (V.ref (s.heap.objs.size+1)::(vs++dvs)) (Value.ref (s.heap.objs.size+1)::(us++ds)):=.cons rfl (r.append hd)
 have hl:(Value.ref (s.heap.objs.size+1)::us++ds).length=ps.length:=by
  have e:=r2.length;rw[F.len _ _ _ _ hq] at e;exact e.symm
 refine wpAny_call (Zom (f:=f) I.kIn M.makes M.init (QdX.mp M.fn) (Qew (F.run _ X.stack _ _ ⟨Value.ref (s.heap.objs.size+1)::us,[]⟩ (Value.ref (s.heap.objs.size+1)::(us++ds)) _ _ E (hr.make C us [])
  (I2.env0.make C us []) (hb _ (Value.ref (s.heap.objs.size+1)::us) I2.kIn hl) r2 hq) fun r s' hq'=> ?_))
 cases r with
 |error e=>exact hx qa σ _ _ e s' I2 hq'
 |ok fl=>
  cases fl with
  |ret u=>
   obtain⟨v,H',I3,rv,ev,q3⟩:=I2.after hq';subst ev;exact⟨rv,⟨V.ref (s.heap.objs.size+1),H',I3,rfl,q3⟩⟩
  |next=>exact False.elim hq'
  |brk=>exact False.elim hq'
  |cont=>exact False.elim hq'
theorem ZqD (M:Mk X.K C f)(F:Za6 X.prog X.w X.K X.mg X.base CX k f fd ps sp)(hr:Zdr (k+1) X.A)(hg:Gl X x)(hm:X.mg x=some (.ref C))(hb:ZdA X.K fd ps ds)(hd:Zbg dvs ds)(hx:ZfM CX X E)
  (ha:PA X (e::es) t) (hdb:(x==("__debug__" :Str))=false:=by decide) (he:starEach (e::es) X.env=(false,eval e X.env)::starEach es X.env:=by rfl) (hpl:(backTo pos (starEach es X.env)).any (·.1)=false:=by rfl):
  PE X (.Call (.Name x p) (e::es) [] pos) (ZqA C sp dvs E t):=by
 intro qa s σ H Q I h;refine QbI (ZeP I hg hm ?_ hdb);refine Qc0 (h₀:=X.base) I.ok.mod.kin M.kp (thn (ha pos qa s σ H _ I h) fun us s1 ⟨vs,H1,I1,r,q⟩=>⟨I1.kIn,?_⟩) he hpl;exact Zon M F hr hb hd hx I1 r q
end
structure Zas (N P:List Str)(sc:Scope):Prop where
 kind:sc.kind= .function
 co:sc.isCoroutine=false
 gen:sc.isGenerator=false
 nd:N.Nodup
 pre:N.take P.length=P
 par:∀x∈P,sc.names.lookup x=some .local∨sc.names.lookup x=some .cell
 nofree:∀y∈sc.names,y.2≠ .free
theorem Zhs {kindOf:Str→Option NameKind}{x:Str}:∀{binds:List (Str×Value)} {m:Str→Option Value},(∀v,(x,v) ∉binds)→bindL kindOf binds m x=m x
 | [],_,_=>rfl
 | (n,v)::r,m,h=>by
  unfold bindL;rw[Zhs fun w hw=>h w (Qag _ hw)];split
  ·have:x≠n:=by rintro rfl;exact h v Qah
   simp[this]
  ·rfl
theorem Zht {kindOf:Str→Option NameKind}{x:Str}:∀{binds:List (Str×Value)} {m:Str→Option Value},(∀v,(x,v) ∉binds)→bindC kindOf binds m x=m x
 | [],_,_=>rfl
 | (n,v)::r,m,h=>by
  unfold bindC;rw[Zht fun w hw=>h w (Qag _ hw)];split
  ·rfl
  ·have:x≠n:=by rintro rfl;exact h v Qah
   simp[this]
theorem Zhu {kindOf:Str→Option NameKind}{x:Str}{v:Value}:∀{P:List Str} {vs:List Value} {i:Nat} {m:Str→Option Value},P.Nodup→P[i]?=some x→vs[i]?=some v→kindOf x=some .local→
  bindL kindOf (P.zip vs) m x=some v
 | [],_,_,_,_,h,_,_=>by simp at h
 |_::_,[],_,_,_,_,h,_=>by simp at h
 |p::P,w::vs,0,m,nd,h1,h2,hk=>by
  simp at h1 h2;subst h1;subst h2;show bindL kindOf ((p,w)::P.zip vs) m p=_;unfold bindL;rw[Zhs fun v hv=>(QbV.mp nd).1 (Qex hv).1,Qp hk];simp
 |p::P,w::vs,i+1,m,nd,h1,h2,hk=>by
  show bindL kindOf ((p,w)::P.zip vs) m x=_;unfold bindL;exact Zhu (i:=i) (QbV.mp nd).2 (by simpa using h1) (by simpa using h2) hk
theorem Zhv {kindOf:Str→Option NameKind}{x:Str}{v:Value}:∀{P:List Str} {vs:List Value} {i:Nat} {m:Str→Option Value},P.Nodup→P[i]?=some x→vs[i]?=some v→kindOf x≠some .local→
  bindC kindOf (P.zip vs) m x=some v
 | [],_,_,_,_,h,_,_=>by simp at h
 |_::_,[],_,_,_,_,h,_=>by simp at h
 |p::P,w::vs,0,m,nd,h1,h2,hk=>by
  simp at h1 h2;subst h1;subst h2;show bindC kindOf ((p,w)::P.zip vs) m p=_;unfold bindC;rw[Zht fun v hv=>(QbV.mp nd).1 (Qex hv).1,Qn hk];simp
 |p::P,w::vs,i+1,m,nd,h1,h2,hk=>by
  show bindC kindOf ((p,w)::P.zip vs) m x=_;unfold bindC;exact Zhv (i:=i) (QbV.mp nd).2 (by simpa using h1) (by simpa using h2) hk
def Zhw (N:List Str)(vs:List V):St:=vs.map some++List.replicate (N.length-vs.length) none
def ZrW (CX:CXT)(P:Program)(w:World)(K:FJ)(mg:Str→Option Value)(base:Heap)(N:List Str)(qe:Str)(scope:Scope)(f:Addr)(cd:Value)(A:Around)(outer:List Env)(s:Shared)(H:Hp)(E:XK):Cx where
 prog:=P
 w:=w
 K:=K
 mg:=mg
 base:=base
 A:=A.deeper (envOfC qe scope s.heap.objs.size f cd)
 N:=N
 s₀:=s
 H₀:=H
 env:=envOfC qe scope s.heap.objs.size f cd
 outer:=outer
 stack:=envOfC qe scope s.heap.objs.size f cd::outer
 ex:=[]
 calm:=true
 fn:=fun _=>true
 pn:=[]
 xe:=fun e s'=>wpAny (model P w) (A.deeper (envOfC qe scope s.heap.objs.size f cd)) (leaving (envOfC qe scope s.heap.objs.size f cd) e) (fun _ s''=>CX outer H s E e s'') (fun e' s''=>CX outer H s E e' s'') s'
theorem Zj4 {sc:Scope}(h:sc.names.lookup x=some .cell):∃c,(cellsFrom n sc.names []).lookup x=some c:=by
 have q:=Qer sc.names n [] (.inl h);exact Qcw.mp q
theorem Zl6 {CX:CXT}{K:FJ}{cd:Value}{s1:Shared}{H:Hp}{E:XK}{vs:List V}
  (S:Zas N ps scope) (hd:A.handled=none) (e0:Zqz P w K mg base A outer s H) (hl:vs.length=ps.length) (r:Zbg vs us)
  (x:InCallC s s.heap.objs.size (bindL (envOfC qe scope s.heap.objs.size f cd).kindOf (ps.zip us) fun _=>none) (cellsFrom (s.heap.objs.size+1) scope.names []) (bindC (envOfC qe scope s.heap.objs.size f cd).kindOf (ps.zip us) fun _=>none) s1):
  Inv (ZrW CX P w K mg base N qe scope f cd A outer s H E) [] (Zhw N vs) H s1:=by
 have hpl:ps.length≤N.length:=by have:=congrArg List.length S.pre;rw[Qax] at this;omega
 obtain⟨h1,tk,rfl,hk⟩:=x.done;have noA:∀b:Addr,b∉(ZrW CX P w K mg base N qe scope f cd A outer s H E).ex:=fun b z=>absurd (show b∈([]:List Addr) from z) (by simp)
 refine⟨⟨e0.mod,S.kind,rfl,rfl,Qai _,fun y z c h1 h2=> ?_,fun y hy=> ?_,fun y c _ h=> ?_,fun _=>hd,Around.frames_deeper e0.frames,.inr ⟨rfl,rfl⟩,fun b z=>absurd z (noA b),e0.bs,e0.bsz,fun b _ _=>noA b,fun b z=>absurd z (noA b),e0.funs,e0.frf⟩,
  rfl,e0.bare,Un.kept hk,⟨_,x.toInCall.ns,fun i y v h1 h2 h3=> ?_⟩,fun y c h=>⟨_,x.cell y c h⟩,e0.hok.fresh (Qai _),fun y c h=> ?_,fun p hp=>absurd (show p∈([]:List (Addr×Obj)) from hp) (by simp),e0.hok.kept hk,?_⟩
 ·exact name_of_addr x.apart (QbP h1) (QbP h2)
 ·have hy:scope.names.lookup y=some .cell∨scope.names.lookup y=some .free:=hy;rcases hy with hy|hy
  ·exact Zj4 hy
  ·exact absurd rfl (S.nofree _ (QbP hy))
 ·exact QbH (x.above y c (QbP h))
 ·have hi:i<vs.length:=by
   unfold Zhw at h2;by_cases hi:i<vs.length
   ·exact hi
   ·rw[Qaq (by simpa using hi)] at h2;rw[Qeb] at h2;split at h2<;>cases h2
  have ha:vs[i]?=some v:=by
   unfold Zhw at h2;rw[Qas (by simpa using hi),Qao] at h2
   cases e:vs[i]? with
   |none=>rw[e] at h2;cases h2
   |some a=>rw[e] at h2;cases h2;rfl
  obtain⟨u,hu,rv⟩:=r.get ha
  have hp:ps[i]?=some y:=by
   rw[←S.pre,List.getElem?_take_of_lt (by omega)];exact h1
  have ndP:ps.Nodup:=by rw[←S.pre];exact S.nd.sublist (List.take_sublist _ _)
  refine⟨u,rv,?_⟩;rcases S.par y (Qav hp) with k|k
  ·exact .inl ⟨k,Zhu ndP hp hu k⟩
  ·obtain⟨c,e⟩:=Zj4 (n:=s.heap.objs.size+1) k;refine .inr ⟨.inl k,c,e,?_⟩;have q:=x.cell y c e;rw[Zhv ndP hp hu (by show scope.names.lookup y≠_;rw[k];decide)] at q;exact q
 ·exact e0.hok.fresh (QbH (x.above y c (QbP h)))
 ·unfold Zhw;show _=N.length;rw[Qae,Qaf,QaT];omega
theorem ZtS {CX:CXT}{K:FJ}{k:Nat}{params:Arguments}{dV kV doc pm cdv ct oc:Value}{an od:Option Addr}
  {osl:Array (Option Value)} {N ps:List Str} {sp:Sp} (lk:K.lookup f=some ⟨oc,od,.func (PySem.W.fnOf name qe params body scope dV kV doc pm an cdv ct),osl⟩) (hcd:PySem.W.codeIn K cdv qe=true) (S:Zas N ps scope)
  (len:∀vs H Q E,sp vs H Q E→vs.length=ps.length)
  (hbody:∀(A:Around)(outer:List Env)(s:Shared)(H:Hp)(vs:List V)(Q:VK)(E:XK),Zdr k (A.deeper (envOfC qe scope s.heap.objs.size f cdv))→sp vs H Q E→
   ∃t,PSs (ZrW CX P w K mg base N qe scope f cdv A outer s H E) body t∧t {nx:=fun _ H'=>Q .non H',rt:=Q } (Zhw N vs) H):
  Za6 P w K mg base CX (k+1) f (PySem.W.fnOf name qe params body scope dV kV doc pm an cdv ct) ps sp:=by
 refine⟨len,fun A outer s H args us vs Q E hr e0 hb r hsp=> ?_⟩;have hl:=len _ _ _ _ hsp;have KX:K.In s.heap:=e0.mod.kin.keeps fun b o e=>(e0.bs b o e).1;have lim:s.heap.NoLimit:=e0.mod.nolimit.keeps fun b o e=>(e0.bs b o e).1
 have qj:∀y∈ps.zip us,scope.names.lookup y.1=some .local∨(scope.names.lookup y.1=some .cell∧((cellsFrom (s.heap.objs.size+1) scope.names []).lookup y.1).isSome=true):=fun⟨n,v⟩ hy=>by
  rcases S.par n (Qex hy).1 with q|q
  ·exact .inl q
  ·exact .inr ⟨q,Qer _ _ _ (.inl q)⟩
 refine codeAny_call_function hr.depth (KX _ _ lk) rfl S.co S.gen rfl (PySem.W.codeRec_of KX hcd) (hb _ _ _ _ ?_);refine wpAny_newFunctionEnv_cells S.kind qj fun env he s1 x=> ?_;subst he;refine⟨lim.keeps x.toInCall.keep,codeAny_func ?_⟩;obtain⟨t,ht,hq⟩:=hbody A outer s H vs Q E (hr.deeper _) hsp;have I:Inv (ZrW CX P w K mg base N qe scope f cdv A outer s H E) [] (Zhw N vs) H s1:=Zl6 S hr.hd e0 hl r x;refine QbK (ht [] s1 (Zhw N vs) H _ I hq) (fun fl s' hs=> ?_) fun e s' hs=>hs
 have fin:∀{σ':St} {H':Hp} {v:V} {u:Value},Inv (ZrW CX P w K mg base N qe scope f cdv A outer s H E) [] σ' H' s'→Zbf v u→Q v H'→CE outer P w H s Q u s':=
  fun{σ' H' v u} J rv q=>⟨v,H',J.os,J.bare,J.base,J.hok,rv,q⟩
 cases fl with
 |ret u=>
  obtain⟨v,σ',H',J,rv,q⟩:=hs;exact fin J rv q
 |next=>
  obtain⟨σ',H',J,q⟩:=hs;exact fin (v:=V.non) (u:=Value.none) J rfl q
 |brk=>
  obtain⟨_,_,_,q⟩:=hs;exact False.elim q
 |cont=>
  obtain⟨_,_,_,q⟩:=hs;exact False.elim q
section
variable {X:Cx}{pos:PySem.Pos}{t:TA}{id T:String}{r:List V→Hp→VK→Prop}
def tCB (r:List V→Hp→VK→Prop)(t:TA):TE:=fun σ H Q=>t σ H fun vs H1=>r vs H1 Q
theorem Zay (hc:Zcq X (.builtin id) r)(hg:Gl X x)(hm:X.mg x=none)(hv:bootBuiltins x=some (.builtin id))(ha:PA X (e::es) t)(hn:x≠ "__name__" :=by decide)(hdb:(x==("__debug__" :Str))=false:=by decide)
  (he:starEach (e::es) X.env=(false,eval e X.env)::starEach es X.env:=by rfl) (hpl:(backTo pos (starEach es X.env)).any (·.1)=false:=by rfl):PE X (.Call (.Name x p) (e::es) [] pos) (tCB r t):=by
 intro qa s σ H Q I h;refine QbI (Zep I hg hm hv ?_ hn hdb);exact PyProof.Rows.callWith_builtin1 (thn (ha pos qa s σ H _ I h) fun us s1 ⟨vs,H1,I1,r1,q1⟩=>hc qa s1 σ H1 vs us Q I1 r1 q1) he hpl
theorem Za1 (hc:Zcq X (.type T) r)(hg:Gl X x)(hm:X.mg x=none)(hv:bootBuiltins x=some (.type T))(ha:PA X (e::es) t)(hn:x≠ "__name__" :=by decide)(hdb:(x==("__debug__" :Str))=false:=by decide)
  (he:starEach (e::es) X.env=(false,eval e X.env)::starEach es X.env:=by rfl) (hpl:(backTo pos (starEach es X.env)).any (·.1)=false:=by rfl):PE X (.Call (.Name x p) (e::es) [] pos) (tCB r t):=by
 intro qa s σ H Q I h;refine QbI (Zep I hg hm hv ?_ hn hdb);exact QbU (thn (ha pos qa s σ H _ I h) fun us s1 ⟨vs,H1,I1,r1,q1⟩=>hc qa s1 σ H1 vs us Q I1 r1 q1) he hpl
end
end L2
namespace HT
open PySem PyProof.Rows
variable {items:Array Value}{Q:Value→Shared→Prop}{sl:Addr}{vl vu:Value}{lo hi:Option Int}
def lexLt:List Int→List Int→Bool
 | [],[]=>false
 | [],_::_=>true
 |_::_,[]=>false
 |x::xs,y::ys=>if x=y then lexLt xs ys else decide (x<y)
theorem lexLt_cons (x y:Int)(xs ys:List Int):lexLt (x::xs) (y::ys)=if x=y then lexLt xs ys else decide (x<y):=rfl
theorem Zf4:lexLt [] []=false:=rfl
theorem Zfy (y:Int)(ys:List Int):lexLt [] (y::ys)=true:=rfl
theorem Zfz (x:Int)(xs:List Int):lexLt (x::xs) []=false:=rfl
theorem Zoo (A:Around)(s:Shared)(a:Int)(t:Tok)(c:Int)(u:Tok):∃e,SeqAt.EqAt A s (.int a t) (.int c u) e∧(e=true↔a=c):=
 ⟨(a==c),SeqAt.EqAt.int_int a t c u,by simp⟩
theorem rcLt_int (A:Around)(s:Shared)(a:Int)(t:Tok)(c:Int)(u:Tok)(prog:Program)(w:World)(E:Value→Shared→Prop)(Q:Value→Shared→Prop)(h:Q (.bool (decide (a<c))) s):
  wpAny (model prog w) A (richCompare .Lt (.int a t) (.int c u)) Q E s:=
 (PyProof.Rows.lt_int h:wpAny (model prog w) A (compareOp .Lt (.int a t) (.int c u)) Q E s)
section
open PySem.SeqAt
open PySem.AutoSeq1 (wpAny_loadPart')
open PySem.MeetsSeq PySem.MeetsSeq2 PySem.MeetsSeq3
theorem Zf5 (l b:Addr)(items items2:Array Value)(n n2:Nat)(dd dd2:Option Addr)(sl sl2:Array (Option Value))(ns ms:List Int)(hi:IntsAre items.toList ns)(hj:IntsAre items2.toList ms):
  Meets (Builtin.«tuple.__lt__» ⟨[.ref l,.ref b],[]⟩)
   (fun _ R s=>s.heap.get? l=some {cls:=.type "tuple",dict:=dd,data:=.seq items n,slots:=sl }∧s.heap.get? b=some {cls:=.type "tuple",dict:=dd2,data:=.seq items2 n2,slots:=sl2 }∧
    R (.ok (.ret (.bool (lexLt ns ms)))) s):=
 .of_wp fun prog w A R s h=>by
  obtain⟨hp,g,d,tk,os⟩:=s;obtain⟨hl,hb,h⟩:=h;have f2:=AutoSeq1.sub_tuple_tuple;have z1:items.size=ns.length:=by rw[←hi.length];simp
  have z2:items2.size=ms.length:=by rw[←hj.length];simp
  wp_walk using Qey hl,Qey hb,wpAny_forIn_list _ (fun rest b s'=>b.1=none∧s'=⟨hp,g,d,tk,os⟩∧∃(vs ws:List Value)(ns' ms':List Int),rest=vs.zip ws∧
   IntsAre vs ns'∧IntsAre ws ms'∧ns'.length+items2.size=ms'.length+items.size∧R (.ok (.ret (.bool (lexLt ns' ms')))) ⟨hp,g,d,tk,os⟩) _
  case turn=>
   rintro⟨y,x⟩ rest b s' ⟨hb',rfl,vs,ws,ns',ms',hz,hvi,hwi,hlen,hR⟩
   cases hvi with
   |nil=>rw[List.zip_nil_left] at hz;cases hz
   |cons a t hvi'=>
    cases hwi with
    |nil=>rw[List.zip_nil_right] at hz;cases hz
    |cons c u hwi'=>
     rw[List.zip_cons_cons] at hz;injection hz with hyx hrest
     injection hyx with hy hx
     subst hy hx;rw[lexLt_cons] at hR;simp only[QaB] at hlen;obtain⟨e,he,hiff⟩:=Zoo A.in1 ⟨hp,g,d,tk,os⟩ a t c u;refine Qaa (he prog w _ _ ?_)
     cases e with
     |true=>
      rw[Qp (hiff.mp rfl)] at hR
      wp_walk
      exact⟨rfl,rfl,_,_,_,_,hrest,hvi',hwi',by omega,hR⟩
     |false=>
      rw[Qn (fun q=>absurd (hiff.mpr q) QaE)] at hR;have hri:=rcLt_int A.in1 ⟨hp,g,d,tk,os⟩ a t c u prog w
      wp_walk using hri
      exact⟨_,rfl,by simpa using hR⟩
  case fin=>
   rintro⟨b1,b2⟩ s' ⟨hb',rfl,vs,ws,ns',ms',hz,hvi,hwi,hlen,hR⟩;simp only at hb';subst hb'
   have hv:lexLt ns' ms'=decide (items.size<items2.size):=by
    cases hvi with
    |nil=>
     cases hwi with
     |nil=>
      simp only[QbM] at hlen;rw[Zf4];exact(QaC (by omega)).symm
     |cons c u hw=>
      simp only[QbM,QaB] at hlen;rw[Zfy];exact(Qam (by omega)).symm
    |cons a t hv=>
     cases hwi with
     |nil=>
      simp only[QbM,QaB] at hlen;rw[Zfz];exact(QaC (by omega)).symm
     |cons c u hw=>
      rw[List.zip_cons_cons] at hz;cases hz
   rw[hv] at hR
   wp_walk
   exact⟨_,rfl,by simpa[Builtin.Tuple.tupleCompareSizes] using hR⟩
  case h=>
   exact⟨rfl,rfl,items.toList,items2.toList,ns,ms,rfl,hi,hj,by omega,h⟩
end
section
variable {prog:Program}{w:World}{A:Around}{E:Value→Shared→Prop}{s:Shared}
theorem lt_tupInts {l b:Addr}{items2:Array Value}{ns ms:List Int}(hl:IsTup s.heap l items)(hb:IsTup s.heap b items2)(hi:IntsAre items.toList ns)(hj:IntsAre items2.toList ms)
  (hu:A.units<cLine) (h:Q (.bool (lexLt ns ms)) s):wpAny (model prog w) A (compareOp .Lt (.ref l) (.ref b)) Q E s:=by
 obtain⟨⟨cls,dd,data,sl⟩,ho,hc,n,hd⟩:=id hl;obtain⟨⟨cls2,dd2,data2,sl2⟩,ho2,hc2,n2,hd2⟩:=id hb;simp only at hc hd hc2 hd2;subst hc hd hc2 hd2
 exact richCompare_meets_room (op:=.Lt) ⟨_,ho,rfl⟩ ⟨_,ho2,rfl⟩ PySem.F.slot_tuple_lt PySem.F.entry_tuple_lt (PySem.F.args_tuple_lt_2 _ _) (Zf5 l b items items2 n n2 dd dd2 sl sl2 ns ms hi hj)
  ⟨ho,ho2,show Value.bool (lexLt ns ms)≠Value.notImplemented∧Q (.bool (lexLt ns ms)) s from⟨(fun x=>nomatch x),h⟩⟩ hu
def sIx (n d:Nat):Option Int→Nat
 |none=>d
 |some v=>if v<0 then(v+(n:Int)).toNat else min v.toNat n
theorem sIx_none (n d:Nat):sIx n d none=d:=rfl
theorem sIx_nat (n d k:Nat):sIx n d (some (k:Int))=min k n:=by
 show(if(k:Int)<0 then((k:Int)+(n:Int)).toNat else min (k:Int).toNat n)=min k n;rw[Qn (by omega),QbR]
theorem Zsb (n d:Nat)(hd:d≤n)(o:Option Int):sIx n d o≤n:=by
 cases o with
 |none=>exact hd
 |some v=>
  show(if v<0 then(v+(n:Int)).toNat else min v.toNat n)≤n;by_cases hv:v<0
  ·rw[Qp hv];omega
  ·rw[Qn hv];exact Nat.min_le_right _ _
theorem Zl7 (v:Int)(n d:Nat):(if v<0 then max (v+(n:Int)) 0 else min v (n:Int))=((sIx n d (some v):Nat):Int):=by
 show(if v<0 then max (v+(n:Int)) 0 else min v (n:Int))=(((if v<0 then(v+(n:Int)).toNat else min v.toNat n):Nat):Int);by_cases hv:v<0
 ·simp only[Qp hv];omega
 ·simp only[Qn hv];omega
theorem ZkM (lo hi:Option Int)(n:Nat):Builtin.Slice.sliceAdjust lo hi 1 (n:Int)=(((sIx n 0 lo:Nat):Int),((sIx n n hi:Nat):Int)):=by
 have h1:¬((1:Int)<0):=by omega
 unfold Builtin.Slice.sliceAdjust;simp only[h1,Qbv];refine Prod.ext ?_ ?_
 ·cases lo with
  |none=>rfl
  |some v=>exact Zl7 v n 0
 ·cases hi with
  |none=>rfl
  |some v=>exact Zl7 v n n
theorem ZkN (i j:Nat):Builtin.Slice.slicePlaces (i:Int) (j:Int) 1=j-i:=by
 unfold Builtin.Slice.slicePlaces;have h1:(1:Int)>0:=by omega
 simp only[h1,QbW,Int.ediv_one];split<;>omega
theorem ZfN {v:Value}{o:Option Int}{Q:Option Int→Shared→Prop}(p:IsPart v o)(h:Q o s):wpAny (model prog w) A (Builtin.Slice.slicePartIndex v) Q E s:=by
 cases p with
 |none=>exact slicePart_none h
 |int i t=>exact slicePart_int h
theorem Zez {n:Nat}{Q:Int×Int×Nat→Shared→Prop}(hs:s.heap.IsSliceOf sl vl vu .none)(pl:IsPart vl lo)(pu:IsPart vu hi)
  (h:Q (((sIx n 0 lo:Nat):Int),1,sIx n n hi-sIx n 0 lo) s):wpAny (model prog w) A (Builtin.Slice.sliceApplied (.ref sl) (pure (n:Int))) Q E s:=by
 obtain⟨os,hos,hcs,hds⟩:=id hs;unfold Builtin.Slice.sliceApplied Builtin.Slice.sliceFields;refine Qaa (Qaa (Qbo hos hds (x:=vl) rfl (Qaa (Qbo hos hds (x:=vu) rfl (Qaa (Qbo hos hds (x:=.none) rfl (Qak ?_)))))));refine Qaa (slicePart_none ?_);show wpAny _ _ (if((1:Int)==0)=true then _ else _) _ _ s;rw[Qn (by decide)];refine Qaa (ZfN pl (Qaa (ZfN pu (Qaa (Qak ?_)))));show wpAny _ _ (match Builtin.Slice.sliceAdjust lo hi 1 (n:Int) with|(lo,hi)=>pure (lo,(1:Int),Builtin.Slice.slicePlaces lo hi 1)) _ _ s;rw[ZkM lo hi n];show wpAny _ _ (pure (((sIx n 0 lo:Nat):Int),(1:Int),Builtin.Slice.slicePlaces ((sIx n 0 lo:Nat):Int) ((sIx n n hi:Nat):Int) 1)) _ _ s;rw[ZkN];exact Qak h
theorem Zop (xs:Array Value)(i k:Nat):((List.range k).filterMap fun(m:Nat)=>xs[((i:Int)+(m:Int)*1).toNat]?).toArray=((xs.toList.drop i).take k).toArray:=by
 have e:(fun(m:Nat)=>xs[((i:Int)+(m:Int)*1).toNat]?)=fun m=>xs[i+m]?:=by
  funext m
  have:((i:Int)+(m:Int)*1).toNat=i+m:=by omega
  rw[this]
 rw[e]
 have:=pick_run xs i k;rw[List.filterMap_map] at this;have e2:((fun x=>xs[x]?) ∘ fun x=>i+x)=fun m=>xs[i+m]?:=rfl;rw[e2] at this;rw[this]
theorem getItem_tuple_cut {t:Addr}(ht:IsTup s.heap t items)(hs:s.heap.IsSliceOf sl vl vu .none)(pl:IsPart vl lo)(pu:IsPart vu hi)
  (hw:¬(sIx items.size 0 lo=0∧sIx items.size items.size hi=items.size))
  (h:Q (.ref s.heap.objs.size) {s with heap:=s.heap.push {cls:=.type "tuple",data:=.seq ((items.toList.drop (sIx items.size 0 lo)).take (sIx items.size items.size hi-sIx items.size 0 lo)).toArray } })
  (hsz:items.size≤sizeLine):wpAny (model prog w) A (getItem (.ref t) (.ref sl)) Q E s:=by
 have htake:sizeOk (.seq ((items.toList.drop (sIx items.size 0 lo)).take (sIx items.size items.size hi-sIx items.size 0 lo)).toArray):=by
  show((items.toList.drop (sIx items.size 0 lo)).take (sIx items.size items.size hi-sIx items.size 0 lo)).toArray.size≤sizeLine;rw[Qay,Qax,Qbd,Qbj];omega
 have hj:sIx items.size items.size hi≤items.size:=Zsb _ _ (Qai _) hi;obtain⟨os,hos,hcs,hds⟩:=id hs;have hTs:s.TypeIs (.ref sl) "slice" :=⟨os,hos,hcs⟩;unfold getItem
 try with_reducible refine Qbz ?_
 first|refine Qaa (Qak ?_)|skip
 refine Qaa (wpAny_sequenceKey ht.typeIs (by decide) ?_)
 refine Qaa (QbF (name:=Str.ofString "__getitem__") ht.typeIs Qdb
  (QbE Qdb ht.typeIs entry_tuple_getitem ?_ (args_tuple_getitem _ _)))
 show wpAny _ _ (Builtin.Tuple.tupleItemsOf (.ref t)>>=_) _ _ s;refine Qaa (tupleItemsOf_ ht ?_);refine Qaa (QeV hTs ?_);rw[Qp (by decide)];refine Qaa (Zez hs pl pu ?_)
 have hno:¬((((sIx items.size 0 lo:Nat):Int)==0 && (1:Int)==1 && (sIx items.size items.size hi-sIx items.size 0 lo)==items.size)=true):=by
  intro q;rw[QaK,QaK] at q;have q1:((sIx items.size 0 lo:Nat):Int)=0:=eq_of_beq q.1.1;have q2:sIx items.size items.size hi-sIx items.size 0 lo=items.size:=eq_of_beq q.2;exact hw ⟨by omega,by omega⟩
 show wpAny _ _ (if(((sIx items.size 0 lo:Nat):Int)==0 && (1:Int)==1 && (sIx items.size items.size hi-sIx items.size 0 lo)==items.size)=true then _ else _) _ _ s;rw[Qn hno,Zop]
 first
  |exact Qaa (m:=Builtin.Tuple.tupleExact _) (Qa4 (Qak ⟨_,rfl,Qak h⟩) htake)
  |exact Qaa (m:=Builtin.Tuple.tupleExact _) (Qa4 (Qaa (Qak (Qak ⟨_,rfl,Qak h⟩))) htake)
  |exact Qaa (Qaa (m:=Builtin.Tuple.tupleExact _) (Qa4 (Qak (Qak ⟨_,rfl,Qak h⟩)) htake))
  |exact Qaa (Qaa (m:=Builtin.Tuple.tupleExact _) (Qa4 (Qak ⟨_,rfl,Qak h⟩) htake))
end
end HT
namespace L2
open PySem PySem.Spec PyProof.Rows
variable {X:Cx}{n j t':Nat}{s:Shared}{qa:List (Addr×Obj)}{σ:St}{H:Hp}{its its':List Value}{e:Expr}{i:Int}{u v:Value}{T:String}
abbrev TO:=St→Hp→(Option Int→Hp→Prop)→Prop
def PO (X:Cx)(e:Option Expr)(t:TO):Prop:=
 ∀(qa:List (Addr×Obj))(s:Shared)(σ:St)(H:Hp)(Q:Option Int→Hp→Prop),Inv X qa σ H s→t σ H Q→
  wpAny (model X.prog X.w) X.A (evalPart e X.env) (fun u s'=>∃o H',Inv X qa σ H' s'∧IsPart u o∧Q o H') X.xe s
def ZcC:TO:=fun _ H Q=>Q none H
def ZfA (t:TE):TO:=fun σ H Q=>t σ H fun x H1=>∃i,x= .int i∧Q (some i) H1
theorem ZfO {ns:List Int}:∀{us:List Value},Zbg (ns.map V.int) us→IntsAre us ns:=by
 induction ns with
 |nil=>intro us r;rw[Qez] at r;cases r;exact .nil
 |cons n ns ih=>
  intro us r;rw[QaD] at r
  cases r with
  |cons r1 r2=>
   obtain⟨t,e⟩:=r1;subst e;exact .cons n t (ih r2)
section
variable {te:TE}{lo hi:Option Expr}{tl th:TO}{pos p2:PySem.Pos}
theorem ZcD:PO X none ZcC:=by
 intro qa s σ H Q I h;rw[QeQ];exact Qak ⟨none,H,I,.none,h⟩
theorem Zcj (h:PE X e te):PO X (some e) (ZfA te):=by
 intro qa s σ H Q I hw;rw[evalPart_some];refine thn (h qa s σ H _ I hw) fun u s1 ⟨x,H1,I1,r1,q1⟩=> ?_;obtain⟨i,rfl,q⟩:=q1;obtain⟨t,rfl⟩:=r1;exact⟨some i,H1,I1,.int i t,q⟩
def SlR (X:Cx)(r:V→Option Int→Option Int→Hp→VK→Prop):Prop:=
 ∀(qa:List (Addr×Obj))(s:Shared)(σ:St)(H:Hp)(x:V)(v vl vu:Value)(lo hi:Option Int)(sl:Addr)(Q:VK),Inv X qa σ H s→Zbf x v→s.heap.IsSliceOf sl vl vu .none→IsPart vl lo→IsPart vu hi→r x lo hi H Q→
  ∃T id,typeLookup (.type T) "__getitem__" =pure (some (.builtin id))∧s.TypeIs v T∧wpAny (model X.prog X.w) X.A (getItem v (.ref sl)) (EP X qa σ Q) X.xe s
def tSl (r:V→Option Int→Option Int→Hp→VK→Prop)(te:TE)(tl th:TO):TE:=fun σ H Q=>te σ H fun x H1=>tl σ H1 fun l H2=>th σ H2 fun u H3=>r x l u H3 Q
theorem Zb2 {r:V→Option Int→Option Int→Hp→VK→Prop}(hr:SlR X r)(he:PE X e te)(hl:PO X lo tl)(hu:PO X hi th):PE X (.Subscript e (.Slice lo hi none p2) pos) (tSl r te tl th):=by
 intro qa s σ H Q I h;refine QeT (thn (he qa s σ H _ I h) fun v s1 ⟨x,H1,I1,r1,q1⟩=> ?_);refine wpAny_Slice (thn (hl qa s1 σ H1 _ I1 q1) fun vl s2 ⟨l,H2,I2,pl,q2⟩=>thn (hu qa s2 σ H2 _ I2 q2) fun vu s3 ⟨u,H3,I3,pu,q3⟩=> ?_);rw[QeQ];refine Qak ?_;have I4:Inv X qa σ H3 {s3 with heap:=s3.heap.push {cls:=.type "slice",data:=.fields #[vl,vu,.none] } }:=I3.kept (t':=s3.toks) fun b ob q=>Qac _ q;obtain⟨T,id,hT,ht,hg⟩:=hr qa {s3 with heap:=s3.heap.push {cls:=.type "slice",data:=.fields #[vl,vu,.none] } } σ H3 x v vl vu l u s3.heap.objs.size Q I4 r1 (Heap.IsSliceOf.new ..) pl pu q3;show wpAny (model X.prog X.w) X.A (subscriptTail e (.Slice lo hi none p2) v (.ref s3.heap.objs.size)) (EP X qa σ Q) X.xe {s3 with heap:=s3.heap.push {cls:=.type "slice",data:=.fields #[vl,vu,.none] } };exact tail_any (ops:=[.ref s3.heap.objs.size,v]) ht hT hg (by with_unfolding_all rfl)
def Zf6 (xs:List V)(lo hi:Option Int):List V:=(xs.drop (HT.sIx xs.length 0 lo)).take (HT.sIx xs.length xs.length hi-HT.sIx xs.length 0 lo)
theorem ZeT (xs:List V)(lo hi:Option Int):(Zf6 xs lo hi).length≤xs.length:=by
 unfold Zf6;rw[Qax,Qbd];omega
def ZqE (K:FJ):V→Option Int→Option Int→Hp→VK→Prop:=fun x lo hi H Q=>∃a xs,x= .ref a∧SqT K H a xs∧
 ¬(HT.sIx xs.length 0 lo=0∧HT.sIx xs.length xs.length hi=xs.length)∧∀p,H p=none→Q (.ref p) (upd H p (.tup (Zf6 xs lo hi)))
theorem Zsc:SlR X (ZqE X.K):=by
 intro qa s σ H x v vl vu lo hi sl Q I rx hs pl pu h;obtain⟨a,xs,rfl,hx,hw,q⟩:=h;cases rx;obtain⟨its,r,ht,hz⟩:=I.tuple hx;have hlen:its.toArray.size=xs.length:=by rw[Qay];exact r.length.symm
 refine⟨"tuple",_,PyProof.Rows.slot_tuple_getitem.lookup,ht.typeIs,?_⟩;refine HT.getItem_tuple_cut ht hs pl pu (by rw[hlen];exact hw) ?_ (by rw[hlen];exact hz);rw[hlen];refine⟨.ref s.heap.objs.size,_,I.laid (t':=s.toks) (o:=.tup (Zf6 xs lo hi)) (fun b ob q=>Qac _ q) (Qai _) ?_,rfl,q _ (I.hok.fresh (Qai _))⟩;exact⟨QaW (ZeT xs lo hi) hz,_,(r.drop (HT.sIx xs.length 0 lo)).take (HT.sIx xs.length xs.length hi-HT.sIx xs.length 0 lo),IsTup.new _ _⟩
end
def ixN (n:Nat)(i:Int):Option Nat:=if 0≤i then(if i<n then some i.toNat else none) else if -(n:Int)≤i then some (i+n).toNat else none
def atI {α:Type}(xs:List α)(i:Int):Option α:=(ixN xs.length i).bind fun j=>xs[j]?
theorem Zl8 (h:ixN n i=some j):seqIndex? i n=some j∧j<n∧-(n:Int)≤i∧i<n:=by
 unfold ixN at h;by_cases h0:0≤i
 ·rw[Qp h0] at h;by_cases h1:i<n
  ·rw[Qp h1] at h;have e:i.toNat=j:=QbA h;exact⟨by rw[seqIndex_of h0 h1,e],by omega,by omega,h1⟩
  ·rw[Qn h1] at h;cases h
 ·rw[Qn h0] at h;by_cases h1: -(n:Int)≤i
  ·rw[Qp h1] at h;have e:(i+n).toNat=j:=QbA h;exact⟨by rw[QeW (by omega) h1,e],by omega,h1,by omega⟩
  ·rw[Qn h1] at h;cases h
theorem Zl9 {α:Type}{xs:List α}{v:α}(h:atI xs i=some v):∃j,seqIndex? i xs.length=some j∧xs[j]?=some v∧j<xs.length∧-(xs.length:Int)≤i∧i<xs.length:=by
 unfold atI at h
 cases e:ixN xs.length i with
 |none=>rw[e] at h;cases h
 |some j=>
  rw[e] at h;obtain⟨h1,h2,h3,h4⟩:=Zl8 e;exact⟨j,h1,h,h2,h3,h4⟩
theorem ZaK {α:Type}{xs:List α}{v:α}(h:xs[j]?=some v):atI xs (j:Int)=some v:=by
 have hj:j<xs.length:=(Qab.mp h).1
 have e:ixN xs.length (j:Int)=some j:=by
  unfold ixN;rw[Qp (by omega),Qp (by omega)];simp
 unfold atI;rw[e];exact h
theorem Zf7 {α:Type}(xs:List α)(v:α):atI (xs++ [v]) (-1)=some v:=by
 have hl:(xs++ [v]).length=xs.length+1:=by simp
 have e:ixN (xs++ [v]).length (-1)=some xs.length:=by
  unfold ixN;rw[hl,Qn (by decide),Qp (by omega)];congr 1;omega
 unfold atI;rw[e];show(xs++ [v])[xs.length]?=some v;simp
def ZqF (b:Expr):Prop:=∀o i,subscripted b false o i=operate [o,i] (getItem o i)
def IxR (X:Cx)(r:R2):Prop:=
 ∀(value qm:Expr)(qa:List (Addr×Obj))(s:Shared)(σ:St)(H:Hp)(x y:V)(v u:Value)(Q:VK),Inv X qa σ H s→Zbf x v→Zbf y u→r x y H Q→
  subscripted qm false v u=operate [v,u] (getItem v u)→wpAny (model X.prog X.w) X.A (subscriptTail value qm v u) (EP X qa σ Q) X.xe s
def MtR (X:Cx)(id:String)(r:V→List V→Hp→VK→Prop):Prop:=
 ∀(qa:List (Addr×Obj))(s:Shared)(σ:St)(H:Hp)(x:V)(xs:List V)(v:Value)(us:List Value)(Q:VK),Inv X qa σ H s→Zbf x v→Zbg xs us→r x xs H Q→
  wpAny (model X.prog X.w) X.A (call (.builtin id) (v::us)) (EP X qa σ Q) X.xe s
section
variable {a b:Expr}{ta tb:TE}{pos:PySem.Pos}
theorem ZaB {r:R2}(hr:IxR X r)(ha:PE X a ta)(hb:PE X b tb)(hs:ZqF b):PE X (.Subscript a b pos) (tOp r ta tb):=by
 intro qa s σ H Q I h;exact QeT (ZtP ha hb I h fun v u s2 x y H2 I2 rx ry q=>hr a b qa s2 σ H2 x y v u Q I2 rx ry q (hs _ _))
def Zcu (K:FJ):R2:=fun x y H Q=>∃p xs i v,x= .ref p∧y= .int i∧SqL K H p xs∧atI xs i=some v∧Q v H
def ZbO (K:FJ):R2:=fun x y H Q=>∃p xs i v,x= .ref p∧y= .int i∧SqT K H p xs∧atI xs i=some v∧Q v H
theorem ZqG:IxR X (Zcu X.K):=by
 intro value qm qa s σ H x y v u Q I rx ry h hs;obtain⟨p,xs,i,z,rfl,rfl,hq,he,q⟩:=h;cases rx;obtain⟨t,rfl⟩:=ry;obtain⟨its,r,pl,hz⟩:=I.list hq;obtain⟨j,h1,h2,h3,h4,h5⟩:=Zl9 he;obtain⟨w,ew,rw'⟩:=r.get h2;have hl:=r.length;have hn:=Zhq;have fin:EP X qa σ Q w s:=⟨z,H,I,rw',q⟩;by_cases h0:0≤i
 ·have hj:i.toNat=j:=by
   rw[seqIndex_of h0 h5] at h1;exact QbA h1
  exact item_listR pl.isList h0 (by omega) (by rw[hj];simpa using ew) fin hs
 ·have hj:(i+(its.toArray.size:Int)).toNat=j:=by
   rw[QeW (by omega) h4] at h1;rw[Qay,←hl];exact QbA h1
  exact Qes (x:=w) pl.isList.typeIs slot_list_getitem.lookup
   (wpAny_getItem_list_neg (Q:=fun r s'=>r=w∧EP X qa σ Q r s') pl.isList (by omega) (by rw[Qay]<;>omega) (by omega) (by rw[hj];simpa using ew) ⟨rfl,fin⟩) hs
theorem Zsd:IxR X (ZbO X.K):=by
 intro value qm qa s σ H x y v u Q I rx ry h hs;obtain⟨p,xs,i,z,rfl,rfl,hq,he,q⟩:=h;cases rx;obtain⟨t,rfl⟩:=ry;obtain⟨its,r,pl,hz⟩:=I.tuple hq;obtain⟨j,h1,h2,h3,h4,h5⟩:=Zl9 he;obtain⟨w,ew,rw'⟩:=r.get h2;have hl:=r.length;have hn:=Zhq;have fin:EP X qa σ Q w s:=⟨z,H,I,rw',q⟩
 exact Qes (x:=w) pl.typeIs slot_tuple_getitem.lookup
  (getItem_tuple (j:=j) (Q:=fun r s'=>r=w∧EP X qa σ Q r s') pl (by omega) (by omega) (by rw[Qay,←hl];exact h1) (by simpa using ew) ⟨rfl,fin⟩) hs
theorem ZkO (its:List Value)(n j:Nat)(u:Value):Obj.mapSeq (·.setIfInBounds j u) {cls:=.type "list",data:=.seq its.toArray n }={cls:=.type "list",data:=.seq (its.set j u).toArray n }:=by
 simp[Obj.mapSeq]
theorem Inv.lst {qa:List (Addr×Obj)}{σ:St}{H:Hp}{s:Shared}{p:Addr}{xs:List V}(I:Inv X qa σ H s)(h:H p=some (.lst xs)):
  ∃(its:List Value)(n:Nat),Zbg xs its∧s.heap.get? p=some {cls:=.type "list",data:=.seq its.toArray n }∧xs.length≤sizeLine:=by
 obtain⟨z,its,n,r,e⟩:=I.hok p _ h;exact⟨its,n,r,e,z⟩
theorem Inv.lstUpd {p:Addr}{xs ys:List V}{n':Nat}{f:Obj→Obj}(I:Inv X qa σ H s)(h:H p=some (.lst xs))
  (ho:s.heap.get? p=some {cls:=.type "list",data:=.seq its.toArray n }) (hf:f {cls:=.type "list",data:=.seq its.toArray n }={cls:=.type "list",data:=.seq its'.toArray n' }) (r:Zbg ys its') (hz:ys.length≤sizeLine) (t:Nat):
  Inv X qa σ (upd H p (.lst ys)) {s with heap:=s.heap.update p f,toks:=t }:=by
 have e:(s.heap.update p f).get? p=some {cls:=.type "list",data:=.seq its'.toArray n' }:=by
  rw[Qbr f ho (by rw[hf]<;>rfl),hf]
 refine I.write (x:=p) (e:=p) (by rw[h];trivial) (.inl rfl) (fun b u hb q=>(QaU _ _ (Ne.symm hb)).trans q) ⟨_,e⟩ ?_;exact⟨hz,its',n',r,e⟩
def ZkP:V→V→V→Hp→(Hp→Prop)→Prop:=fun o i v H Q=>∃p xs k j,o= .ref p∧i= .int k∧H p=some (.lst xs)∧ixN xs.length k=some j∧Q (upd H p (.lst (xs.set j v)))
theorem ZdU:Zuv X ZkP:=by
 intro qa s σ H o i v ov iv u Q I ro ri rv h;obtain⟨p,xs,k,j,rfl,rfl,hp,hj,q⟩:=h;cases ro;obtain⟨t,rfl⟩:=ri;obtain⟨its,n,r,ho,hz⟩:=I.lst hp;obtain⟨h1,h2,h3,h4⟩:=Zl8 hj;have hl:=r.length;have hn:=Zhq
 have I':Inv X qa σ (upd H p (.lst (xs.set j v))) {s with heap:=s.heap.update p (Obj.mapSeq (·.setIfInBounds j u)) }:=
  I.lstUpd hp ho (ZkO its n j u) (r.set rv j) (by rw[QeA];exact hz) s.toks
 by_cases h0:0≤k
 ·have hk:k.toNat=j:=by
   rw[seqIndex_of h0 h4] at h1;exact QbA h1
  exact PySem.W.ki_setAt ho h0 (by omega) (by rw[Qay,←hl];exact h4) (by rw[hk];exact⟨_,I',q⟩)
 ·have hk:(k+(its.toArray.size:Int)).toNat=j:=by
   rw[QeW (by omega) h3] at h1;rw[Qay,←hl];exact QbA h1
  exact PySem.W.ki_setBack ho (by omega) (by rw[Qay,←hl];exact h3) (by omega) (by rw[hk];exact⟨_,I',q⟩)
theorem Zhx (lo hi:Option Int)(n:Nat):(sliceBounds lo hi none n).1=((HT.sIx n 0 lo:Nat):Int)∧(sliceBounds lo hi none n).2.1=((HT.sIx n n hi:Nat):Int)∧(sliceBounds lo hi none n).2.2=1:=by
 refine⟨?_,?_,rfl⟩
 ·cases lo with
  |none=>simp[sliceBounds,HT.sIx]
  |some i=>
   simp only[sliceBounds,HT.sIx,Option.getD_none,show(1:Int)>0 by decide,QbW];by_cases h:i<0
   ·simp only[h,QbW]<;>omega
   ·simp only[h,Qbv]<;>omega
 ·cases hi with
  |none=>simp[sliceBounds,HT.sIx]
  |some i=>
   simp only[sliceBounds,HT.sIx,Option.getD_none,show(1:Int)>0 by decide,QbW];by_cases h:i<0
   ·simp only[h,QbW]<;>omega
   ·simp only[h,Qbv]<;>omega
theorem Zf8 (its:List Value)(lo hi:Option Int):slicePick its.toArray lo hi none=((its.drop (HT.sIx its.length 0 lo)).take (HT.sIx its.length its.length hi-HT.sIx its.length 0 lo)).toArray:=by
 obtain⟨h1,h2,h3⟩:=Zhx lo hi its.toArray.size;unfold slicePick;rw[h1,h2,h3];simp only[sliceRange_one,pick_run,Qay]<;>rfl
def Zse (K:FJ):V→Option Int→Option Int→Hp→VK→Prop:=fun x lo hi H Q=>∃a xs,x= .ref a∧SqL K H a xs∧∀p,H p=none→Q (.ref p) (upd H p (.lst (Zf6 xs lo hi)))
theorem ZeU:SlR X (Zse X.K):=by
 intro qa s σ H x v vl vu lo hi sl Q I rx hs pl pu h;obtain⟨a,xs,rfl,hx,q⟩:=h;cases rx;obtain⟨its,r,ht,hz⟩:=I.list hx;have hlen:=r.length;refine⟨"list",_,slot_list_getitem.lookup,ht.isList.typeIs,?_⟩;refine QdZ ht.isList hs pl pu .none (by simp) ?_ (by rw[Qay]<;>omega);rw[Zf8,←hlen];refine⟨.ref s.heap.objs.size,_,I.laid (t':=s.toks) (o:=.lst (Zf6 xs lo hi)) (fun b ob q=>Qac _ q) (Qai _) ?_,rfl,q _ (I.hok.fresh (Qai _))⟩;exact⟨QaW (ZeT xs lo hi) hz,_,0,(r.drop (HT.sIx xs.length 0 lo)).take (HT.sIx xs.length xs.length hi-HT.sIx xs.length 0 lo),Qat _ rfl⟩
def Zhy:V→Bool
 | .non=>true
 | .bl _=>true
 | .int _=>true
 | .str _=>true
 |_=>false
def eqV:V→V→Bool
 | .non,.non=>true
 | .bl a,.bl b=>a==b
 | .bl a,.int b=>(if a then 1 else 0)==b
 | .int a,.bl b=>a==(if b then 1 else 0)
 | .int a,.int b=>a==b
 | .str a,.str b=>a==b
 |_,_=>false
theorem Zsf {A:Around}{y x:V}(ry:Zbf y u)(rx:Zbf x v)(fy:Zhy y=true)(fx:Zhy x=true):SeqAt.EqAt A s u v (eqV y x):=by
 cases y with
 |non=>
  cases ry
  cases x with
  |non=>cases rx;exact SeqAt.EqAt.same _
  |bl b=>cases rx;exact SeqAt.EqAt.none_bool b
  |int b=>obtain⟨t,rfl⟩:=rx;exact SeqAt.EqAt.none_int b t
  |str b=>obtain⟨t,rfl⟩:=rx;exact SeqAt.EqAt.none_str b t
  |_=>exact absurd (show false=true from fx) QaE
 |bl a=>
  cases ry
  cases x with
  |non=>cases rx;exact SeqAt.EqAt.bool_none a
  |bl b=>cases rx;exact SeqAt.EqAt.bool_bool a b
  |int b=>obtain⟨t,rfl⟩:=rx;exact SeqAt.EqAt.bool_int a b t
  |str b=>obtain⟨t,rfl⟩:=rx;exact SeqAt.EqAt.bool_str a b t
  |_=>exact absurd (show false=true from fx) QaE
 |int a=>
  obtain⟨t',rfl⟩:=ry
  cases x with
  |non=>cases rx;exact SeqAt.EqAt.int_none a t'
  |bl b=>cases rx;exact SeqAt.EqAt.int_bool a t' b
  |int b=>obtain⟨t,rfl⟩:=rx;exact SeqAt.EqAt.int_int a t' b t
  |str b=>obtain⟨t,rfl⟩:=rx;exact SeqAt.EqAt.int_str a t' b t
  |_=>exact absurd (show false=true from fx) QaE
 |str a=>
  obtain⟨t',rfl⟩:=ry
  cases x with
  |non=>cases rx;exact SeqAt.EqAt.str_none a t'
  |bl b=>cases rx;exact SeqAt.EqAt.str_bool a t' b
  |int b=>obtain⟨t,rfl⟩:=rx;exact SeqAt.EqAt.str_int a t' b t
  |str b=>obtain⟨t,rfl⟩:=rx;exact SeqAt.EqAt.str_str a t' b t
  |_=>exact absurd (show false=true from fx) QaE
 |_=>exact absurd (show false=true from fy) QaE
def eqU (x:V)(u:Value):Bool:=match u with
 | .none=>eqV .non x
 | .bool b=>eqV (.bl b) x
 | .int i _=>eqV (.int i) x
 | .str z _=>eqV (.str z) x
 |_=>false
theorem ZpV {x y:V}(r:Zbf y u)(f:Zhy y=true):eqU x u=eqV y x:=by
 cases y with
 |non=>cases r;rfl
 |bl b=>cases r;rfl
 |int i=>obtain⟨t,rfl⟩:=r;rfl
 |str z=>obtain⟨t,rfl⟩:=r;rfl
 |_=>exact absurd (show false=true from f) QaE
theorem ZiB {x:V}:∀{xs:List V} {us:List Value},Zbg xs us→xs.all Zhy=true→us.any (eqU x)=xs.any fun y=>eqV y x
 |_,_,.nil,_=>rfl
 |y::xs,u::us,.cons r t,f=>by
  rw[Qec,QaK] at f;rw[QcL,QcL,ZpV r f.1,ZiB t f.2]
theorem Zf9 {A:Around}{s:Shared}{x:V}{v:Value}(rx:Zbf x v)(fx:Zhy x=true):∀{xs:List V} {us:List Value},Zbg xs us→xs.all Zhy=true→∀u∈us,SeqAt.EqAt A s u v (eqU x u)
 |_,_,.nil,_=>fun u hu=>by cases hu
 |y::xs,u::us,.cons r t,f=>fun u' hu=>by
  rw[Qec,QaK] at f;rcases Qaw.mp hu with rfl|hu
  ·rw[ZpV r f.1];exact Zsf r rx f.1 fx
  ·exact Zf9 rx fx t f.2 u' hu
def inV (x:V)(xs:List V):Bool:=xs.any fun y=>eqV y x
def rIn (K:FJ)(neg:Bool):R2:=fun x y H Q=>∃p xs,y= .ref p∧(SqL K H p xs∨SqT K H p xs)∧Zhy x=true∧xs.all Zhy=true∧Q (.bl (if neg then !inV x xs else inV x xs)) H
theorem Zma:OpR X (compareOp .In) (rIn X.K false):=by
 intro qa s σ H x y v u Q I rx ry h;obtain⟨p,xs,rfl,hq,fx,fs,q⟩:=h;cases ry;rcases hq with hq|hq
 ·obtain⟨its,r,pl,hz⟩:=I.list hq;refine SeqAt.in_listAt (eqU x) pl.isList (fun w hw=>Zf9 rx fx r fs w (by simpa using hw)) ⟨.bl _,H,I,rfl,?_⟩;rw[show its.toArray.any (eqU x)=its.any (eqU x) by simp,ZiB r fs];exact q
 ·obtain⟨its,r,pl,hz⟩:=I.tuple hq;refine SeqAt.in_tupleAt (eqU x) pl (fun w hw=>Zf9 rx fx r fs w (by simpa using hw)) ⟨.bl _,H,I,rfl,?_⟩;rw[show its.toArray.any (eqU x)=its.any (eqU x) by simp,ZiB r fs];exact q
theorem Zhz:Zcq X (.builtin "len") (fun xs H Q=>∃p ys,xs=[.ref p]∧(SqL X.K H p ys∨SqT X.K H p ys)∧Q (.int ys.length) H):=by
 intro qa s σ H xs us Q I r h;obtain⟨p,ys,rfl,hq,q⟩:=h;obtain⟨u,rfl,rx⟩:=Zc8 r;cases rx;have hn:=Zhq;rcases hq with hq|hq
 ·obtain⟨its,r',pl,hz⟩:=I.list hq;have hlen:=r'.length;exact Calls.call_len_list pl.isList (by simp only[Qay]<;>omega) ⟨.int ys.length,H,I.tok _,⟨s.toks+1,by rw[Qay,hlen]⟩,q⟩
 ·obtain⟨its,r',pl,hz⟩:=I.tuple hq;have hlen:=r'.length;exact len_tuple pl (by simp only[Qay]<;>omega) ⟨.int ys.length,H,I.tok _,⟨s.toks+1,by rw[Qay,hlen]⟩,q⟩
theorem Zbr:Zcq X (.type "list") (fun xs H Q=>∃p ys,xs=[.ref p]∧(SqL X.K H p ys∨SqT X.K H p ys)∧∀l,H l=none→Q (.ref l) (upd H l (.lst ys))):=by
 intro qa s σ H xs us Q I r h;obtain⟨p,ys,rfl,hq,q⟩:=h;obtain⟨u,rfl,rx⟩:=Zc8 r;cases rx
 have fin:∀(its:List Value),Zbg ys its→ys.length≤sizeLine→∀(h':Heap)(c':Nat),(∀b o',s.heap.get? b=some o'→h'.get? b=some o')→
   h'.get? s.heap.objs.size=some {cls:=.type "list",dict:=none,data:=.seq its.toArray c',slots:=#[] }→EP X qa σ Q (.ref s.heap.objs.size) {s with heap:=h' }:=fun its r' hz h' c' kp e=>
  ⟨.ref s.heap.objs.size,_,I.laid (t':=s.toks) kp (Qai _) (show Zbw X.prog X.w _ h' _ (.lst ys) from⟨hz,its,c',r',e⟩),rfl,q _ (I.hok.fresh (Qai _))⟩
 rcases hq with hq|hq
 ·obtain⟨its,r',pl,hz⟩:=I.list hq;have hlen:=r'.length;obtain⟨o,ho,hc,n,hd⟩:=pl.isList;exact call_list_seq p (.inl rfl) ho hc hd (fun h' c' kp e=>fin its r' hz h' c' kp e) (by simp only[Qay]<;>omega)
 ·obtain⟨its,r',pl,hz⟩:=I.tuple hq;have hlen:=r'.length;obtain⟨o,ho,hc,n,hd⟩:=pl;exact call_list_seq p (.inr rfl) ho hc hd (fun h' c' kp e=>fin its r' hz h' c' kp e) (by simp only[Qay]<;>omega)
theorem ZbS:Zcq X (.type "tuple") (fun xs H Q=>∃p ys,xs=[.ref p]∧((SqL X.K H p ys∧∀l,H l=none→Q (.ref l) (upd H l (.tup ys)))∨(SqT X.K H p ys∧Q (.ref p) H))):=by
 intro qa s σ H xs us Q I r h;obtain⟨p,ys,rfl,h⟩:=h;obtain⟨u,rfl,rx⟩:=Zc8 r;cases rx;rcases h with⟨hq,q⟩|⟨hq,q⟩
 ·obtain⟨its,r',pl,hz⟩:=I.list hq;have hlen:=r'.length;refine call_tuple_list pl.isList (fun h' kp=> ?_) (by simp only[Qay]<;>omega);have I1:Inv X qa σ H {s with heap:=h' }:=I.kept (t':=s.toks) kp
  have I2:Inv X qa σ (upd H h'.objs.size (.tup ys)) {s with heap:=h'.push {cls:=.type "tuple",data:=.seq its.toArray } }:=
   I1.laid (t':=s.toks) (fun b o e=>Qac _ e) (Qai _) (show Zbw X.prog X.w _ _ _ (.tup ys) from⟨hz,its,r',IsTup.new _ _⟩)
  exact⟨.ref h'.objs.size,_,I2,rfl,q _ (I1.hok.fresh (Qai _))⟩
 ·obtain⟨its,r',pl,hz⟩:=I.tuple hq;exact call_tuple_same pl ⟨.ref p,H,I,rfl,q⟩
def tyV (K:FJ)(T:String)(x:V)(H:Hp):Prop:=match x with
 | .str _=>T= "str"
 | .int _=>T= "int"
 | .ref p=>(T= "list" ∧∃xs,SqL K H p xs)∨(T= "tuple" ∧∃o,K.lookup p=some o∧o.cls= .type "tuple" ∧o.dict=none)∨
   (T= "dict" ∧((∃kvs,H p=some (.dK kvs))∨∃kvs,H p=some (.dT kvs)))∨(T= "set" ∧∃S n,H p=some (.set S n))
 |_=>False
theorem Zsg {x:V}(I:Inv X qa σ H s)(r:Zbf x v)(ty:tyV X.K T x H):
  s.TypeIs v T∧∀a,v= .ref a→∃ob,s.heap.get? a=some ob∧ob.dict=none:=by
 cases x with
 |str z=>
  obtain⟨t,rfl⟩:=r;cases(show T= "str" from ty);exact⟨typeIs_str s z t,fun _ e=>nomatch e⟩
 |int i=>
  obtain⟨t,rfl⟩:=r;cases(show T= "int" from ty);exact⟨typeIs_int s i t,fun _ e=>nomatch e⟩
 |ref p=>
  cases r;rcases ty with⟨rfl,xs,hq⟩|⟨rfl,o,hk,hc,hd⟩|⟨rfl,hk⟩|⟨rfl,S,n,hk⟩
  ·obtain⟨its,_,pl,_⟩:=I.list hq;refine⟨pl.isList.typeIs,fun a e=> ?_⟩;cases e;obtain⟨o,n,e,c,hd,_⟩:=pl;exact⟨o,e,hd⟩
  ·refine⟨⟨o,I.kIn p o hk,hc⟩,fun a e=> ?_⟩;cases e;exact⟨o,I.kIn _ o hk,hd⟩
  ·have z:∃o,s.heap.get? p=some o∧o.ExactDict:=by
    rcases hk with⟨kvs,hk⟩|⟨kvs,hk⟩
    ·obtain⟨_,_,_,_,o,_,_,e,ex,_⟩:=I.hok p _ hk;exact⟨o,e,ex⟩
    ·obtain⟨_,_,_,_,o,_,_,e,ex,_⟩:=I.hok p _ hk;exact⟨o,e,ex⟩
   obtain⟨o,e,ex⟩:=z;refine⟨⟨o,e,ex.1⟩,fun a e2=> ?_⟩;cases e2;exact⟨o,e,ex.2.1⟩
  ·obtain⟨o,_,_,_,e,ex,_⟩:=I.hok p _ hk;refine⟨⟨o,e,ex.1⟩,fun a e2=> ?_⟩;cases e2;exact⟨o,e,ex.2.1⟩
 |_=>exact False.elim ty
def tBM (K:FJ)(T:String)(r:V→List V→Hp→VK→Prop)(to:TE)(t:TA):TE:=fun σ H Q=>to σ H fun x H1=>tyV K T x H1∧t σ H1 fun xs H2=>r x xs H2 Q
variable {o:Expr}{es:List Expr}{to:TE}{t:TA}{name:Str}{qg qd:PySem.Pos}{id:String}{r:V→List V→Hp→VK→Prop}
theorem ZdB (pa:PlainAttrs T)(slot:Slot T name id)(hty:typeOf (.builtin id)=pure (.type "method_descriptor"))(hm:MtR X id r)(ho:PE X o to)(ha:PA X (e::es) t)
  (qv:attributeBase o name X.env (eval o X.env)=eval o X.env:=by rfl)
  (hfew:((backTo qd (starEach (e::es) X.env)).all (fun x=> !x.1) && (backToKw qd (keywordEach [] X.env)).all (fun x=>x.1.isSome)
   && decide ((e::es).length+([]:List Keyword).length+(if([]:List Keyword).isEmpty then 0 else 1)<30))=true:=by rfl)
  (qw:(qg.endLine==qd.line)=true:=by rfl) (hs:starEach (e::es) X.env=(false,eval e X.env)::starEach es X.env:=by rfl) (hplain:(backTo qd (starEach es X.env)).any (·.1)=false:=by rfl):
  PE X (.Call (.Attribute o name qg) (e::es) [] qd) (tBM X.K T r to t):=by
 intro qa s σ H Q I h;refine wpAny_Call_method_late qv hfew qw rfl (thn (ho qa s σ H _ I h) fun v s1 ⟨x,H1,I1,r1,ty,q1⟩=> ?_);obtain⟨h1,h2⟩:=Zsg I1 r1 ty;refine⟨T,id,pa,slot,hty,h1,h2,?_⟩;have hA:=ha qd qa s1 σ H1 _ I1 q1;rw[hs] at hA⊢;refine Qcl (by show(false ||(backTo qd (starEach es X.env)).any (·.1))=false;rw[hplain]<;>rfl) (Qdr ?_);exact thn hA fun us s2 ⟨vs,H2,I2,r2,q2⟩=>hm qa s2 σ H2 x vs v us Q I2 r1 r2 q2
end
def MtM (X:Cx)(id:String)(r:V→List V→Hp→VK→Prop):Prop:=
 ∀(qa:List (Addr×Obj))(s:Shared)(σ:St)(H:Hp)(x:V)(xs:List V)(v:Value)(us:List Value)(Q:VK),Inv X qa σ H s→Zbf x v→Zbg xs us→r x xs H Q→
  wpAny (model X.prog X.w) X.A (call (.builtin id) (v::us)) (EP X qa σ Q) X.xe s
theorem Zbg.one:∀{x:V} {us:List Value},Zbg [x] us→∃u,us=[u]∧Zbf x u
 |_,_,.cons r .nil=>⟨_,rfl,r⟩
theorem Zbg.two:∀{x y:V} {us:List Value},Zbg [x,y] us→∃u v,us=[u,v]∧Zbf x u∧Zbf y v
 |_,_,_,.cons r (.cons q .nil)=>⟨_,_,rfl,r,q⟩
section
variable {l b:Addr}{xs ys zs:List V}
theorem Inv.lset {f:Array Value→Array Value}(I:Inv X qa σ H s)(hH:H l=some (.lst xs))
  (e:s.heap.get? l=some {cls:=.type "list",data:=.seq its.toArray n }) (hf:f its.toArray=its'.toArray) (hv:Zbg ys its') (hz:ys.length≤sizeLine):
  Inv X qa σ (upd H l (.lst ys)) {s with heap:=s.heap.update l (Obj.mapSeq f),toks:=t' }:=by
 have q:=PySem.IsL.update e f;rw[hf] at q;refine I.write (x:=l) (e:=l) (by rw[hH];exact trivial) (.inl rfl) (fun b' u hb hu=>(QaU s.heap (Obj.mapSeq f) (Ne.symm hb)).trans hu) ⟨_,q⟩ ?_;exact⟨hz,its',_,hv,q⟩
theorem Inv.lnew (I:Inv X qa σ H s)(hv:Zbg ys its)(hz:ys.length≤sizeLine):
  Inv X qa σ (upd H s.heap.objs.size (.lst ys)) {s with heap:=s.heap.push {cls:=.type "list",data:=.seq its.toArray },toks:=t' }:=
 I.laid (fun _ _ q=>Qac _ q) (Qai _) ⟨hz,its,0,hv,Qat _ rfl⟩
theorem Inv.fresh (I:Inv X qa σ H s):H s.heap.objs.size=none:=I.hok.fresh (Qai _)
theorem Inv.lstM (I:Inv X qa σ H s)(hH:H l=some (.lst xs)):xs.length≤sizeLine∧∃(its:List Value)(n:Nat),Zbg xs its∧xs.length=its.length∧s.heap.get? l=some {cls:=.type "list",data:=.seq its.toArray n }:=by
 obtain⟨z,its,n,r,e⟩:=I.hok l _ hH;exact⟨z,its,n,r,r.length,e⟩
theorem Zoq (h:n≤sizeLine):Builtin.List.listTooLong n=false:=by
 unfold Builtin.List.listTooLong;exact QaC (by omega)
end
def ZcP:V→List V→Hp→VK→Prop:=fun x vs H Q=>∃l xs y,x= .ref l∧vs=[y]∧H l=some (.lst xs)∧xs.length<sizeLine∧Q .non (upd H l (.lst (xs++ [y])))
theorem Zbm:MtM X "list.append" ZcP:=by
 intro qa s σ H x vs v us Q I rx rv h;obtain⟨l,xs,y,rfl,rfl,hH,hz,q⟩:=h;cases rx;obtain⟨u,rfl,ru⟩:=rv.one;obtain⟨z,its,n,r,hl,e⟩:=I.lstM hH;refine call_meets F.slot_list_append ⟨_,e,rfl⟩ F.entry_list_append (F.args_list_append_2 _ _) (PySem.list_append l its.toArray n u (by rw[Qay];omega)) ⟨e,?_⟩;refine⟨.non,_,I.lset (its':=its++ [u]) hH e (by simp) (r.append (.cons ru .nil)) ?_,rfl,q⟩;rw[Qae,QaJ];omega
def ZiC:V→List V→Hp→VK→Prop:=fun x vs H Q=>∃l b xs zs,x= .ref l∧vs=[.ref b]∧H l=some (.lst xs)∧H b=some (.lst zs)∧xs.length+zs.length≤sizeLine∧Q .non (upd H l (.lst (xs++zs)))
theorem ZhA:MtM X "list.extend" ZiC:=by
 intro qa s σ H x vs v us Q I rx rv h;obtain⟨l,b,xs,zs,rfl,rfl,hH,hB,hz,q⟩:=h;cases rx;obtain⟨u,rfl,ru⟩:=rv.one;cases ru;obtain⟨z,its,n,r,hl,e⟩:=I.lstM hH;obtain⟨z2,its2,n2,r2,hl2,e2⟩:=I.lstM hB;have hsz:its.toArray.size+its2.toArray.size≤sizeLine:=by rw[Qay,Qay];omega
 have hlong:¬(!its.toArray.isEmpty && Builtin.List.listTooLong (its.toArray.size+its2.toArray.size))=true:=by
  rw[Zoq hsz,Bool.and_false];exact QaE
 refine call_meets F.slot_list_extend ⟨_,e,rfl⟩ F.entry_list_extend (F.args_list_extend_2 _ _)
  (AutoSeq1.list_extend_list_list_0 l its.toArray n b its2.toArray n2 hlong (by rw[Qay];omega) (by omega)) ⟨e,e2,?_⟩
 refine⟨.non,_,I.lset (its':=its++its2) hH e (by simp) (r.append r2) ?_,rfl,q⟩;rw[Qae];omega
def Zsh:R2:=fun x y H Q=>∃l b xs zs,x= .ref l∧y= .ref b∧H l=some (.lst xs)∧H b=some (.lst zs)∧xs.length+zs.length≤sizeLine∧∀p,H p=none→Q (.ref p) (upd H p (.lst (xs++zs)))
theorem ZfP:OpR X (binaryOp .Add) Zsh:=by
 intro qa s σ H x y v u Q I rx ry h;obtain⟨l,b,xs,zs,rfl,rfl,hH,hB,hz,q⟩:=h;cases rx;cases ry;obtain⟨z,its,n,r,hl,e⟩:=I.lstM hH;obtain⟨z2,its2,n2,r2,hl2,e2⟩:=I.lstM hB;refine PySem.P.add_list e e2 ?_ (by rw[Qay,Qay];omega);have ea:its.toArray++its2.toArray=(its++its2).toArray:=by simp
 rw[ea];exact⟨.ref _,_,I.lnew (t':=s.toks) (r.append r2) (by rw[Qae];omega),rfl,q _ I.fresh⟩
end L2
namespace Att
open PySem PySem.W PySem.Calls PyProof.Rows
variable {P:Params}{h:Heap}{l:OpenLaw}{n:Nat}
theorem ZeV :∀(ns:List Int)(vs:List Value),WellAll P h vs (ns.map WData.int)→IntsAre vs ns:=by
 intro ns
 induction ns with
 |nil=>
  intro vs w;rw[Qez] at w;cases w;exact .nil
 |cons n ns ih=>
  intro vs w;rw[QaD] at w
  cases w with
  |cons a b=>
   cases a;exact .cons _ _ (ih _ b)
theorem Zmb (hn:l.most=some n){args:List WData}{vals:List Value}
  (qc:l.row.toRowW.claim.pre args=true) (hwl:WellAll P h vals args):
  ∃a vs ns,vals=[Value.ref a]∧args=[WData.list (ns.map WData.int)]∧h.get? a=some {cls:=.type "list",data:=.seq vs.toArray }∧IntsAre vs ns∧ns.length≤n:=by
 have hsh:WShape.hasAll [] args [.list .int]=true:=(pre_splitW qc).1;have hc:l.pre.holds [] {args:=args }=true:=(pre_splitW qc).2;obtain⟨d,r,rfl,h1,h2⟩:=hasAllW_cons hsh;obtain rfl:=hasAllW_nil h2;obtain⟨xs,rfl,h3⟩:=hasW_list h1;obtain⟨ns,rfl⟩:=items_int h3
 have hlen:ns.length≤n:=by
  unfold OpenLaw.pre at hc
  have h4:(WTm.not (.lt (.lit (.int (n:Int))) (.len (.arg 0)))).holds [] {args:=[.list (ns.map .int)] }=true:=by
   have h4:=(holds_andW hc).1;rw[hn] at h4;exact h4
  have h5:=condW_of h4 (w_not (w_lt w_lit (w_len_list (w_arg rfl))));rw[Qaf] at h5;refine Nat.le_of_not_lt fun q=> ?_;have q':(n:Int)<((ns.length:Nat):Int):=by omega
  first
   | (rw[Qam q'] at h5;exact absurd h5 (by decide))
   | (simp at h5;omega)
 cases hwl with
 |cons w1 w2=>
  cases w2
  cases w1 with
  |list ho hall=>exact⟨_,_,ns,rfl,rfl,ho,ZeV ns _ hall,hlen⟩
theorem Zmc (l:OpenLaw)(args:List WData):l.row.toRowW.claim.post args (.bool true) args=true:=
 postW_of (r:=l.row.toRowW) (X:=(true==true))
  (show WShape.has [] (.bool true) .bool=true by first|rfl|decide|simp[WShape.has,WShape.arms,WShape.armsAll])
  (show(WTm.eq .res (.lit (.bool true))).value [] {args:=args,res:=some (.bool true),after:=args }=some (.bool (true==true)) from w_eq_bool (w_res rfl) w_lit) rfl
theorem attach_call {q:Program}{qx:List Str}{XP:(Str→Option Value)→Heap→Prop}{YP:World→Heap→Prop}{d:DefRec}
  (hn:l.most=some n) (hdf:d.params.defaults=[])
  (call:∀(w:World)(s₀ s₁:Shared)(mg mb:Str→Option Value)(fa:Addr)(o:Obj)(pm cd doc:Value)(a:Addr)(vs:List Value)(ns:List Int),
   Ground q qx [] XP w s₀ mg mb s₁.heap→YP w s₁.heap→
   s₁.heap.get? fa=some o→o.data= .func (docDef d.name d.params d.body d.scope pm cd doc)→s₁.heap.CodeRec cd d.name→mg d.name=some (.ref fa)→
   s₁.heap.get? a=some {cls:=.type "list",data:=.seq vs.toArray }→IntsAre vs ns→ns.length≤n→s₁.gens= #[]→
   codeAny (model l.prog w) callerA (.call (.ref fa) ⟨[.ref a],[]⟩) (fun r s'=>r= .ok (.ret (.bool true))∧OldK s₁.heap s'.heap∧s'.os=s₁.os∧AllBare s'.gens) s₁):
  WalkO q qx XP YP l.row.toRowW d [] (fun f vs=>PySem.call f vs):=by
 intro w s₀ s₁ mg mb G Y fa o pm cd doc dV kV ho hd hcd hD hmg hg args vals as qc hlay hrd hwl hlo;obtain rfl:dV= .none:=Dflts.none hD hdf;obtain rfl:kV= .none:=Dflts.noKw hD;obtain⟨a,vs,ns,rfl,rfl,hobj,hints,hlen⟩:=Zmb hn qc hwl;refine enter_call (Qew (call w s₀ s₁ mg mb fa o pm cd doc a vs ns G Y ho (fd_plain hd) hcd hmg hobj hints hlen hg) fun r s' hq=> ?_);obtain⟨rfl,h2,h3,h4⟩:=hq;exact⟨.inl ⟨.bool true,.bool true,[],rfl,fun _=>rfl,.bool true,Zmc l _,fun _=>⟨List.Pairwise.nil,fun _ hm=>(nomatch hm)⟩⟩,h2,h3,h4⟩
end Att
namespace L2
open PySem PySem.Spec PyProof.Rows
variable {X:Cx}{H H' H1 H2:Hp}{te t1 t2 t3:TE}{p:PySem.Pos}{x qe:Str}{L:List (Int×List Int)}{g g2:TG}{tt:TT}{e:Int×List Int}{scope:Scope}{es ifs l:List Expr}{w:World}{a f:Addr}{env:Env}{σ:St}{elt tg qf b e1 e3:Expr}{i n t':Nat}{s:Shared}{xs Nb ps:List Str}{wi:TI}{P prog:Program}{fd:FuncData}{A:Around}{B:Prop}{Q:VK}{mg:Str→Option Value}{sp:Sp}{ns:List Int}{T:String}{names:List (Str×NameKind)}{qa:List (Addr×Obj)}{ch:List Addr}
theorem ZeW:∀{vs:List Value} {ns:List Int},IntsAre vs ns→Zbg (ns.map V.int) vs
 |_,_,.nil=> .nil
 |_,_,.cons n t h=> .cons ⟨t,rfl⟩ (ZeW h)
def ZtT (H:Hp):Prop:=∀b,H b=none∨∃o xs,H b=some (.frz o (.lst xs))
theorem Zor {K:FJ}{mb:Str→Option Value}{CX:CXT}{k:Nat}{fa:Addr}{s₁:Shared}{vs:List Value}
  (KX:K.In s₁.heap) (hns:s₁.heap.Ns mainGlobals mg) (hb:s₁.heap.Ns builtinsNs mb) (hbb:∀x:Str,x≠ "__name__" →mb x=bootBuiltins x) (hlim:s₁.heap.NoLimit) (hg:s₁.gens= #[])
  (ha:s₁.heap.get? a=some {cls:=.type "list",data:=.seq vs.toArray }) (hi:IntsAre vs ns) (hl:ns.length≤sizeLine) (hr:Zdr k callerA)
  (F:∀base:Heap,K.In base→base.Ns mainGlobals mg→Za6 P w K mg base CX k fa fd [x] sp) (hbind:∀(s:Shared)(u:Value),BindsTo s fd ⟨[u],[]⟩ [(x,u)])
  (hsp:∀H:Hp,ZtT H→SqL K H a (ns.map V.int)→sp [.ref a] H (fun v _=>v= .bl true) fun _ _ _=>False)
  (hCX:∀H e s',CX [] H s₁ (fun _ _ _=>False) e s'→False):
  codeAny (model P w) callerA (.call (.ref fa) ⟨[.ref a],[]⟩) (fun r s'=>r= .ok (.ret (.bool true))∧OldK s₁.heap s'.heap∧s'.os=s₁.os∧AllBare s'.gens) s₁:=by
 have rv:=ZeW hi;have lenV:=hi.length
 have core:∀H:Hp,ZtT H→SqL K H a (ns.map V.int)→HOk P w H s₁.heap→(∀b,H b≠none→b=a)→(H a≠none→K.lookup a=none)→
   codeAny (model P w) callerA (.call (.ref fa) ⟨[.ref a],[]⟩) (fun r s'=>r= .ok (.ret (.bool true))∧OldK s₁.heap s'.heap∧s'.os=s₁.os∧AllBare s'.gens) s₁:=by
  intro H hO hS hok hA hK;have base_of:∀{b:Addr} {o:Obj},s₁.heap.get? b=some o→H b=none→(Zoc s₁.heap H).get? b=some o:=fun e n=>Zod e n
  have noA:∀{b:Addr} {o:Obj} {es:Array DictEntry} {ep:Nat},s₁.heap.get? b=some o→o.data= .dict es ep→H b=none:=fun{b o es ep} e d=>by
   cases q:H b with
   |none=>rfl
   |some u=>
    have e':b=a:=hA b (by rw[q];simp);subst e';rw[ha] at e;cases e;have d':Data.seq vs.toArray _=Data.dict es ep:=d;cases d'
  have nsK:∀{b:Addr} {m:Str→Option Value},s₁.heap.Ns b m→(Zoc s₁.heap H).Ns b m:=fun{b m} ⟨o,es,ep,e,d,r⟩=>⟨o,es,ep,base_of e (noA e d),d,r⟩
  have hKb:K.In (Zoc s₁.heap H):=fun b o e=>base_of (KX b o e) (by
   cases q:H b with
   |none=>rfl
   |some u=>
    have e':b=a:=hA b (by rw[q];simp)
    subst e'
    rw[hK (by rw[q];simp)] at e;cases e)
  have hM:Mod K mg (Zoc s₁.heap H):=⟨hKb,nsK hns,⟨mb,nsK hb,hbb⟩,let⟨mc,h1,h2⟩:=hlim;⟨mc,nsK h1,h2⟩⟩;have e0:Zqz P w K mg (Zoc s₁.heap H) callerA [] s₁ H:=⟨rfl,hM,fun b o e=>Zqs e,Nat.le_of_eq (ZlQ _ _),trivial,fun b hb=>absurd (show b∈([]:List Addr) from hb) (by simp),hok,.of_eq hg⟩;refine Qew ((F _ hKb (nsK hns)).run callerA [] s₁ H ⟨[.ref a],[]⟩ [.ref a] [.ref a] _ _ hr e0 (hbind s₁ (.ref a)) (.cons rfl .nil) (hsp H hO hS)) fun r s' h=> ?_
  cases r with
  |error e=>exact(hCX H e s' h).elim
  |ok fl=>
   cases fl with
   |next=>exact False.elim h
   |brk=>exact False.elim h
   |cont=>exact False.elim h
   |ret u=>
    obtain⟨v,H',os,bare,un,hok',r',q⟩:=h;have q':v= .bl true:=q;subst q';obtain rfl:u=Value.bool true:=r';refine⟨rfl,OldK.of_keep fun b o e=> ?_,os,bare⟩
    cases q:H b with
    |none=>exact un.keep b o e q (by intro z;exact absurd (show b∈([]:List Addr) from z) (by simp)) (by simp)
    |some u=>
     rcases hO b with z|⟨ob,xs,z⟩
     ·rw[q] at z;cases z
     ·have z2:=un.frzs b ob _ z;obtain⟨e1,_⟩:=hok b _ z;obtain⟨e2,_⟩:=hok' b _ z2;rw[e] at e1;cases e1;exact e2
 cases hk:K.lookup a with
 |some o=>
  have e:=KX a o hk;rw[ha] at e;cases e;refine core (fun _=>none) (fun _=> .inl rfl) (.inr ⟨_,vs.toArray,_,hk,rfl,rfl,rfl,by rw[Qay,lenV];exact hl,by simpa using rv⟩) (fun b u z=>by have z':(none:Option HO)=some u:=z;cases z') (fun b z=>absurd rfl z) fun z=>absurd rfl z
 |none=>
  refine core (fun b=>if b=a then some (.frz {cls:=.type "list",data:=.seq vs.toArray } (.lst (ns.map V.int))) else none) (fun b=> ?_) (.inl (.inr ⟨{cls:=.type "list",data:=.seq vs.toArray },Qp rfl⟩)) (fun b u z=> ?_) (fun b z=> ?_) fun _=>hk
  ·by_cases hb:b=a
   ·exact .inr ⟨_,_,Qp hb⟩
   ·exact .inl (Qn hb)
  ·by_cases hb:b=a
   ·have z':=(Qp hb).symm.trans z;cases z';subst hb;exact⟨ha,by rw[Qaf];exact hl,vs,_,rv,ha⟩
   ·have z':=(Qn hb).symm.trans z;cases z'
  ·by_cases hb:b=a
   ·exact hb
   ·exact absurd (Qn hb) z
theorem walk_of {l:PySem.W.OpenLaw}{k:Nat}{q:Program}{qx:List Str}{XP:(Str→Option Value)→Heap→Prop}{YP:World→Heap→Prop}{d:DefRec}{K:Params→FJ}{CX:World→CXT}{sp:World→Sp}
  (hn:l.most=some n) (hn2:n≤sizeLine) (hdf:d.params.defaults=[]) (hr:Zdr k callerA)
  (hY:∀(w:World)(h:Heap),YP w h→(K w.params).In h)
  (F:∀(w:World)(mg:Str→Option Value)(fa:Addr)(h:Heap),(K w.params).In h→h.Ns mainGlobals mg→mg d.name=some (.ref fa)→
   ∃fd:FuncData,(∀(s:Shared)(u:Value),BindsTo s fd ⟨[u],[]⟩ [(x,u)])∧
    ∀base:Heap,(K w.params).In base→base.Ns mainGlobals mg→Za6 l.prog w (K w.params) mg base (CX w) k fa fd [x] (sp w))
  (hsp:∀(w:World)(H:Hp)(a:Addr)(ns:List Int),ns.length≤n→ZtT H→SqL (K w.params) H a (ns.map V.int)→sp w [.ref a] H (fun v _=>v= .bl true) fun _ _ _=>False)
  (hCX:∀(w:World)(H:Hp)(s:Shared)(e:Value)(s':Shared),CX w [] H s (fun _ _ _=>False) e s'→False):
  PySem.W.WalkO q qx XP YP l.row.toRowW d [] (fun f vs=>PySem.call f vs):=by
 refine Att.attach_call hn hdf fun w s₀ s₁ mg mb fa o pm cd doc a vs ns G Y ho hd hcd hmg hobj hints hlen hg=> ?_;have KX:=hY w _ Y;obtain⟨fd,hb,hF⟩:=F w mg fa _ KX G.T.g hmg;exact Zor KX G.T.g G.T.b G.T.builtins G.T.nolimit hg hobj hints (QaW hlen hn2) hr hF hb (fun H hO hS=>hsp w H a ns hlen hO hS) fun H e s'=>hCX w H s₁ e s'
def Zmd (s:Stmt)(j:Nat):Stmt:=match s with
 | .ClassDef _ _ _ body _ _ _ _ _ _ _=>body.getD j (.Pass ⟨0,0,0,0⟩)
 |_=> .Pass ⟨0,0,0,0⟩
def ZcE (s:Stmt):Arguments:=match s with
 | .FunctionDef _ a _ _ _ _ _ _ _ _=>a
 |_=>{posonlyargs:=[],args:=[],vararg:=none,kwonlyargs:=[],kw_defaults:=[],kwarg:=none,defaults:=[] }
def Zck (s:Stmt):List Stmt:=match s with
 | .FunctionDef _ _ b _ _ _ _ _ _ _=>b
 |_=>[]
def Zal (s:Stmt):Scope:=match s with
 | .FunctionDef _ _ _ _ _ _ sc _ _ _=>sc
 |_=>{kind:=.function,names:=[],isGenerator:=false,isCoroutine:=false }
abbrev CX0:CXT:=fun _ _ _ _ _ _=>False
abbrev E0:XK:=fun _ _ _=>False
theorem Zos :ZfM CX0 X E0:=fun _ _ _ _ _ _ _ h=>h.elim
structure Fun (K:FJ)(x qe:Str)(st:Stmt)(f:Addr)(fd:FuncData):Prop where
 ex:∃(oc:Value)(od:Option Addr)(kV doc pm:Value)(an:Option Addr)(cdv ct:Value)(osl:Array (Option Value)),
  fd=PySem.W.fnOf x qe (ZcE st) (Zck st) (Zal st) .none kV doc pm an cdv ct∧K.lookup f=some ⟨oc,od,.func fd,osl⟩∧PySem.W.codeIn K cdv qe=true
 kp:PySem.W.keepIn K (.ref f)=true
section
variable {K:FJ}{base:Heap}
theorem Fun.ok {st:Stmt}{N:List Str}{k:Nat}(F:Fun K x qe st f fd)(S:Zas N ps (Zal st))(len:∀vs H Q E,sp vs H Q E→vs.length=ps.length)
  (hbody:∀(cdv:Value)(A:Around)(outer:List Env)(s:Shared)(H:Hp)(vs:List V)(Q:VK)(E:XK),Zdr k (A.deeper (envOfC qe (Zal st) s.heap.objs.size f cdv))→sp vs H Q E→
   ∃t,PSs (ZrW CX0 P w K mg base N qe (Zal st) f cdv A outer s H E).nox (Zck st) t∧t {nx:=fun _ H'=>Q .non H',rt:=Q } (Zhw N vs) H):Za6 P w K mg base CX0 (k+1) f fd ps sp:=by
 obtain⟨oc,od,kV,doc,pm,an,cdv,ct,osl,rfl,lk,hcd⟩:=F.ex;refine ZtS lk hcd S len fun A outer s H vs Q E hr hsp=> ?_;obtain⟨t,h,q⟩:=hbody cdv A outer s H vs Q E hr hsp;exact⟨t,h.nox,q⟩
theorem Fun.okl {st:Stmt}{k:Nat}(F:Fun K x qe st f fd)(N:List Str)(hb:N.Nodup→∀(cdv:Value)(A:Around)(outer:List Env)(s:Shared)(H:Hp)(vs:List V)(Q:VK)(E:XK),Zdr k (A.deeper (envOfC qe (Zal st) s.heap.objs.size f cdv))→sp vs H Q E→
   ∃t,PSs (ZrW CX0 P w K mg base N qe (Zal st) f cdv A outer s H E).nox (Zck st) t∧t {nx:=fun _ H'=>Q .non H',rt:=Q } (Zhw N vs) H)(S:Zas N ps (Zal st):=by exact⟨rfl,rfl,rfl,by decide +kernel,rfl,by decide +kernel,by decide +kernel⟩)(len:∀vs H Q E,sp vs H Q E→vs.length=ps.length:=by intro vs H Q E h;(repeat obtain⟨_,h⟩:=h);subst_vars;rfl):Za6 P w K mg base CX0 (k+1) f fd ps sp:=F.ok S len (hb S.nd)
theorem Fun.binds {st:Stmt}(F:Fun K x qe st f fd)
  (h:∀(kV doc pm:Value)(an:Option Addr)(cdv ct:Value)(us:List Value),us.length=ps.length→bindArgs (PySem.W.fnOf x qe (ZcE st) (Zck st) (Zal st) .none kV doc pm an cdv ct) ⟨us,[]⟩=pure (ps.zip us)):ZdA K fd ps []:=by
 obtain⟨oc,od,kV,doc,pm,an,cdv,ct,osl,rfl,lk,hcd⟩:=F.ex;exact .all (h kV doc pm an cdv ct)
theorem ZhB {st:Stmt}{oc:Value}{od an:Option Addr}{osl:Array (Option Value)}{kV doc pm cdv ct:Value}(l:K.lookup f=some ⟨oc,od,.func (PySem.W.fnOf x qe (ZcE st) (Zck st) (Zal st) .none kV doc pm an cdv ct),osl⟩)
  (c:PySem.W.codeIn K cdv qe=true) (k:PySem.W.keepIn K (.ref f)=true):Fun K x qe st f (PySem.W.fnOf x qe (ZcE st) (Zck st) (Zal st) .none kV doc pm an cdv ct):=⟨⟨oc,od,kV,doc,pm,an,cdv,ct,osl,rfl,l,c⟩,k⟩
end
theorem Zd2 {k:Nat}(hr:Zdr k A):A.units+1<cLine:=QaF (Nat.add_le_add_left (by decide:1≤64) _) hr.units
theorem Zba (h:n≤1000):n<sizeLine:=QaF h (by decide)
theorem pv (i:Nat){pos:PySem.Pos}(hN:X.N[i]?=some x:=by rfl)(hv:Vis X.env.scope x:=by first|exact Or.inl rfl|exact Or.inr (Or.inl rfl)|exact Or.inr (Or.inr rfl))(hd:(x==("__debug__" :Str))=false:=by decide)
  (hcd:(x==("__classdict__" :Str))=false:=by decide):PE X (.Name x pos) (Zag i):=Zr2 hN hv hd hcd
theorem Zcd {A:Prop}(h:B):if false=true then A else B:=by
 rw[Qn QaE];exact h
theorem Zcl {A:Prop}(h:A):if true=true then A else B:=by
 rw[Qp rfl];exact h
theorem Zfx {c A:Prop} [Decidable c](h1:c→A)(h2:¬c→B):if c then A else B:=by
 by_cases h:c
 ·rw[Qp h];exact h1 h
 ·rw[Qn h];exact h2 h
def Zam (H H':Hp):Prop:=∀b o,H b=some o→H' b=some o
theorem Zam.refl (H:Hp):Zam H H:=fun _ _ h=>h
theorem Zam.trans (a:Zam H H1)(b:Zam H1 H2):Zam H H2:=fun c o h=>b c o (a c o h)
theorem Zam.free (e:Zam H H'){l:Addr}(h:H' l=Option.none):H l=Option.none:=by
 cases q:H l with
 |none=>rfl
 |some o=>
  rw[e l o q] at h;cases h
theorem Zam.seq {K:FJ}{xs:List V}(e:Zam H H')(h:SqL K H a xs):SqL K H' a xs:=by
 rcases h with(h|⟨o,h⟩)|h
 ·exact .inl (.inl (e _ _ h))
 ·exact .inl (.inr ⟨o,e _ _ h⟩)
 ·exact .inr h
def ZfB (i j:Int):Prop:=0<j∧j.natAbs.log2<9000
theorem Zdk:OpR X (binaryOp .FloorDiv) (rI ZfB fun i j=> .int (i/j)):=opI fun i j _ _ _ _ _ hc q=>by
 have h1:(0:Int)<j:=hc.1;exact floordiv_int (by omega) (by rw[QdN i (by omega)];exact q) (.inl (Qd0 hc.2))
theorem ZiD :Zcq X (.builtin "isinstance") (fun xs H Q=>∃x t b,xs=[x,.ty T]∧Zfw X.K H x t∧PySem.W.kitOne X.K t (.type T)=some b∧Q (.bl b) H):=by
 intro qa s σ H xs us Q I r h;obtain⟨x,t,b,rfl,ty,e,q⟩:=h;obtain⟨u,w',rfl,r1,r2⟩:=ZkH r;cases(show w'= .type T from r2);exact Zl4 I r1 ty e fun tk=>⟨.bl b,H,I.tok _,rfl,q⟩
theorem Zsi {K:FJ}:PySem.W.kitOne K (.type "int") (.type "bool")=some false:=by with_unfolding_all rfl
theorem Zsj {K:FJ}:PySem.W.kitOne K (.type "int") (.type "int")=some true:=by rfl
theorem ZiE (env:Env):∀(names:List (Str×NameKind))(acc:List (Str×Addr)),(∀y∈names,y.2= .free→∃c,env.cells.lookup y.1=some c)→(∀y c,acc.lookup y=some c→env.cells.lookup y=some c)→
  ∃cl,(forIn names acc fun(x:Str×NameKind) (r:List (Str×Addr))=>if(x.2==NameKind.free)=true then(do let c←cellOf env x.1;pure (ForInStep.yield ((x.1,c)::r))) else pure (ForInStep.yield r):Sem _)=pure cl∧
   (∀y c,cl.lookup y=some c→env.cells.lookup y=some c)∧(∀y,(y,NameKind.free)∈names→(cl.lookup y).isSome=true)∧(∀y,(acc.lookup y).isSome=true→(cl.lookup y).isSome=true)
 | [],acc,_,h=>⟨acc,by simp,h,fun y z=>absurd z (by simp),fun _ z=>z⟩
 | (n,k)::r,acc,hf,h=>by
  by_cases hk:k= .free
  ·subst hk;obtain⟨c,hc⟩:=hf (n,.free) Qah rfl
   obtain⟨cl,e,h1,h2,h3⟩:=ZiE env r ((n,c)::acc) (fun y hy=>hf y (Qag _ hy)) (fun y d hd=>by
    rw[Qcp] at hd
    cases z:y==n with
    |true=>
     rw[z] at hd
     have:y=n:=by simpa using z
     subst this
     cases hd
     exact hc
    |false=>rw[z] at hd;exact h y d hd)
   have hin:∀y,(((n,c)::acc).lookup y).isSome=true∨True:=fun _=> .inr trivial;refine⟨cl,?_,h1,fun y hy=> ?_,fun y hy=>h3 y ?_⟩
   ·rw[QcI];have e0:cellOf env n=pure c:=by unfold cellOf;rw[hc]
    simp only[beq_self_eq_true,QbW,e0,pure_bind];exact e
   ·rcases Qaw.mp hy with z|z
    ·cases z;exact h3 _ (by rw[Qcp];simp)
    ·exact h2 y z
   ·rw[Qcp]
    cases y==n with
    |true=>rfl
    |false=>exact hy
  ·obtain⟨cl,e,h1,h2,h3⟩:=ZiE env r acc (fun y hy=>hf y (Qag _ hy)) h;refine⟨cl,?_,h1,fun y hy=> ?_,h3⟩
   ·rw[QcI];have hb:(k==NameKind.free)=false:=by simpa using hk
    simp only[hb,QaI,Qbv,pure_bind];exact e
   ·rcases Qaw.mp hy with z|z
    ·cases z;exact absurd rfl hk
    ·exact h2 y z
theorem ZqH (hf:∀y∈scope.names,y.2= .free→∃c,env.cells.lookup y.1=some c):∃cl,closureFor scope env=pure cl∧(∀y c,cl.lookup y=some c→env.cells.lookup y=some c)∧(∀y,(y,NameKind.free)∈scope.names→(cl.lookup y).isSome=true):=by
 obtain⟨cl,e,h1,h2,_⟩:=ZiE env scope.names [] hf (fun y c h=>by cases h);refine⟨cl,?_,h1,h2⟩;unfold closureFor;simp only[bind_pure];exact e
def Zes:TT:=fun _ H Q=>Q true H
def PIf (X:Cx)(ifs:List Expr)(t:TT):Prop:=
 ∀(qa:List (Addr×Obj))(s:Shared)(σ:St)(H:Hp)(Q:Bool→Hp→Prop),Inv X qa σ H s→t σ H Q→
  wpAny (model X.prog X.w) X.A (forIn ifs true fun c r=>if r=true then do let ok←isTrue c X.env (eval c X.env);pure (ForInStep.yield ok) else pure (ForInStep.yield r)) (TP X qa σ Q) X.xe s
theorem ZbT:PIf X [] Zes:=fun qa s σ H Q I h=>wpAny_tests_nil ⟨H,I,h⟩
theorem ZiF {c:Expr}{t:TT}(hc:PT X c t):PIf X [c] t:=fun qa s σ H Q I h=>wpAny_tests_one (hc qa s σ H Q I h)
theorem Zc9 {k:NameKind}(hc:∀y∈names,y.2≠ .cell)(h:(names.map fun(n,k)=>if(k==NameKind.free && env.scope.kind== .function && env.kindOf n==some .cell) then(n,NameKind.cell) else(n,k)).lookup x=some k):
  (k= .cell∨k= .free)→names.lookup x=some .free∧(k= .cell→env.kindOf x=some .cell):=by
 induction names with
 |nil=>cases h
 |cons p r ih=>
  obtain⟨n,k0⟩:=p;intro hk;have h:List.lookup x ((if(k0==NameKind.free && env.scope.kind== .function && env.kindOf n==some .cell)=true then(n,NameKind.cell) else(n,k0))::_)=some k:=h;by_cases c:(k0==NameKind.free && env.scope.kind== .function && env.kindOf n==some .cell)=true
  ·rw[Qp c] at h;rw[Qcp] at h⊢
   cases z:x==n with
   |true=>
    have e:x=n:=by simpa using z
    subst e;simp only[QaK,QdX] at c;exact⟨by rw[c.1.1],fun _=>c.2⟩
   |false=>rw[z] at h;exact ih (fun y hy=>hc y (Qag _ hy)) h hk
  ·rw[Qn c] at h;rw[Qcp] at h⊢
   cases z:x==n with
   |true=>
    rw[z] at h;have e:k0=k:=QbA h;subst e;rcases hk with rfl|rfl
    ·exact absurd rfl (hc (n,.cell) Qah)
    ·exact⟨rfl,fun z=>by cases z⟩
   |false=>rw[z] at h;exact ih (fun y hy=>hc y (Qag _ hy)) h hk
theorem Zga (h:(names.map fun(n,k)=>if(k==NameKind.free && env.scope.kind== .function && env.kindOf n==some .cell) then(n,NameKind.cell) else(n,k)).lookup x=some .local):
  names.lookup x=some .local:=by
 induction names with
 |nil=>cases h
 |cons p r ih=>
  obtain⟨n,k0⟩:=p;have h:List.lookup x ((if(k0==NameKind.free && env.scope.kind== .function && env.kindOf n==some .cell)=true then(n,NameKind.cell) else(n,k0))::_)=some .local:=h;by_cases c:(k0==NameKind.free && env.scope.kind== .function && env.kindOf n==some .cell)=true
  ·rw[Qp c] at h;rw[Qcp] at h⊢
   cases z:x==n with
   |true=>rw[z] at h;cases h
   |false=>rw[z] at h;exact ih h
  ·rw[Qn c] at h;rw[Qcp] at h⊢
   cases z:x==n with
   |true=>rw[z] at h;exact h
   |false=>rw[z] at h;exact ih h
inductive DI (K:FJ) (H:Hp):V→PyData→Prop where
 |non:DI K H .non .none
 |bl (b:Bool):DI K H (.bl b) (.bool b)
 |int (i:Int):DI K H (.int i) (.int i)
 |str (x:Str):DI K H (.str x) (.str x)
 |tup {a:Addr} {xs:List V} {ds:List PyData}:SqT K H a xs→xs.length=ds.length→(∀(i:Nat)(x:V)(d:PyData),xs[i]?=some x→ds[i]?=some d→DI K H x d)→DI K H (.ref a) (.tuple ds)
 |lst {a:Addr} {xs:List V} {ds:List PyData}:SqL K H a xs→xs.length=ds.length→(∀(i:Nat)(x:V)(d:PyData),xs[i]?=some x→ds[i]?=some d→DI K H x d)→DI K H (.ref a) (.list ds)
theorem ZdC:∀{us:List Value} {ds:List PyData} {xs:List V},Zbg xs us→xs.length=ds.length→(∀(i:Nat)(x:V)(d:PyData)(u:Value),xs[i]?=some x→ds[i]?=some d→Zbf x u→∃as,Reads s.heap u d as)→∃as,ReadsAll s.heap us ds as
 |_,ds,_,.nil,hl,_=>by
  cases ds with
  |nil=>exact⟨_,.nil⟩
  |cons d r=>cases hl
 |_,ds,_,.cons (a:=x) r t,hl,h=>by
  cases ds with
  |nil=>cases hl
  |cons d rest=>
   obtain⟨as,ra⟩:=h 0 x d _ rfl rfl r;obtain⟨bs,rb⟩:=ZdC t (by simpa using hl) (fun i y e u h1 h2 h3=>h (i+1) y e u (by simpa using h1) (by simpa using h2) h3);exact⟨_,.cons ra rb⟩
theorem DI.reads (I:Inv X qa σ H s){x:V}{d:PyData}(h:DI X.K H x d):∀{u:Value},Zbf x u→∃as,Reads s.heap u d as:=by
 induction h with
 |non=>intro u r;cases r;exact⟨_,.none⟩
 |bl b=>intro u r;cases r;exact⟨_,.bool b⟩
 |int i=>intro u r;obtain⟨t,rfl⟩:=r;exact⟨_,.int i t⟩
 |str x=>intro u r;obtain⟨t,rfl⟩:=r;exact⟨_,.str x t⟩
 |tup hq hl _ ih=>
  intro u r;cases r;obtain⟨its,rv,⟨o,e,c,n,hd⟩,_⟩:=I.tuple hq;obtain⟨as,ra⟩:=ZdC (s:=s) rv hl (fun i y d u h1 h2 h3=>ih i y d h1 h2 h3);exact⟨_,.tuple e c hd (by simpa using ra)⟩
 |lst hq hl _ ih=>
  intro u r;cases r;obtain⟨its,rv,pl,_⟩:=I.list hq;obtain⟨o,e,c,n,hd⟩:=pl.isList;obtain⟨as,ra⟩:=ZdC (s:=s) rv hl (fun i y d u h1 h2 h3=>ih i y d h1 h2 h3);exact⟨_,.list e c hd (by simpa using ra)⟩
def ZqI (K:FJ)(g:Bool→Bool):R2:=fun x y H Q=>∃dx dy,DI K H x dx∧DI K H y dy∧dx.canLay0=true∧dy.canLay0=true∧dx.depth≤60∧Q (.bl (g (PyData.eqv dx dy))) H
theorem ZpW {k:Nat}(hr:Zdr k X.A):OpR X (compareOp .Eq) (ZqI X.K fun b=>b):=by
 intro qa s σ H x y v u Q I rx ry h;obtain⟨dx,dy,hx,hy,cx,cy,hd,q⟩:=h;obtain⟨as,ra⟩:=hx.reads I rx;obtain⟨bs,rb⟩:=hy.reads I ry;have hu:=hr.units;exact SeqAt.compareEq_reads ra rb cx cy (by omega) ⟨.bl _,H,I,rfl,q⟩
theorem Zme {k:Nat}(hr:Zdr k X.A):OpR X (compareOp .NotEq) (ZqI X.K fun b=> !b):=by
 intro qa s σ H x y v u Q I rx ry h;obtain⟨dx,dy,hx,hy,cx,cy,hd,q⟩:=h;obtain⟨as,ra⟩:=hx.reads I rx;obtain⟨bs,rb⟩:=hy.reads I ry;have hu:=hr.units;exact SeqAt.compareNe_reads ra rb cx cy (by omega) ⟨.bl _,H,I,rfl,q⟩
theorem Zgb (bs:List Bool):(List.range bs.length).all (fun i=>bs.getD i true)=bs.all id:=by
 induction bs with
 |nil=>rfl
 |cons b r ih=>
  rw[QaB,List.range_succ_eq_map,Qec,List.all_map,Qec]
  have:(List.range r.length).all ((fun i=>(b::r).getD i true) ∘ Nat.succ)=(List.range r.length).all (fun i=>r.getD i true):=by
   congr 1
  rw[this,ih];rfl
theorem Zgc (hc:X.calm=true):Zcq X (.builtin "all") (fun xs H Q=>∃(p:Addr)(bs:List Bool),xs=[.ref p]∧SqL X.K H p (bs.map V.bl)∧Q (.bl (bs.all id)) H):=by
 intro qa s σ H xs us Q I r h;obtain⟨p,bs,rfl,hq,q⟩:=h;obtain⟨u,rfl,rx⟩:=Zc8 r;cases rx;obtain⟨its,rv,pl,hz⟩:=I.list hq
 have hlt:p<s.heap.objs.size:=by
  obtain⟨o,e,_⟩:=pl.isList;exact Qan e
 have hlen:its.length=bs.length:=by have:=rv.length;rw[Qaf] at this;exact this.symm
 refine call_all_walk (Qda pl.isList ?_);refine⟨_,_,_,_,_,_,fun i=>bs.getD i true,rfl,QeU (A:=X.A.in1) (I.ok.hd hc) s.heap.objs.size p (QaM hlt) its.toArray,?_,?_,fun h' tk hk=> ?_⟩
 ·exact⟨⟨_,Qat _ rfl,rfl,rfl⟩,(let⟨o,e,c⟩:=pl.isList;⟨o,Qac _ e,c⟩)⟩
 ·intro i v s' Q' E' hP hQ;have hv:its[i]?=some v:=by simpa using hP
  have hil:i<bs.length:=by rw[←hlen];exact(Qab.mp hv).1
  obtain⟨u,e,ru⟩:=rv.get (x:=V.bl (bs.getD i true)) (i:=i) (by rw[Qao,Qad hil,Qaz,Qad hil];rfl);rw[hv] at e;cases e;cases ru;exact Qbg hQ
 ·have e:(List.range its.toArray.size).all (fun i=>bs.getD i true)=bs.all id:=by
   rw[Qay,hlen];exact Zgb bs
  rw[e];refine⟨.bl _,H,?_,rfl,q⟩;exact I.kept fun b o eb=>hk b o (by simp;exact QaM (Qan eb)) (Qac _ eb)
theorem ZpX {K:FJ}:PySem.W.kitOne K (.type "tuple") (.type "tuple")=some true:=by rfl
theorem Zbi {K:FJ}(hK:X.K=K:=by rfl):Zcq X (.builtin "isinstance") (fun xs H Q=>∃x t b,xs=[x,.ty T]∧Zfw K H x t∧PySem.W.kitOne K t (.type T)=some b∧Q (.bl b) H):=by
 subst hK;exact ZiD
theorem Zaz {K:FJ}(hK:X.K=K:=by rfl):IxR X (Zcu K):=by subst hK;exact ZqG
theorem Zaw {K:FJ}(hK:X.K=K:=by rfl):IxR X (ZbO K):=by subst hK;exact Zsd
theorem Zcm {K:FJ}(hK:X.K=K:=by rfl):Zcq X (.builtin "len") (fun xs H Q=>∃p ys,xs=[.ref p]∧(SqL K H p ys∨SqT K H p ys)∧Q (.int ys.length) H):=by subst hK;exact Zhz
theorem Zbg.of_get:∀{xs:List V} {us:List Value},xs.length=us.length→(∀(i:Nat)(x:V)(u:Value),xs[i]?=some x→us[i]?=some u→Zbf x u)→Zbg xs us
 | [],[],_,_=> .nil
 | [],_::_,h,_=>by cases h
 |_::_,[],h,_=>by cases h
 |x::xs,u::us,h,k=> .cons (k 0 x u rfl rfl) (Zbg.of_get (by simpa using h) fun i y v h1 h2=>k (i+1) y v (by simpa using h1) (by simpa using h2))
theorem ZiG:Zcq X (.type "range") (fun xs H Q=>∃j:Int,xs=[.int j]∧-(2^62)≤j∧j<2^62∧∀p,H p=none→Q (.ref p) (upd H p (.rng 0 j))):=by
 intro qa s σ H xs us Q I r h;obtain⟨j,rfl,h1,h2,q⟩:=h;obtain⟨u,rfl,t,rfl⟩:=Zc8 r;refine call_range_1 ?_;exact⟨.ref _,upd H s.heap.objs.size (.rng 0 j),I.laid (fun b u e=>Qac _ e) (Qai _) ⟨_,_,_,Qat _ rfl⟩,rfl,q _ (I.hok.fresh (Qai _))⟩
theorem Zgd (hc:X.calm=true):Zcq X (.type "list") (fun xs H Q=>∃(p:Addr)(j:Int),xs=[.ref p]∧H p=some (.rng 0 j)∧0≤j∧j≤1000∧∀l,H l=none→Q (.ref l) (upd H l (.lst ((List.range j.toNat).map fun i=>V.int (i:Nat))))):=by
 intro qa s σ H xs us Q I r h;obtain⟨p,j,rfl,hp,h0,h1,q⟩:=h;obtain⟨u,rfl,rx⟩:=Zc8 r;cases rx;obtain⟨t,u,v,e⟩:=I.hok p _ hp;refine call_list_range (n:=j.toNat) (I.ok.hd hc) e (small_one (by omega) (by omega) (by omega) (by omega)) (by rw[rangeSize_one];split<;>omega) (by omega) fun h' tk acc' c' hk hS hacc=> ?_;have hln:((List.range j.toNat).map fun i=>V.int (i:Nat)).length=acc'.toList.length:=by simp[hacc.1]
 refine⟨.ref _,_,I.laid (o:=.lst ((List.range j.toNat).map fun i=>V.int (i:Nat))) hk (Qai _) ⟨?_,acc'.toList,c',Zbg.of_get hln fun i x w' e1 e2=> ?_,by simpa using hS⟩,rfl,q _ (I.hok.fresh (Qai _))⟩
 ·rw[Qaf,Qa6];exact QbH (Zba (by omega))
 ·have hi:i<j.toNat:=by
   have:=(Qab.mp e1).1;rw[Qaf,Qa6] at this;exact this
  rw[Qao,QbZ hi] at e1;cases e1;obtain⟨tk',z⟩:=hacc.2 i w' (by simpa using e2);rw[z];exact⟨tk',by simp⟩
section
variable {R:Result→Shared→Prop}
theorem ZkQ {pos:PySem.Pos}{it acc:Value}{EE:Value→Shared→Prop}(hE:EE=notedBy (model prog w) A env fun e s'=>R (.error e) s')(I:Nat→Shared→Prop)
  (turn:∀n s,I n s→wpAny (model prog w) A (pyNext it) (fun r z1=>match r with
   |none=>R (.ok .next) z1
   |some v=>wpAny (model prog w) A (letOwnedTupleGo tg it v) (fun _ y1=>wpAny (model prog w) A (assign tg env v) (fun _ z2=>
     wpAny (model prog w) A (forIn ifs true fun c r=>if r=true then do let ok←isTrue c env (eval c env);pure (ForInStep.yield ok) else pure (ForInStep.yield r)) (fun ok z3=>
      if ok=true then wpAny (model prog w) A (eval elt env) (fun x z4=>wpAny (model prog w) A (call (.builtin "list.append") [acc,x]) (fun _ z5=>∃m,m<n∧I m z5) EE z4) EE z3 else∃m,m<n∧I m z3) EE z2) EE y1) EE z1) EE s)
  (n:Nat) (h:I n s):codeAny (model prog w) A (.compLoop (.ListComp elt [⟨tg,qf,ifs,0⟩] scope pos) 0 it acc env) R s:=by
 subst hE;refine codeAny_loop rfl I (fun n s hI=> ?_) n h;show wpAny _ A ((compTurn (.ListComp elt [⟨tg,qf,ifs,0⟩] scope pos) 0 it acc env).onRaise (fun x=>do noteFrame x env;theTreesLotGoes x)) _ _ s;refine wpAny_noted ?_;rw[compTurn_list];refine Qaa (Qdu (Qaa (QbK (turn n s hI) (fun r z1 q1=> ?_) fun _ _ z=>z)))
 cases r with
 |none=>exact Qak q1
 |some v=>
  refine Qaa (QbK q1 (fun _ y1 q1=> ?_) fun _ _ z=>z);refine Qaa (QbK q1 (fun _ z2 q2=>Qaa (QbK q2 (fun ok z3 q3=> ?_) fun _ _ z=>z)) fun _ _ z=>z)
  cases ok with
  |false=>exact Qak ⟨rfl,q3⟩
  |true=>exact Qaa (Qaa (QbK q3 (fun x z4 q4=>Qaa (QbK q4 (fun _ z5 q5=>Qak (Qak ⟨rfl,q5⟩)) fun _ _ z=>z)) fun _ _ z=>z))
end
def cxC (X:Cx)(xs Nb:List Str)(scope:Scope)(cl:List (Str×Addr))(C:Addr)(s₂:Shared)(H₂:Hp)(fp:List Addr):Cx:=
 {X with N:=xs++Nb,s₀:=s₂,H₀:=H₂,env:=compEnvC scope cl C X.env,outer:=X.stack,stack:=X.stack,ex:=fp,fn:=fun _=>false,pn:=[],xe:=fun _ _=>False }
def InB (X:Cx)(xs Nb:List Str)(scope:Scope)(φ:Cx→Prop):Prop:=∀(cl:List (Str×Addr))(C:Addr)(s₂:Shared)(H₂:Hp)(fp:List Addr),φ (cxC X xs Nb scope cl C s₂ H₂ fp)
def CGo (k:Nat)(J:It)(g:TG)(tt:TT)(te:TE)(Q:VK)(σ:St)(H1:Hp):Prop:=∃W:Nat→Nat→List V→Hp→Prop,(∃m,W 0 m [] H1)∧∀i m ys H,W i m ys H→
 (J.stop i H∧∀D,H D=none→Q (.ref D) (upd H D (.lst ys)))∨(J.go i H∧ys.length<sizeLine∧∃N:List V→Hp→Prop,(∀zs H',N zs H'→∃m',m'<m∧W (i+1) m' zs H')∧∀v H' (pre:St),pre.length=k→J.yld i H v H'→g v (pre++σ) H' fun σ' H2=>(∃pre':St,σ'=pre'++σ∧pre'.length=k)∧tt σ' H2 fun ok H3=>if ok=true then te σ' H3 fun y H4=>N (ys++ [y]) H4 else N ys H3)
def ZbU (k:Nat)(wi:TI)(g:TG)(tt:TT)(te:TE):TE:=fun σ H Q=>wi σ H fun J H1=>CGo k J g tt te Q σ H1
def ZqJ (X:Cx)(C:Addr):Value→Shared→Prop:=fun e s'=>∃m,s'.heap.Ns C m∧∀h',Heap.SameBut C s'.heap h'→∀cenv:Env,cenv.locals=C→wpAny (model X.prog X.w) X.A (PySem.passOn "comprehension.variables-let-go" e cenv:Sem Value) (fun _ _=>False) X.xe {s' with heap:=h' }
def Zot (X:Cx)(xs Nb:List Str)(scope:Scope)(cl:List (Str×Addr))(C:Addr)(s₂:Shared)(H₂:Hp)(fp:List Addr):Cx:={cxC X xs Nb scope cl C s₂ H₂ fp with xe:=notedBy (model X.prog X.w) X.A (compEnvC scope cl C X.env) (ZqJ X C) }
def ZtJ (X:Cx)(xs Nb:List Str)(scope:Scope)(φ:Cx→Prop):Prop:=∀(cl:List (Str×Addr))(C:Addr)(s₂:Shared)(H₂:Hp)(fp:List Addr),(∃(qa:List (Addr×Obj))(σ:St),Inv X qa σ H₂ s₂∧s₂.heap.objs.size≤C∧(∀b∈fp,Zn9 X qa H₂ b))→φ (Zot X xs Nb scope cl C s₂ H₂ fp)
theorem ZkR {pos:PySem.Pos}
  {cm:Cx→Prop} (hc:ZtJ X xs Nb scope cm) (hi:PI X tg qf wi cm) (hlen:Nb.length=X.N.length) (hNb:∀p∈Nb.zip X.N,p.1=p.2∨scope.names.lookup p.1=none) (hxN:∀y∈Nb,scope.names.lookup y≠some .local)
  (hg:ZtJ X xs Nb scope fun Y=>PG Y tg g) (ht:ZtJ X xs Nb scope fun Y=>PIf Y ifs tt) (he:ZtJ X xs Nb scope fun Y=>PE Y elt te)
  (qh:∀y∈scope.names,y.2≠ .cell) (qj:scope.kind= .function) (ql:∀y∈scope.names,y.2= .local→scope.names.lookup y.1=some .local)
  (qi:∀y∈scope.names,y.2= .free→X.env.kindOf y.1=some .cell)
  (hs:∀x,foldedSetIterable qf X.env x=pure x) {pos2:PySem.Pos} {use:Option (Value→Sem Unit)} {QQ:Value→Shared→Prop} {qa:List (Addr×Obj)} {s:Shared} {σ:St} {H:Hp} {Q:VK} (I:Inv X qa σ H s) (h:ZbU xs.length wi g tt te σ H Q)
  (post:∀(s2 s4:Shared)(H2 H4:Hp)(C D:Addr)(m4:Str→Option Value),Inv X qa σ H2 s2→s2.heap.objs.size≤C→s4.heap.Ns C m4→H4 C=none→(∀h',Heap.SameBut C s4.heap h'→Inv X qa σ H4 {s4 with heap:=h' })→Q (.ref D) H4→compPost (model X.prog X.w) X.A X.xe use QQ (.ref D) C (.ok .next) s4):
  wpAny (model X.prog X.w) X.A (comprehension (.ListComp elt [⟨tg,qf,ifs,0⟩] scope pos) scope X.env pos2 (newList []) false (eval qf X.env) use) QQ X.xe s:=by
 obtain⟨cl,hcl,cl1,cl2⟩:=ZqH (scope:=scope) (env:=X.env) (fun y hy hf=>I.ok.has y.1 (.inl (qi y hy hf)));refine wpAny_comprehension_free rfl hs hcl qj ql (thn (hi qa s σ H _ I h) fun v s1 h1=>thn h1 fun itv s2 h2=> ?_);obtain⟨it,fp,tn,J,H2,e,I2,T,st2,f2,W,⟨m0,w0⟩,turn⟩:=h2;subst e;refine Qa4 (wpAny_newFunctionEnv qh (by intro y hy;simp at hy) (fun h₁ hns₁ hsb₁=> ?_) qj);dsimp only at hns₁ hsb₁⊢;generalize hHp:s2.heap.push {cls:=.type "list",dict:=none,data:=.seq ([]:List Value).toArray }=Hp2 at hns₁ hsb₁⊢;have hC:Hp2.objs.size=s2.heap.objs.size+1:=by rw[←hHp,Qbk]
 have hDC:s2.heap.objs.size≠Hp2.objs.size:=by rw[hC];exact QaM (QcU _)
 have below:∀b,b<s2.heap.objs.size→b≠Hp2.objs.size∧b≠s2.heap.objs.size:=fun b hb=>⟨by rw[hC];exact QaM (Qb0 hb),QaM hb⟩;have old:∀b o,s2.heap.get? b=some o→h₁.get? b=some o:=fun b o e=>hsb₁.extBut b o (below b (Qan e)).1 (Qac _ (hHp ▸ Qac _ e));have hacc:h₁.PlainList s2.heap.objs.size #[]:=⟨_,hsb₁.extBut _ _ hDC (Qac _ (hHp ▸ Qat _ rfl))⟩;generalize hY:Zot X xs Nb scope cl Hp2.objs.size s2 H2 fp=Y;have Yprog:Y.prog=X.prog:=by rw[←hY];rfl
 have fpLt:∀b∈fp,b<s2.heap.objs.size:=fun b hb=>by
  obtain⟨o,e,_⟩:=T.obj _ _ st2 b hb;exact Qan e
 have cellLt:∀y c,cl.lookup y=some c→c<s2.heap.objs.size:=fun y c hc=>by
  obtain⟨v,q⟩:=I2.cell y c (cl1 y c hc);exact q.lt
 have frSub:∀b∈frs X.stack,b<s2.heap.objs.size:=fun b hb=>by
  rcases Qaw.mp (I2.stkSub b hb) with z|z
  ·rw[z];exact I2.lt
  ·by_cases hlt:b<s2.heap.objs.size
   ·exact hlt
   ·exact absurd z (I2.nofs (Nat.le_of_not_lt hlt))
 have ok:(Zot X xs Nb scope cl Hp2.objs.size s2 H2 fp).Ok:=by
  refine⟨I2.ok.mod,qj,I2.ok.glob,I2.ok.blt,(by show s2.heap.objs.size≤Hp2.objs.size;omega),fun y z c h1 h2=>I2.ok.inj y z c (cl1 y c h1) (cl1 z c h2),fun y hy=> ?_,fun y c hf _=>absurd hf (by intro z;cases z),I2.ok.hd,I2.ok.frames,.inl rfl,fun b hb=>⟨?_,fun y c h1 h2=> ?_⟩,I2.bs,QaW I2.ok.bsz I2.sz,fun b o e hb=> ?_,fun b hb hm=> ?_,I2.stack,I2.stkFree⟩
  ·have hy:(scope.names.map fun(n,k)=>if(k==NameKind.free && X.env.scope.kind== .function && X.env.kindOf n==some .cell) then(n,NameKind.cell) else(n,k)).lookup y=some .cell∨(scope.names.map fun(n,k)=>if(k==NameKind.free && X.env.scope.kind== .function && X.env.kindOf n==some .cell) then(n,NameKind.cell) else(n,k)).lookup y=some .free:=hy
   have q:scope.names.lookup y=some .free:=by
    rcases hy with z|z
    ·exact(Zc9 qh z (.inl rfl)).1
    ·exact(Zc9 qh z (.inr rfl)).1
   exact Qcw.mp (cl2 y (QbP q))
  ·exact(below b (fpLt b hb)).1
  ·exact(f2 b hb).2.2.2.2.1 y c (cl1 y c h1) h2
  ·rcases(f2 b hb).2.2.2.1 with z|z
   ·exact I2.ok.noex b o e z
   ·exact absurd (QaP (Qan e) (QaW I2.ok.bsz z)) (Qbs _)
  ·rcases Qaw.mp (I2.stkSub b hm) with z|z
   ·exact(f2 b hb).2.1 z
   ·exact(f2 b hb).2.2.1 z
 have fpY:∀{H':Hp} {pl:List (Addr×Obj)},(∀b∈fp,H' b=none)→(∀p∈pl,p.1=s2.heap.objs.size)→∀b∈fp,Zn9 Y pl H' b:=fun{H' pl} hn hp b hb=>by
  rw[←hY];refine⟨hn b hb,(below b (fpLt b hb)).1,fun hm=> ?_,.inl hb,fun y c h1 h2=>(f2 b hb).2.2.2.2.1 y c (cl1 y c h1) h2,fun p hm z=> ?_⟩
  ·rcases Qaw.mp (I2.stkSub b hm) with z|z
   ·exact(f2 b hb).2.1 z
   ·exact(f2 b hb).2.2.1 z
  ·have hm:p∈pl:=hm;rw[hp p hm] at z;exact(below b (fpLt b hb)).2 z.symm
 have HD:H2 s2.heap.objs.size=none:=I2.hok.fresh (Qai _);have HC:H2 Hp2.objs.size=none:=I2.hok.fresh (by omega);obtain⟨m2,hns2,hloc2⟩:=I2.loc
 have IY:∀tk,Inv (Zot X xs Nb scope cl Hp2.objs.size s2 H2 fp) [] (List.replicate xs.length none++σ) H2 {s2 with heap:=h₁,toks:=tk }:=fun tk=>by
  refine⟨ok,rfl,I2.bare,Un.kept old,⟨_,hns₁,fun i y v h1 h2 h3=> ?_⟩,fun y c h1=> ?_,HC,fun y c h1=>I2.freeC y c (cl1 y c h1),fun p hp=>absurd (show p∈([]:List (Addr×Obj)) from hp) (by simp),I2.hok.kept old,(by show(List.replicate xs.length (none:Option V)++σ).length=(xs++Nb).length;rw[Qae,Qae,QaT,hlen,I2.len])⟩
  ·have h1:(xs++Nb)[i]?=some y:=h1;by_cases hik:i<xs.length
   ·rw[Qas (by rw[QaT];exact hik),Qeb,Qp hik] at h2;cases h2
   ·rw[Qaq (by omega)] at h1;rw[Qaq (by rw[QaT];omega),QaT] at h2;generalize i-xs.length=i at h1 h2;have h3:Vis (relabel scope X.env) y:=h3
    have key:∀k,(k=NameKind.cell∨k=NameKind.free)→(relabel scope X.env).names.lookup y=some k→∃u,Zbf v u∧Zut (compEnvC scope cl Hp2.objs.size X.env) h₁ (fun x=>([]:List (Str×Value)).reverse.lookup x) y u:=fun k hk hl=>by
     obtain⟨q1,_⟩:=Zc9 qh hl hk;have q2:=qi (y,.free) (QbP q1) rfl
     have h1':X.N[i]?=some y:=by
      have hi':i<X.N.length:=by rw[←hlen];exact(Qab.mp h1).1
      have hz:(Nb.zip X.N)[i]?=some (y,X.N[i]):=by rw[List.getElem?_zip_eq_some];exact⟨h1,Qad hi'⟩
      rcases hNb _ (Qav hz) with z|z
      ·have z:y=X.N[i]:=z;rw[z];exact Qad hi'
      ·have z:scope.names.lookup y=none:=z;rw[q1] at z;cases z
     obtain⟨u,r,l⟩:=hloc2 i y v h1' h2 (.inr (.inl q2));refine⟨u,r,.inr ⟨?_,?_⟩⟩
     ·rcases hk with rfl|rfl
      ·exact .inl hl
      ·exact .inr hl
     ·rcases l with⟨k1,_⟩|⟨_,c,e1,z⟩
      ·rw[q2] at k1;cases k1
      ·obtain⟨c',e2⟩:=Qcw.mp (cl2 y (QbP q1));have e3:=cl1 y c' e2;rw[e1] at e3;cases e3;obtain⟨o,ho,hd⟩:=z;exact⟨c,e2,o,old c o ho,hd⟩
    rcases h3 with h3|h3|h3
    ·
     exfalso;exact hxN y (Qav h1) (Zga h3)
    ·exact key _ (.inl rfl) h3
    ·exact key _ (.inr rfl) h3
  ·obtain⟨v,o,ho,hd⟩:=I2.cell y c (cl1 y c h1);exact⟨v,o,old c o ho,hd⟩
 have noErr:∀{α:Type} {m:Sem α} {G:α→Shared→Prop} {E':Value→Shared→Prop} {s':Shared},wpAny (model X.prog X.w) X.A m G (fun _ _=>False) s'→wpAny (model X.prog X.w) X.A m G E' s':=fun h=>QbK h (fun _ _ q=>q) fun _ _ q=>q.elim
 have loop:∀(tk:Nat)(R:Result→Shared→Prop),R=compPost (model X.prog X.w) X.A X.xe use QQ (.ref s2.heap.objs.size) Hp2.objs.size→
   codeAny (model X.prog X.w) X.A (.compLoop (.ListComp elt [⟨tg,qf,ifs,0⟩] scope pos) 0 (.ref it) (.ref s2.heap.objs.size) (compEnvC scope cl Hp2.objs.size X.env)) R {s2 with heap:=h₁,toks:=tk }:=by
  rintro tk R rfl
  refine ZkQ rfl (fun n s'=>∃i σv H' ys its,σv.length=xs.length∧Inv Y [] (σv++σ) H' s'∧tn i s'.heap∧(∀b∈fp,H' b=none)∧Zbg ys its∧ys.length≤sizeLine∧s'.heap.PlainList s2.heap.objs.size its.toArray∧H' s2.heap.objs.size=none∧W i n ys H') ?_ m0
   ⟨0,List.replicate xs.length none,H2,[],[],QaT,hY ▸ IY tk,T.keep _ _ _ st2 fun b _ o e=>old b o e,fun b hb=>(f2 b hb).1,.nil,QaS _,hacc,HD,w0⟩
  rintro n s3 ⟨i,σv,H3,ys,its,lv,I3,st3,fr3,rv,hz,⟨nn,pl3⟩,HD3,w3⟩
  have I3p:Inv Y [(s2.heap.objs.size,{cls:=.type "list",data:=.seq its.toArray nn })] (σv++σ) H3 s3:=I3.pins_of fun p hp=>by
   rw[Qal] at hp;subst hp;refine⟨pl3,HD3,?_,fun hm=> ?_,fun v z=>by cases z⟩
   ·rw[←hY];exact hDC
   ·rw[←hY] at hm;exact absurd (frSub _ hm) (Qbs _)
  have pinD:∀p∈[((s2.heap.objs.size:Addr),({cls:=.type "list",data:=.seq its.toArray nn }:Obj))],p.1=s2.heap.objs.size:=fun p hp=>by
   rw[Qal] at hp;rw[hp]
  subst hY;rcases turn i n ys H3 w3 with⟨stop,qn⟩|⟨go,hlt,NN,hNN,step⟩
  ·refine noErr (thn (T.done (Zot X xs Nb scope cl Hp2.objs.size s2 H2 fp) rfl rfl rfl (hc cl Hp2.objs.size s2 H2 fp ⟨_,_,I2,by omega,f2⟩) i _ s3 _ H3 (fun _ _=>False) I3p (fpY fr3 pinD) st3 stop) fun r s4 ⟨hr,I4⟩=> ?_);subst hr;obtain⟨m4,hns4,_⟩:=I4.loc;refine post s2 s4 H2 (upd H3 s2.heap.objs.size (.lst ys)) Hp2.objs.size s2.heap.objs.size m4 I2 (by omega) hns4 (by rw[Zaq (Ne.symm hDC)];exact I4.free) (fun h' sb=> ?_) (qn _ HD3);have pl4:=(I4.pin _ (QaA _ Qah)).1;have up:∀b o,b≠Hp2.objs.size→s4.heap.get? b=some o→h'.get? b=some o:=fun b o hb e=>sb.extBut b o hb e;have base:=I4.base;have HC4:H3 Hp2.objs.size=none:=I4.free;have neC:∀b o,s2.heap.get? b=some o→b≠Hp2.objs.size:=fun b o e=>(below b (Qan e)).1;have neD:∀b o,s2.heap.get? b=some o→b≠s2.heap.objs.size:=fun b o e=>(below b (Qan e)).2
   have hokN:HOk X.prog X.w (upd H3 s2.heap.objs.size (.lst ys)) h':=fun b u e=>by
    by_cases hb:b=s2.heap.objs.size
    ·subst hb;rw[Zad] at e;cases e;exact⟨hz,its,nn,rv,up _ _ hDC pl4⟩
    ·rw[Zaq hb] at e;refine(I4.hok b u e).stay (fun c v hc q=>up c v ?_ q) (fun c q=>by rw[Zaq (Zar q HD3)];exact q) fun c xs q=>by rw[Zaq (Zar q HD3)];exact q
     rcases hc with z|z
     ·rw[z];exact Zar e HC4
     ·exact Zar z HC4
   refine I2.call' (s':={s4 with heap:=h' }) (ch:=fp) I4.os ⟨fun b o e n hb hx'=>up b o (neC b o e) (base.keep b o e n hb hx'),fun b o e n hb hx'=> ?_,fun b o e n hx'=> ?_,fun b o e hx'=> ?_,fun b xs e=> ?_,fun b o u e=> ?_,fun b ps e=> ?_⟩ hokN I4.bare (fun b hb=> ?_)
   ·obtain⟨sl,q⟩:=base.slot b o e n hb hx';exact⟨sl,up b _ (neC b o e) q⟩
   ·rw[Zaq (neD b o e)];exact base.free b o e n hx'
   ·obtain⟨o',q⟩:=base.there b o e hx';exact⟨o',up b o' (neC b o e) q⟩
   ·have q:=base.tups b xs e;rw[Zaq (Zar q HD3)];exact q
   ·have q:=base.frzs b o u e;rw[Zaq (Zar q HD3)];exact q
   ·obtain⟨more,q⟩:=base.tbls b ps e;exact⟨more,by rw[Zaq (Zar q HD3)];exact q⟩
   ·obtain⟨_,g1,_,g3,g4,g5⟩:=f2 b hb;exact⟨g3,g1,g4,g5⟩
  ·refine noErr (thn (T.item (Zot X xs Nb scope cl Hp2.objs.size s2 H2 fp) rfl rfl rfl (hc cl Hp2.objs.size s2 H2 fp ⟨_,_,I2,by omega,f2⟩) i _ s3 _ H3 (fun _ _=>False) I3p (fpY fr3 pinD) st3 go) fun r s4 ⟨u,hr,h4⟩=> ?_);subst hr;refine noErr (thn h4 fun _ s5 ⟨v,H5,I5,r5,y5,st5,fr5⟩=> ?_);have I5':=I5.pinned (fpY fr5 pinD) (T.obj _ _ st5);have stp:=step v H5 σv lv y5;refine(thn (hg cl Hp2.objs.size s2 H2 fp ⟨_,_,I2,by omega,f2⟩ _ s5 _ H5 v u _ I5' r5 stp) fun _ s6 ⟨σ6,H6,I6,⟨pre',e6,l6⟩,stp⟩=> ?_);subst e6
   have again:∀{s7 s8:Shared} {H7:Hp} {zs:List V} {ws:List Value} {m':Nat},Inv (Zot X xs Nb scope cl Hp2.objs.size s2 H2 fp) ([((s2.heap.objs.size:Addr),({cls:=.type "list",data:=.seq its.toArray nn }:Obj))]++Zhp fp s5.heap) (pre'++σ) H7 s7→
     (∃h',s8={s7 with heap:=h' }∧(∀b o,b≠s2.heap.objs.size→s7.heap.get? b=some o→h'.get? b=some o)∧h'.PlainList s2.heap.objs.size ws.toArray)→Zbg zs ws→zs.length≤sizeLine→m'<n→W (i+1) m' zs H7→
     ∃m,m<n∧∃i σv H' ys its,σv.length=xs.length∧Inv (Zot X xs Nb scope cl Hp2.objs.size s2 H2 fp) [] (σv++σ) H' s8∧tn i s8.heap∧(∀b∈fp,H' b=none)∧Zbg ys its∧ys.length≤sizeLine∧s8.heap.PlainList s2.heap.objs.size its.toArray∧H' s2.heap.objs.size=none∧W i m ys H':=by
    rintro s7 s8 H7 zs ws m' I7 ⟨h',rfl,up,plw⟩ rz hzz hm w7;have HD7:H7 s2.heap.objs.size=none:=(I7.pin _ (QaA _ (QaY _ Qah))).2.1
    have fr7:∀b∈fp,H7 b=none:=fun b hb=>by
     obtain⟨o,e,d⟩:=T.obj _ _ st5 b hb;exact(I7.pin (b,o) (QaA _ (QaA _ (Zdj hb e)))).2.1
    have I7':Inv (Zot X xs Nb scope cl Hp2.objs.size s2 H2 fp) [] (pre'++σ) H7 s7:=I7.pins_of fun p hp=>absurd hp (by simp);refine⟨m',hm,i+1,pre',H7,zs,ws,l6,?_,?_,fr7,rz,hzz,plw,HD7,w7⟩
    ·have:=I7'.turned (it:=s2.heap.objs.size) (h':=h') (t':=s7.toks) up HD7 hDC (.inr (Qai _)) (fun y c h1 h2=>absurd (cellLt y c h1) (by rw[h2];exact Qbs _)) (fun p hp=>absurd (show p∈([]:List (Addr×Obj)) from hp) (by simp));exact this
    ·refine T.keep _ _ _ st5 fun b hb o e=>up b o (below b (fpLt b hb)).2 ?_;exact(I7.pin (b,o) (QaA _ (QaA _ (Zdj hb e)))).1
   refine(thn (ht cl Hp2.objs.size s2 H2 fp ⟨_,_,I2,by omega,f2⟩ _ s6 _ H6 _ I6 stp) fun okb s7 ⟨H7,I7,q7⟩=> ?_);have pl7:=(I7.pin _ (QaA _ (QaY _ Qah))).1
   cases okb with
   |false=>
    rw[Qn QaE] at q7⊢;obtain⟨m',hm,w7⟩:=hNN _ _ q7;exact again I7 ⟨s7.heap,rfl,fun _ _ _ e=>e,nn,pl7⟩ rv hz hm w7
   |true=>
    rw[Qp rfl] at q7⊢;refine(thn (he cl Hp2.objs.size s2 H2 fp ⟨_,_,I2,by omega,f2⟩ _ s7 _ H7 _ I7 q7) fun w' s8 ⟨y,H8,I8,r8,q8⟩=> ?_);obtain⟨m',hm,w8⟩:=hNN _ _ q8;have pl8:=(I8.pin _ (QaA _ (QaY _ Qah))).1;refine wpAny_list_append_plain (hsz:=by have:=rv.length;simp only[Qay];omega) ⟨nn,pl8⟩ fun h9 pl9 sb9=> ?_;refine again I8 ⟨h9,rfl,fun b o hb e=>sb9.extBut b o hb e,?_⟩ (rv.append (.cons r8 .nil)) (by rw[Qae,QaJ];omega) hm w8;have e9:its.toArray.push w'=(its++ [w']).toArray:=by simp
    rw[←e9];exact pl9
 refine codeAny_compStart_list (loop _ _ rfl) (noErr (T.self _ 0 _ _ _ (T.keep _ _ _ st2 fun b _ o e=>old b o e) (loop _ _ rfl)))
theorem PG.nox {tg:Expr}{g:TG}(h:PG X.nox tg g):PG X tg g:=fun qa s σ H v u Q I r hw=>
 QbK (h qa s σ H v u Q (I.wish _) r hw) (fun _ _ ⟨σ',H',I',q⟩=>⟨σ',H',I'.unwish,q⟩) fun _ _ z=>False.elim z
theorem PIf.nox {ifs:List Expr}{t:TT}(h:PIf X.nox ifs t):PIf X ifs t:=fun qa s σ H Q I hw=>
 QbK (h qa s σ H Q (I.wish _) hw) (fun _ _ ⟨H',I',q⟩=>⟨H',I'.unwish,q⟩) fun _ _ z=>False.elim z
theorem ZhC {pos:PySem.Pos}
  (hc:X.calm=true) (hi:PI X tg qf wi) (hlen:Nb.length=X.N.length) (hNb:∀p∈Nb.zip X.N,p.1=p.2∨scope.names.lookup p.1=none) (hxN:∀y∈Nb,scope.names.lookup y≠some .local)
  (hg:InB X xs Nb scope fun Y=>PG Y tg g) (ht:InB X xs Nb scope fun Y=>PIf Y ifs tt) (he:InB X xs Nb scope fun Y=>PE Y elt te)
  (qh:∀y∈scope.names,y.2≠ .cell) (qj:scope.kind= .function) (ql:∀y∈scope.names,y.2= .local→scope.names.lookup y.1=some .local)
  (qi:∀y∈scope.names,y.2= .free→X.env.kindOf y.1=some .cell)
  (hs:∀x,foldedSetIterable qf X.env x=pure x) {pos2:PySem.Pos} {use:Option (Value→Sem Unit)} {QQ:Value→Shared→Prop} {qa:List (Addr×Obj)} {s:Shared} {σ:St} {H:Hp} {Q:VK} (I:Inv X qa σ H s) (h:ZbU xs.length wi g tt te σ H Q)
  (post:∀(s2 s4:Shared)(H2 H4:Hp)(C D:Addr)(m4:Str→Option Value),Inv X qa σ H2 s2→s2.heap.objs.size≤C→s4.heap.Ns C m4→H4 C=none→(∀h',Heap.SameBut C s4.heap h'→Inv X qa σ H4 {s4 with heap:=h' })→Q (.ref D) H4→compPost (model X.prog X.w) X.A X.xe use QQ (.ref D) C (.ok .next) s4):
  wpAny (model X.prog X.w) X.A (comprehension (.ListComp elt [⟨tg,qf,ifs,0⟩] scope pos) scope X.env pos2 (newList []) false (eval qf X.env) use) QQ X.xe s:=ZkR (fun _ _ _ _ _ _=>hc) hi hlen hNb hxN (fun cl C s H fp _=>(hg cl C s H fp).nox) (fun cl C s H fp _=>(ht cl C s H fp).nox) (fun cl C s H fp _=>(he cl C s H fp).nox) qh qj ql qi hs I h post
theorem Zbk {pos:PySem.Pos}
  (hc:X.calm=true) (hi:PI X tg qf wi) (hlen:Nb.length=X.N.length) (hNb:∀p∈Nb.zip X.N,p.1=p.2∨scope.names.lookup p.1=none) (hxN:∀y∈Nb,scope.names.lookup y≠some .local)
  (hg:InB X xs Nb scope fun Y=>PG Y tg g) (ht:InB X xs Nb scope fun Y=>PIf Y ifs tt) (he:InB X xs Nb scope fun Y=>PE Y elt te)
  (qh:∀y∈scope.names,y.2≠ .cell) (qj:scope.kind= .function) (ql:∀y∈scope.names,y.2= .local→scope.names.lookup y.1=some .local)
  (qi:∀y∈scope.names,y.2= .free→X.env.kindOf y.1=some .cell)
  (hs:∀x,foldedSetIterable qf X.env x=pure x:=by intro _;rfl):
  PE X (.ListComp elt [⟨tg,qf,ifs,0⟩] scope pos) (ZbU xs.length wi g tt te):=by
 intro qa s σ H Q I h;rw[eval_ListComp];exact ZhC (use:=none) (QQ:=EP X qa σ Q) hc hi hlen hNb hxN hg ht he qh qj ql qi hs I h fun s2 s4 H2 H4 C D m4 _ _ hn _ IX q=>⟨m4,hn,fun h' sb=>⟨.ref D,H4,IX h' sb,rfl,q⟩⟩
theorem Zj5 {pos spos py:PySem.Pos}{y:Str}
  (hg2:PG X (.Name y py) g2) (hsw:swapsWith (.ListComp elt [⟨tg,qf,ifs,0⟩] scope pos) (some (.Name y py)) spos.line X.env=pure true)
  (hc:X.calm=true) (hi:PI X tg qf wi) (hlen:Nb.length=X.N.length) (hNb:∀p∈Nb.zip X.N,p.1=p.2∨scope.names.lookup p.1=none) (hxN:∀y∈Nb,scope.names.lookup y≠some .local)
  (hg:InB X xs Nb scope fun Y=>PG Y tg g) (ht:InB X xs Nb scope fun Y=>PIf Y ifs tt) (he:InB X xs Nb scope fun Y=>PE Y elt te)
  (qh:∀y∈scope.names,y.2≠ .cell) (qj:scope.kind= .function) (ql:∀y∈scope.names,y.2= .local→scope.names.lookup y.1=some .local)
  (qi:∀y∈scope.names,y.2= .free→X.env.kindOf y.1=some .cell)
  (hs:∀x,foldedSetIterable qf X.env x=pure x:=by intro _;rfl):
  PS X (.Assign [.Name y py] (.ListComp elt [⟨tg,qf,ifs,0⟩] scope pos) spos) (ZaW (ZbU xs.length wi g tt te) g2):=by
 intro qa s σ H D I h;rw[exec_Assign_Name_used _ _ _ _ hsw];refine Qaa (Qdu (Qaa ?_));show wpAny (model X.prog X.w) X.A (comprehension (.ListComp elt [⟨tg,qf,ifs,0⟩] scope pos) scope X.env _ (newList []) false (eval qf X.env) (some (assign (.Name y py) X.env))>>=fun _=>pure ()) _ _ s;refine Qaa (QbK (ZhC (use:=some (assign (.Name y py) X.env)) (QQ:=fun _ s'=>SP X qa D .next s') hc hi hlen hNb hxN hg ht he qh qj ql qi hs I h ?_) (fun _ s' hq=>Qak (Qak hq)) fun _ _ e=>e);intro s2 s4 H2 H4 C R m4 I2 hC hn HC IX q;have I4:Inv X qa σ H4 s4:=IX s4.heap (Heap.SameBut.refl _ _);obtain⟨o,es,ep,ho,hd,hn'⟩:=id hn;have hLC:C≠X.env.locals:=fun z=>absurd (QaP I2.lt hC) (by rw[z];exact Qbs _);have hfsC:C∉X.fs:=I2.nofs hC
 have I4p:Inv X ((C,o)::qa) σ H4 s4:=I4.pins_of fun p hp=>by
  rcases Qaw.mp hp with rfl|z
  ·exact⟨ho,HC,hLC,hfsC,fun v z=>by rw[hd] at z;cases z⟩
  ·exact I4.pin p (QaA _ z)
 show wpAny _ X.A (assign (.Name y py) X.env (.ref R)) _ _ s4;refine thn (hg2 _ s4 σ H4 (.ref R) (.ref R) _ I4p rfl q) fun _ s5 ⟨σ5,H5,I5,q5⟩=> ?_;have pC:=I5.pin (C,o) (QaA _ Qah);refine⟨m4,⟨o,es,ep,pC.1,hd,hn'⟩,fun h' sb=>⟨σ5,H5,?_,q5⟩⟩;have I6:Inv X qa σ5 H5 s5:=I5.pins_of fun p hp=>I5.pin p (QaA _ (Qag _ hp))
 exact I6.turned (it:=C) (h':=h') (t':=s5.toks) (fun b o hb e=>sb.extBut b o hb e) pC.2.1 hLC (.inr (QaW I2.sz hC)) (fun y c e z=>by
   obtain⟨v,qq⟩:=I2.cell y c e
   exact absurd (QaP qq.lt hC) (by rw[z];exact Qbs _)) (fun p hp z=>by
   exact absurd (QaP (Qan (I2.pin p hp).1) hC) (by rw[z];exact Qbs _))
theorem ZkS {K:FJ}{k:Nat}{xs:List V}(Pv:Nat→List V→Hp→Prop)(h0:Pv 0 [] H)(hb:xs.length≤1000)(hz:∀i ys H,Pv i ys H→ys.length≤i)(hl:∀i ys H,i≤xs.length→Pv i ys H→SqL K H a xs)
  (hs:∀i x ys H (pre:St),pre.length=k→xs[i]?=some x→Pv i ys H→g x (pre++σ) H fun σ' H2=>(∃pre':St,σ'=pre'++σ∧pre'.length=k)∧tt σ' H2 fun ok H3=>if ok=true then te σ' H3 fun y H4=>Pv (i+1) (ys++ [y]) H4 else Pv (i+1) ys H3) (hd:∀ys H,Pv xs.length ys H→∀D,H D=none→Q (.ref D) (upd H D (.lst ys))):CGo k (Itl K a) g tt te Q σ H:=by
 refine⟨fun i m ys H=>m=xs.length-i∧i≤xs.length∧Pv i ys H,⟨xs.length,by simp,QaS _,h0⟩,?_⟩;rintro i m ys H ⟨rfl,hi,p⟩;have q:=hl i ys H hi p;by_cases hlt:i<xs.length
 ·refine .inr ⟨⟨xs,xs[i],q,by simp[hlt]⟩,QaF (hz i ys H p) (Zba (by omega)),Pv (i+1),fun zs H' p'=>⟨xs.length-(i+1),by omega,rfl,hlt,p'⟩,fun x H' pre hp y=> ?_⟩;obtain⟨e,y⟩:=y;subst e;exact hs i x ys _ pre hp (y xs q) p
 ·have e:i=xs.length:=by omega
  subst e;exact .inl ⟨⟨xs,q,Qai _⟩,hd ys H p⟩
theorem ZtU {K:FJ}{k:Nat}{xs:List V}(Pv:Nat→List V→Hp→Prop)(h0:Pv 0 [] H)(hb:xs.length≤1000)(hz:∀i ys H,Pv i ys H→ys.length≤i)(hl:∀i ys H,i≤xs.length→Pv i ys H→SqT K H a xs)
  (hs:∀i x ys H (pre:St),pre.length=k→xs[i]?=some x→Pv i ys H→g x (pre++σ) H fun σ' H2=>(∃pre':St,σ'=pre'++σ∧pre'.length=k)∧tt σ' H2 fun ok H3=>if ok=true then te σ' H3 fun y H4=>Pv (i+1) (ys++ [y]) H4 else Pv (i+1) ys H3) (hd:∀ys H,Pv xs.length ys H→∀D,H D=none→Q (.ref D) (upd H D (.lst ys))):CGo k (Itt K a) g tt te Q σ H:=by
 refine⟨fun i m ys H=>m=xs.length-i∧i≤xs.length∧Pv i ys H,⟨xs.length,by simp,QaS _,h0⟩,?_⟩;rintro i m ys H ⟨rfl,hi,p⟩;have q:=hl i ys H hi p;by_cases hlt:i<xs.length
 ·refine .inr ⟨⟨xs,xs[i],q,by simp[hlt]⟩,QaF (hz i ys H p) (Zba (by omega)),Pv (i+1),fun zs H' p'=>⟨xs.length-(i+1),by omega,rfl,hlt,p'⟩,fun x H' pre hp y=> ?_⟩;obtain⟨e,y⟩:=y;subst e;exact hs i x ys _ pre hp (y xs q) p
 ·have e:i=xs.length:=by omega
  subst e;exact .inl ⟨⟨xs,q,Qai _⟩,hd ys H p⟩
theorem Zou {k:Nat}{lo:Int}(Pv:Nat→List V→Hp→Prop)(h0:Pv 0 [] H)(hb:n≤1000)(hz:∀i ys H,Pv i ys H→ys.length≤i)
  (hs:∀(i:Nat) ys H (pre:St),pre.length=k→i<n→Pv i ys H→g (.int (lo+i)) (pre++σ) H fun σ' H2=>(∃pre':St,σ'=pre'++σ∧pre'.length=k)∧tt σ' H2 fun ok H3=>if ok=true then te σ' H3 fun y H4=>Pv (i+1) (ys++ [y]) H4 else Pv (i+1) ys H3) (hd:∀ys H,Pv n ys H→∀D,H D=none→Q (.ref D) (upd H D (.lst ys))):CGo k (Itr lo n) g tt te Q σ H:=by
 refine⟨fun i m ys H=>m=n-i∧i≤n∧Pv i ys H,⟨n,by simp,QaS _,h0⟩,?_⟩;rintro i m ys H ⟨rfl,hi,p⟩;by_cases hlt:i<n
 ·refine .inr ⟨hlt,QaF (hz i ys H p) (Zba (by omega)),Pv (i+1),fun zs H' p'=>⟨n-(i+1),by omega,rfl,hlt,p'⟩,fun x H' pre hp y=> ?_⟩;obtain⟨e,y⟩:=y;subst e y;exact hs i ys _ pre hp hlt p
 ·have e:i=n:=by omega
  subst e;exact .inl ⟨Qai _,hd ys H p⟩
theorem ZcF {K:FJ}{k:Nat}{t:TGs}{pos:PySem.Pos}(hc:X.calm=true)(h:PGs X es t)(hK:X.K=K:=by rfl)
  (hn:(assignEach es X.env).length=n:=by rfl) (hst:(assignEach es X.env).findIdx? (·.1)=none:=by rfl):PG X (.Tuple es k pos) (Zcp K n t):=by
 subst hK;exact ZaY hc h hn hst
def dT (ns:List Int):PyData:=.tuple (ns.map .int)
def dE (e:Int×List Int):PyData:=.tuple [.int e.1,dT e.2]
def dL (L:List (Int×List Int)):PyData:=.list (L.map dE)
theorem ZeX:∀ns ms:List Int,PyData.eqvAll (ns.map .int) (ms.map .int)=decide (ns=ms)
 | [],[]=>rfl
 | [],_::_=>rfl
 |_::_,[]=>rfl
 |n::ns,m::ms=>by
  show(PyData.eqv (.int n) (.int m) && PyData.eqvAll (ns.map .int) (ms.map .int))=_;rw[ZeX ns ms];show((n==m) && _)=_;by_cases h:n=m
  ·subst h;by_cases h2:ns=ms<;>simp[h2]
  ·simp[h]
theorem Zmf (ns ms:List Int):PyData.eqv (dT ns) (dT ms)=decide (ns=ms):=ZeX ns ms
theorem Zsk (a b:Int×List Int):PyData.eqv (dE a) (dE b)=decide (a=b):=by
 show((a.1==b.1) && (PyData.eqv (dT a.2) (dT b.2) && true))=_;rw[Zmf];obtain⟨a1,a2⟩:=a;obtain⟨b1,b2⟩:=b;by_cases h:a1=b1
 ·subst h;by_cases h2:a2=b2<;>simp[h2]
 ·simp[h]
theorem ZhD:∀L M:List (Int×List Int),PyData.eqvAll (L.map dE) (M.map dE)=decide (L=M)
 | [],[]=>rfl
 | [],_::_=>rfl
 |_::_,[]=>rfl
 |a::L,b::M=>by
  show(PyData.eqv (dE a) (dE b) && PyData.eqvAll (L.map dE) (M.map dE))=_;rw[ZhD L M,Zsk];by_cases h:a=b
  ·subst h;by_cases h2:L=M<;>simp[h2]
  ·simp[h]
theorem Zsl (L M:List (Int×List Int)):PyData.eqv (dL L) (dL M)=decide (L=M):=ZhD L M
theorem Zj6:∀ns:List Int,PyData.canLayAll0 (ns.map .int)=true
 | []=>rfl
 |_::ns=>by show(true && _)=true;rw[Zj6 ns];rfl
theorem ZfQ (ns:List Int):(dT ns).canLay0=true:=Zj6 ns
theorem Zsm (e:Int×List Int):(dE e).canLay0=true:=by show(true && ((dT e.2).canLay0 && true))=true;rw[ZfQ];rfl
theorem Zmg:∀L:List (Int×List Int),PyData.canLayAll0 (L.map dE)=true
 | []=>rfl
 |e::L=>by show((dE e).canLay0 && _)=true;rw[Zsm,Zmg L];rfl
theorem Zmh (L:List (Int×List Int)):(dL L).canLay0=true:=Zmg L
theorem Zj7:∀ns:List Int,PyData.depthAll (ns.map .int)=0
 | []=>rfl
 |_::ns=>by show max 0 _=0;rw[Zj7 ns];rfl
theorem Zj8 (ns:List Int):(dT ns).depth=1:=by show PyData.depthAll _+1=1;rw[Zj7]
theorem Zsn (e:Int×List Int):(dE e).depth=2:=by show max 0 (max (dT e.2).depth 0)+1=2;rw[Zj8];rfl
theorem ZiH:∀L:List (Int×List Int),PyData.depthAll (L.map dE)≤2
 | []=>QaS _
 |e::L=>by show max (dE e).depth _≤2;rw[Zsn];have:=ZiH L;omega
theorem Zso (L:List (Int×List Int)):(dL L).depth≤60:=by show PyData.depthAll _+1≤60;have:=ZiH L;omega
def Za7 (H H':Hp):Prop:=∀b ys,H b=some (.tup ys)→H' b=some (.tup ys)
theorem Za7.refl (H:Hp):Za7 H H:=fun _ _ h=>h
theorem Za7.trans (a:Za7 H H1)(b:Za7 H1 H2):Za7 H H2:=fun c y h=>b c y (a c y h)
theorem Za7.new {p:Addr}{o:HO}(a:Za7 H H1)(h:H1 p=none):Za7 H (upd H1 p o):=fun c y e=>by
 have:=a c y e;rw[Zaq (Zar this h)];exact this
theorem Za7.lst {H H1:Hp}{p:Addr}{xs ys:List V}(a:Za7 H H1)(h:H1 p=some (.lst xs)):Za7 H (upd H1 p (.lst ys)):=fun c y e=>by
 have:=a c y e;have hn:c≠p:=fun z=>by rw[z,h] at this;cases this
 rw[Zaq hn];exact this
theorem Zam.tups (s:Zam H H'):Za7 H H':=fun b ys e=>s b _ e
def Sh (H:Hp)(x:V)(e:Int×List Int):Prop:=∃p w,x= .ref p∧H p=some (.tup [.int e.1,.ref w])∧H w=some (.tup (e.2.map V.int))
def Wg (H:Hp)(xs:List V)(L:List (Int×List Int)):Prop:=xs.length=L.length∧∀(i:Nat)(x:V)(e:Int×List Int),xs[i]?=some x→L[i]?=some e→Sh H x e
theorem Sh.up {x:V}(h:Sh H x e)(t:Za7 H H'):Sh H' x e:=by
 obtain⟨p,w,rfl,h1,h2⟩:=h;exact⟨p,w,rfl,t _ _ h1,t _ _ h2⟩
theorem Wg.up {H H':Hp}{xs:List V}{L:List (Int×List Int)}(h:Wg H xs L)(t:Za7 H H'):Wg H' xs L:=⟨h.1,fun i x e h1 h2=>(h.2 i x e h1 h2).up t⟩
theorem Wg.nil (H:Hp):Wg H [] []:=⟨rfl,fun i x e h _=>by cases h⟩
theorem Wg.snoc {xs:List V}{x:V}(h:Wg H xs L)(s:Sh H x e):Wg H (xs++ [x]) (L++ [e]):=by
 refine⟨by simp[h.1],fun i y d h1 h2=> ?_⟩;by_cases hi:i<xs.length
 ·rw[Qas hi] at h1;rw[Qas (by rw[←h.1];exact hi)] at h2;exact h.2 i y d h1 h2
 ·have hl:i<(xs++ [x]).length:=(Qab.mp h1).1;rw[Qae,QaJ] at hl;have e0:i=xs.length:=by omega
  subst e0;rw[Qaq (Qai _),QcJ] at h1;rw[Qaq (by rw[h.1];exact Qai _),h.1,QcJ] at h2;cases h1;cases h2;exact s
theorem Wg.get {xs:List V}(h:Wg H xs L)(he:L[i]?=some e):∃x,xs[i]?=some x∧Sh H x e:=by
 have hi:i<xs.length:=by rw[h.1];exact(Qab.mp he).1
 exact⟨xs[i],Qad hi,h.2 i _ e (Qad hi) he⟩
theorem Wg.at' {xs:List V}{x:V}(h:Wg H xs L)(he:xs[i]?=some x):∃e,L[i]?=some e∧Sh H x e:=by
 have hi:i<L.length:=by rw[←h.1];exact(Qab.mp he).1
 exact⟨L[i],Qad hi,h.2 i _ _ he (Qad hi)⟩
theorem Wg.pop {xs:List V}(h:Wg H xs L):Wg H xs.dropLast L.dropLast:=by
 refine⟨by rw[QbY,QbY,h.1],fun i x e h1 h2=> ?_⟩;rw[List.getElem?_dropLast] at h1 h2;split at h1
 ·split at h2
  ·exact h.2 i x e h1 h2
  ·cases h2
 ·cases h1
theorem Zd3 {K:FJ}{w:Addr}(h:H w=some (.tup (ns.map V.int))):DI K H (.ref w) (dT ns):=by
 refine .tup (SqT.of h) (by simp) fun i x d h1 h2=> ?_;rw[Qao] at h1 h2
 cases z:ns[i]? with
 |none=>rw[z] at h1;cases h1
 |some n=>
  rw[z] at h1 h2;cases h1;cases h2;exact .int _
theorem Sh.di {K:FJ}{x:V}(h:Sh H x e):DI K H x (dE e):=by
 obtain⟨p,w,rfl,h1,h2⟩:=h;refine .tup (SqT.of h1) rfl fun i y d a b=> ?_;rcases i with _|_|i
 ·cases a;cases b;exact .int _
 ·cases a;cases b;exact Zd3 h2
 ·cases a
theorem Wg.di {K:FJ}{H:Hp}{a:Addr}{xs:List V}{L:List (Int×List Int)}(h:Wg H xs L)(ha:SqL K H a xs):DI K H (.ref a) (dL L):=by
 refine .lst ha (by rw[Qaf];exact h.1) fun i x d h1 h2=> ?_;rw[Qao] at h2
 cases z:L[i]? with
 |none=>rw[z] at h2;cases h2
 |some e=>
  rw[z] at h2;cases h2;exact(h.2 i x e h1 z).di
theorem Zsp {K:FJ}(ha:SqL K H a []):DI K H (.ref a) (dL []):=.lst ha rfl fun i x d h1 _=>by cases h1
def ZaV (acc:List (Int×List Int))(e:Int×List Int):List (Int×List Int):=
 if 0<e.1 then match acc.getLast? with
  |some l=>if l.2=e.2 then acc.dropLast++ [(e.1+l.1,e.2)] else acc++ [e]
  |none=>acc++ [e]
 else acc
def ZaM (L:List (Int×List Int)):List (Int×List Int):=L.foldl ZaV []
def tot (L:List (Int×List Int)):Int:=(L.map (·.1)).sum
theorem ZaI:tot []=0:=rfl
theorem ZaD (e:Int×List Int)(L:List (Int×List Int)):tot (e::L)=e.1+tot L:=by unfold tot;simp
theorem ZaZ (L M:List (Int×List Int)):tot (L++M)=tot L+tot M:=by unfold tot;simp
theorem ZaJ {α:Type}{L:List α}{e:α}(h:L[i]?=some e):L.take (i+1)=L.take i++ [e]:=by
 rw[List.take_add_one,h];rfl
theorem ZcQ (h:L[i]?=some e):tot (L.take (i+1))=tot (L.take i)+e.1:=by
 rw[ZaJ h,ZaZ,ZaD,ZaI];omega
theorem ZbP (h:L[i]?=some e):ZaM (L.take (i+1))=ZaV (ZaM (L.take i)) e:=by
 unfold ZaM;rw[ZaJ h,Qd1];rfl
theorem Zcv {α:Type}{L:List α}{l:α}(h:L.getLast?=some l):L=L.dropLast++ [l]:=by
 have hne:L≠ []:=by intro z;rw[z] at h;cases h
 rw[Qdj hne] at h;cases h;exact(List.dropLast_concat_getLast hne).symm
theorem Zov (h:∀e∈L,0<e.1):∀{i j:Nat},i≤j→tot (L.take i)≤tot (L.take j):=by
 intro i j hij
 induction hij with
 |refl=>exact QaL _
 |step _ ih=>
  rename_i m _
  cases z:L[m]? with
  |none=>
   rw[Qbx (QaW (Qbl.mp z) (Qea m))];rw[Qbx (Qbl.mp z)] at ih;exact ih
  |some e=>
   rw[ZcQ z]
   have:=h e (Qav z);omega
theorem ZkT (h:∀e∈L,0<e.1)(i:Nat):0≤tot (L.take i):=by
 have:=Zov h (QaS i);rw[Qct,ZaI] at this;exact this
theorem ZeY (ns:List Int):∀n,preSum (fun i=>ns.getD i 0) n=(ns.take n).sum
 |0=>rfl
 |n+1=>by
  show preSum _ n+ns.getD n 0=_;rw[ZeY ns n,List.take_add_one,Qaz]
  cases ns[n]? with
  |none=>simp
  |some z=>simp
theorem Zj9 (hc:X.calm=true):Zcq X (.builtin "sum") (fun xs H Q=>∃(p:Addr)(ns:List Int),xs=[.ref p]∧SqL X.K H p (ns.map V.int)∧Q (.int ns.sum) H):=by
 intro qa s σ H xs us Q I r h;obtain⟨p,ns,rfl,hq,q⟩:=h;obtain⟨u,rfl,rx⟩:=Zc8 r;cases rx;obtain⟨its,rv,pl,hz⟩:=I.list hq
 have hlt:p<s.heap.objs.size:=by
  obtain⟨o,e,_⟩:=pl.isList;exact Qan e
 have hlen:its.length=ns.length:=by have:=rv.length;rw[Qaf] at this;exact this.symm
 refine call_sum_walkAnyS (Qda pl.isList ?_);refine⟨_,_,_,_,_,_,_,fun i=>ns.getD i 0,rfl,(QeU (A:=X.A.in1) (I.ok.hd hc) s.heap.objs.size p (QaM hlt) its.toArray).toS,?_,?_,?_,fun s' t' hm=> ?_⟩
 ·exact⟨⟨_,Qat _ rfl,rfl,rfl⟩,(let⟨o,e,c⟩:=pl.isList;⟨o,Qac _ e,c⟩)⟩
 ·intro b hb;simp at hb;rcases hb with rfl|rfl
  ·simp[Qbk]
  ·rw[Qbk];exact Qb0 hlt
 ·intro i v hP;have hv:its[i]?=some v:=by simpa using hP
  have hil:i<ns.length:=by rw[←hlen];exact(Qab.mp hv).1
  obtain⟨u,e,ru⟩:=rv.get (x:=V.int (ns.getD i 0)) (i:=i) (by rw[Qao,Qad hil,Qaz,Qad hil];rfl);rw[hv] at e;cases e;exact ru
 ·have e:preSum (fun i=>ns.getD i 0) its.toArray.size=ns.sum:=by
   rw[Qay,hlen,ZeY,Qa3]
  rw[e];obtain⟨hk,hg,hd,ho,ht⟩:=hm;refine⟨.int _,H,?_,⟨t',rfl⟩,q⟩
  have es:s'={s with heap:=s'.heap,toks:=s'.toks }:=by
   cases s';simp_all
  rw[es];exact I.kept fun b o eb=>hk b o (by simp;exact QaM (Qan eb)) (Qac _ eb)
def ZbG:List (Int×List Int)→Prop
 | []=>True
 | [e]=>0<e.1
 |e::d::r=>0<e.1∧e.2≠d.2∧ZbG (d::r)
theorem ZbG.snoc:∀{L:List (Int×List Int)} {e:Int×List Int},ZbG L→0<e.1→(∀l,L.getLast?=some l→l.2≠e.2)→ZbG (L++ [e])
 | [],e,_,h,_=>h
 | [d],e,hd,h,k=>⟨hd,k d rfl,h⟩
 |d::d'::r,e,hd,h,k=>by
  refine⟨hd.1,hd.2.1,?_⟩;exact ZbG.snoc (L:=d'::r) hd.2.2 h fun l hl=>k l (by rw[Qed];exact hl)
theorem ZbG.init:∀{L:List (Int×List Int)} {e:Int×List Int},ZbG (L++ [e])→ZbG L∧0<e.1∧∀l,L.getLast?=some l→l.2≠e.2
 | [],e,h=>⟨trivial,h,fun l z=>by cases z⟩
 | [d],e,h=>⟨h.1,h.2.2,fun l z=>by cases z;exact h.2.1⟩
 |d::d'::r,e,h=>by
  obtain⟨a,b,c⟩:=ZbG.init (L:=d'::r) h.2.2;exact⟨⟨h.1,h.2.1,a⟩,b,fun l z=>c l (by rw[Qed] at z;exact z)⟩
theorem ZbG.pos:∀{L:List (Int×List Int)},ZbG L→∀e∈L,0<e.1
 | [],_,e,h=>by cases h
 | [d],hd,e,h=>by rw[Qal] at h;subst h;exact hd
 |d::d'::r,hd,e,h=>by
  rcases Qaw.mp h with z|z
  ·subst z;exact hd.1
  ·exact ZbG.pos (L:=d'::r) hd.2.2 e z
theorem ZiI {acc:List (Int×List Int)}(h:ZbG acc):ZbG (ZaV acc e):=by
 unfold ZaV;split
 ·rename_i hp;split
  ·rename_i l hl;have e0:=Zcv hl;split
   ·rename_i he;rw[e0] at h;obtain⟨a,b,c⟩:=h.init;refine a.snoc (by show 0<e.1+l.1;omega) fun d hd=> ?_
    have:=c d hd;rw[he] at this;exact this
   ·rename_i he;exact h.snoc hp fun d hd=>by rw[hl] at hd;cases hd;exact he
  ·rename_i hl;exact h.snoc hp fun d hd=>by rw[hl] at hd;cases hd
 ·exact h
theorem ZbQ (L:List (Int×List Int)):ZbG (ZaM L):=by
 have key:∀(L acc:List (Int×List Int)),ZbG acc→ZbG (L.foldl ZaV acc):=by
  intro L
  induction L with
  |nil=>intro acc h;exact h
  |cons e L ih=>intro acc h;rw[QbX];exact ih _ (ZiI h)
 exact key L [] trivial
theorem Zge (h:ZbG L):ZaM L=L:=by
 have key:∀n,n≤L.length→ZaM (L.take n)=L.take n∧ZbG (L.take n):=by
  have dec:∀m,m≤L.length→ZbG (L.take (L.length-m)):=by
   intro m
   induction m with
   |zero=>intro _;rw[QeB,Qa3];exact h
   |succ m ih=>
    intro hm;have h1:=ih (by omega);have e:L.length-m=(L.length-(m+1))+1:=by omega
    rw[e,ZaJ (Qad (by omega:L.length-(m+1)<L.length))] at h1;exact h1.init.1
  intro n hn;have nm:ZbG (L.take n):=by have:=dec (L.length-n) (by omega);rwa [show L.length-(L.length-n)=n by omega] at this
  refine⟨?_,nm⟩
  induction n with
  |zero=>rfl
  |succ n ih=>
   have hlt:n<L.length:=by omega
   have e1:=Qad hlt;have nm2:=nm;rw[ZaJ e1] at nm2;obtain⟨a,b,c⟩:=nm2.init;rw[ZbP e1,ih (by omega) a,ZaJ e1];unfold ZaV;rw[Qp b]
   cases hl:(L.take n).getLast? with
   |none=>rfl
   |some l=>dsimp only;rw[Qn (c l hl)]
 have:=(key L.length (Qai _)).1;rw[Qa3] at this;exact this
theorem Zdl {α:Type}{L:List α}{l v:α}(h:L.getLast?=some l):L.set (L.length-1) v=L.dropLast++ [v]:=by
 have e:=Zcv h;have hl:L.length-1=L.dropLast.length:=by rw[QbY]
 rw[hl]
 conv=>lhs;rw[e]
 rw[List.dropLast_concat,List.set_append_right _ _ (Qai _),QcJ];rfl
theorem Zbg.rev {xs:List V}{us:List Value}(r:Zbg xs us):Zbg xs.reverse us.reverse:=by
 induction r with
 |nil=>exact .nil
 |cons a b ih=>rw[Qd2,Qd2];exact ih.append (.cons a .nil)
def ZuK (K:FJ)(te:TE)(tk:TO):TE:=fun σ H Q=>te σ H fun x H1=>tk σ H1 fun k H2=>k=some (-1)∧∃a xs,x= .ref a∧SqL K H2 a xs∧∀p,H2 p=none→Q (.ref p) (upd H2 p (.lst xs.reverse))
theorem Zsq {e:Expr}{st:Option Expr}{tk:TO}{pos p2:PySem.Pos}(he:PE X e te)(hk:PO X st tk)(hsub:∀a b:Addr,subscripted (.Slice none none st p2) false (.ref a) (.ref b)=operate [.ref a,.ref b] (getItem (.ref a) (.ref b)):=by intro _ _;with_unfolding_all rfl):PE X (.Subscript e (.Slice none none st p2) pos) (ZuK X.K te tk):=by
 intro qa s σ H Q I h;refine QeT (thn (he qa s σ H _ I h) fun v s1 ⟨x,H1,I1,r1,q1⟩=> ?_);refine wpAny_Slice ?_;rw[QeQ];refine Qak (Qak (thn (hk qa s1 σ H1 _ I1 q1) fun vk s3 ⟨k,H3,I3,pk,q3⟩=> ?_));obtain⟨rfl,a,xs,rfl,hx,q⟩:=q3;cases r1;have I4:Inv X qa σ H3 {s3 with heap:=s3.heap.push {cls:=.type "slice",data:=.fields #[.none,.none,vk] } }:=I3.kept (t':=s3.toks) fun b ob z=>Qac _ z;obtain⟨its,r,ht,hz⟩:=I4.list hx;have hlen:=r.length;show wpAny (model X.prog X.w) X.A (subscriptTail e (.Slice none none st p2) (.ref a) (.ref s3.heap.objs.size)) (EP X qa σ Q) X.xe {s3 with heap:=s3.heap.push {cls:=.type "slice",data:=.fields #[.none,.none,vk] } };refine tail_any (ops:=[.ref a,.ref s3.heap.objs.size]) ht.isList.typeIs slot_list_getitem.lookup ?_ (hsub _ _);refine QdZ ht.isList (Heap.IsSliceOf.new ..) .none .none pk (by simp) ?_ (by rw[Qay]<;>omega);rw[PySem.W.krv_pick];refine⟨.ref _,_,I4.laid (t':=s3.toks) (o:=.lst xs.reverse) (fun b ob z=>Qac _ z) (Qai _) ?_,rfl,q _ (I4.hok.fresh (Qai _))⟩;exact⟨by rw[QcA];exact hz,its.reverse,0,Zbg.rev r,Qat _ rfl⟩
abbrev WL:=List (Int×List Int)
def mn (i j:Int):Int:=if j<i then j else i
def mx (i j:Int):Int:=if j>i then j else i
theorem ZiJ (i j:Int):mn i j≤i∧mn i j≤j∧(mn i j=i∨mn i j=j):=by unfold mn;split<;>omega
theorem ZtV (i j:Int):i≤mx i j∧j≤mx i j∧(mx i j=i∨mx i j=j):=by unfold mx;split<;>omega
def Zce (b e o m:Int)(w:List Int):WL:=if o<e∧b<o+m then [(mn (o+m) e-mx o b,w)] else []
def Zcf (b e:Int):Int→WL→WL
 |_,[]=>[]
 |o,x::r=>Zce b e o x.1 x.2++Zcf b e (o+x.1) r
def Zbh:Int→WL→WL
 |_,[]=>[]
 |rm,x::r=>(if 0<rm then [(mn x.1 rm,x.2)] else [])++Zbh (rm-mn x.1 rm) r
def ZbH:Int→WL→WL
 |_,[]=>[]
 |a,x::r=>if a≤0 then x::r else if a<x.1 then(x.1-a,x.2)::r else ZbH (a-x.1) r
def Pos (L:WL):Prop:=∀e∈L,0<e.1
theorem Pos.tail {x:Int×List Int}{r:WL}(h:Pos (x::r)):0<x.1∧Pos r:=⟨h x Qah,fun e he=>h e (Qag _ he)⟩
theorem ZhE (b e:Int):∀(M:WL)(o:Int)(x:Int×List Int),Zcf b e o (M++ [x])=Zcf b e o M++Zce b e (o+tot M) x.1 x.2
 | [],o,x=>by
  show Zce b e o x.1 x.2++ []=[]++Zce b e (o+tot []) x.1 x.2;rw[ZaI,QbB,Qa5,Qb6]
 |y::M,o,x=>by
  show Zce b e o y.1 y.2++Zcf b e (o+y.1) (M++ [x])=(Zce b e o y.1 y.2++Zcf b e (o+y.1) M)++Zce b e (o+tot (y::M)) x.1 x.2;rw[ZhE b e M (o+y.1) x,ZaD,Qa7,Int.add_assoc]
theorem Zmi (b e o m:Int)(w:List Int):(Zce b e o m w).length≤1:=by unfold Zce;split<;>simp
theorem ZcR (b e:Int):∀(L:WL)(o:Int),(Zcf b e o L).length≤L.length
 | [],_=>Qai _
 |x::r,o=>by
  show(Zce b e o x.1 x.2++Zcf b e (o+x.1) r).length≤r.length+1;rw[Qae]
  have:=Zmi b e o x.1 x.2
  have:=ZcR b e r (o+x.1);omega
theorem ZbI:∀{R:WL} {rm:Int},Pos R→rm≤0→Zbh rm R=[]
 | [],_,_,_=>rfl
 |x::r,rm,h,h0=>by
  obtain⟨hx,hr⟩:=h.tail;show(if 0<rm then [(mn x.1 rm,x.2)] else [])++Zbh (rm-mn x.1 rm) r=[];rw[Qn (by omega),Qb6]
  have:=ZiJ x.1 rm;exact ZbI hr (by omega)
theorem ZeZ {b e:Int}:∀{R:WL} {o:Int},Pos R→b≤o→Zcf b e o R=Zbh (e-o) R
 | [],_,_,_=>rfl
 |x::r,o,h,hb=>by
  obtain⟨hx,hr⟩:=h.tail;show Zce b e o x.1 x.2++Zcf b e (o+x.1) r=(if 0<e-o then [(mn x.1 (e-o),x.2)] else [])++Zbh (e-o-mn x.1 (e-o)) r;rw[ZeZ hr (by omega)];unfold Zce mn mx;by_cases h1:o<e
  ·rw[Qp (show o<e∧b<o+x.1 from⟨h1,by omega⟩),Qp (show 0<e-o by omega),Qn (show ¬b>o by omega)];by_cases h2:e<o+x.1
   ·rw[Qp h2,Qp (show e-o<x.1 by omega),ZbI hr (by omega),ZbI hr (by omega)]
   ·rw[Qn h2,Qn (show ¬e-o<x.1 by omega)];rw[show o+x.1-o=x.1 by omega,show e-(o+x.1)=e-o-x.1 by omega]
  ·rw[Qn (show ¬(o<e∧b<o+x.1) by omega),Qn (show ¬0<e-o by omega),Qp (show e-o<x.1 by omega),ZbI hr (by omega),ZbI hr (by omega)]
def Zmj (e:Int×List Int):Bool:=decide (0<e.1)
theorem Ze0:∀{R:WL} {rm:Int},Pos R→Pos (Zbh rm R)
 | [],_,_=>fun e he=>by cases he
 |x::r,rm,h=>by
  obtain⟨hx,hr⟩:=h.tail;intro e he;have he:e∈(if 0<rm then [(mn x.1 rm,x.2)] else [])++Zbh (rm-mn x.1 rm) r:=he;rcases Qap.mp he with z|z
  ·split at z
   ·rw[Qal] at z;subst z
    have:=ZiJ x.1 rm;show 0<mn x.1 rm;omega
   ·cases z
  ·exact Ze0 hr e z
theorem ZfR {L:WL}(h:Pos L):L.filter Zmj=L:=List.filter_eq_self.mpr fun e he=>Qam (h e he)
theorem ZhF {b e:Int}(hbe:b≤e):∀{R:WL} {o:Int},Pos R→o≤b→(Zcf b e o R).filter Zmj=Zbh (e-b) (ZbH (b-o) R)
 | [],_,_,_=>rfl
 |x::r,o,h,hb=>by
  obtain⟨hx,hr⟩:=h.tail;by_cases h0:o=b
  ·subst h0;rw[ZeZ h (QaL _),ZfR (Ze0 h)];show _=Zbh (e-o) (if o-o≤0 then x::r else _);rw[Qp (by omega)]
  ·show(Zce b e o x.1 x.2++Zcf b e (o+x.1) r).filter Zmj=Zbh (e-b) (if b-o≤0 then x::r else if b-o<x.1 then(x.1-(b-o),x.2)::r else ZbH (b-o-x.1) r);rw[Qn (by omega)];by_cases h1:b-o<x.1
   ·rw[Qp h1,Qcq,ZeZ hr (by omega),ZfR (Ze0 hr)];show _=(if 0<e-b then [(mn (x.1-(b-o)) (e-b),x.2)] else [])++Zbh (e-b-mn (x.1-(b-o)) (e-b)) r;unfold Zce mn mx;rw[Qp (show o<e∧b<o+x.1 from⟨by omega,by omega⟩),Qp (show b>o by omega)];by_cases h2:b<e
    ·rw[Qp (show 0<e-b by omega)];by_cases h3:e<o+x.1
     ·rw[Qp h3,Qp (show e-b<x.1-(b-o) by omega),ZbI hr (by omega),ZbI hr (by omega)];rw[Qbb (by unfold Zmj;exact Qam (by show 0<e-b;omega))];rfl
     ·rw[Qn h3,Qn (show ¬e-b<x.1-(b-o) by omega)];rw[Qbb (by unfold Zmj;exact Qam (by show 0<o+x.1-b;omega))];rw[show o+x.1-b=x.1-(b-o) by omega,show e-(o+x.1)=e-b-(x.1-(b-o)) by omega];rfl
    ·rw[Qn (show ¬0<e-b by omega),Qp (show e<o+x.1 by omega),Qp (show e-b<x.1-(b-o) by omega),ZbI hr (by omega),ZbI hr (by omega)];rw[QbG (by unfold Zmj;simp;omega)];rfl
   ·rw[Qn h1];have hp:Zce b e o x.1 x.2=[]:=by unfold Zce;rw[Qn (by omega)]
    rw[hp,Qb6,ZhF hbe hr (by omega),show b-(o+x.1)=b-o-x.1 by omega]
theorem ZhG (L:WL):ZaM (L.filter Zmj)=ZaM L:=by
 have key:∀(L acc:WL),(L.filter Zmj).foldl ZaV acc=L.foldl ZaV acc:=by
  intro L
  induction L with
  |nil=>intro acc;rfl
  |cons x L ih=>
   intro acc;by_cases h:0<x.1
   ·rw[Qbb (p:=Zmj) (Qam h),QbX,QbX,ih]
   ·rw[QbG (p:=Zmj) (by unfold Zmj;simpa using h),QbX,ih]
    have:ZaV acc x=acc:=by unfold ZaV;rw[Qn h]
    rw[this]
 exact key L []
theorem ZbG.tl {x:Int×List Int}{r:WL}(h:ZbG (x::r)):0<x.1∧ZbG r∧∀y r',r=y::r'→x.2≠y.2:=by
 cases r with
 |nil=>exact⟨h,trivial,fun y r' z=>by cases z⟩
 |cons y r=>exact⟨h.1,h.2.2,fun z r' e=>by cases e;exact h.2.1⟩
theorem ZbG.mk {x:Int×List Int}{r:WL}(h0:0<x.1)(h1:ZbG r)(h2:∀y r',r=y::r'→x.2≠y.2):ZbG (x::r):=by
 cases r with
 |nil=>exact h0
 |cons y r=>exact⟨h0,h2 y r rfl,h1⟩
theorem Zbx:∀{L:WL} {a:Int},ZbG L→ZbG (ZbH a L)
 | [],_,_=>trivial
 |x::r,a,h=>by
  show ZbG (if a≤0 then x::r else if a<x.1 then(x.1-a,x.2)::r else ZbH (a-x.1) r);obtain⟨h0,h1,h2⟩:=h.tl;split
  ·exact h
  ·split
   ·exact ZbG.mk (by show 0<x.1-a;omega) h1 h2
   ·exact Zbx h1
theorem ZkU {R:WL}{rm:Int}{y:Int×List Int}{t:WL}(hp:Pos R)(h:Zbh rm R=y::t):∃x r,R=x::r∧x.2=y.2:=by
 cases R with
 |nil=>cases h
 |cons x r=>
  obtain⟨hx,hr⟩:=hp.tail;refine⟨x,r,rfl,?_⟩;have h:(if 0<rm then [(mn x.1 rm,x.2)] else [])++Zbh (rm-mn x.1 rm) r=y::t:=h;by_cases h0:0<rm
  ·rw[Qp h0] at h;cases h;rfl
  ·have:=ZiJ x.1 rm;rw[Qn h0,Qb6,ZbI hr (by omega)] at h;cases h
theorem Zcg:∀{R:WL} {rm:Int},ZbG R→ZbG (Zbh rm R)
 | [],_,_=>trivial
 |x::r,rm,h=>by
  obtain⟨h0,h1,h2⟩:=h.tl;have hp:Pos r:=h1.pos;show ZbG ((if 0<rm then [(mn x.1 rm,x.2)] else [])++Zbh (rm-mn x.1 rm) r);by_cases h3:0<rm
  ·rw[Qp h3]
   have:=ZiJ x.1 rm;refine ZbG.mk (x:=(mn x.1 rm,x.2)) (r:=Zbh (rm-mn x.1 rm) r) (by show 0<mn x.1 rm;omega) (Zcg h1) fun y t e=> ?_;obtain⟨x',r',e1,e2⟩:=ZkU hp e
   have:=h2 x' r' e1;rw[e2] at this;exact this
  ·rw[Qn h3];exact Zcg h1
theorem Zgf {L:WL}{b e:Int}(h:ZbG L)(h0:0≤b)(hbe:b≤e):ZaM (Zcf b e 0 L)=Zbh (e-b) (ZbH b L):=by
 rw[←ZhG,ZhF hbe h.pos h0,Qde];exact Zge (Zcg (Zbx h))
theorem ZhH:∀{L:WL},Pos L→Zbh (tot L) L=L
 | [],_=>rfl
 |x::r,h=>by
  obtain⟨hx,hr⟩:=h.tail;have ht:0≤tot r:=by have:=ZkT hr r.length;rw[Qa3] at this;exact this
  show(if 0<tot (x::r) then [(mn x.1 (tot (x::r)),x.2)] else [])++Zbh (tot (x::r)-mn x.1 (tot (x::r))) r=x::r;rw[ZaD];unfold mn;rw[Qp (by omega),Qn (by omega),show x.1+tot r-x.1=tot r by omega,ZhH hr];rfl
theorem Zmk {b e:Int}(hbe:b≤e):∀{L:WL} {o:Int},Pos L→∀d∈Zcf b e o L,0≤d.1
 | [],_,_,d,hd=>by cases hd
 |x::r,o,h,d,hd=>by
  obtain⟨hx,hr⟩:=h.tail;have hd:d∈Zce b e o x.1 x.2++Zcf b e (o+x.1) r:=hd;rcases Qap.mp hd with z|z
  ·unfold Zce at z;split at z
   ·rename_i hc;rw[Qal] at z;subst z
    have:=ZiJ (o+x.1) e
    have:=ZtV o b;show 0≤mn (o+x.1) e-mx o b;omega
   ·cases z
  ·exact Zmk hbe hr d z
theorem Zgg {p:List Int→Prop}{b e:Int}:∀{L:WL} {o:Int},(∀d∈L,p d.2)→∀d∈Zcf b e o L,p d.2
 | [],_,_,d,hd=>by cases hd
 |x::r,o,h,d,hd=>by
  have hd:d∈Zce b e o x.1 x.2++Zcf b e (o+x.1) r:=hd;rcases Qap.mp hd with z|z
  ·unfold Zce at z;split at z
   ·rw[Qal] at z;subst z;exact h x Qah
   ·cases z
  ·exact Zgg (fun d hd=>h d (Qag _ hd)) d z
def isInt:PyData→Bool
 | .int _| .bool _=>true
 |_=>false
section
variable {t:TA}
theorem Zav {c:Const}{j:Nat}(ha:PE X (.Constant c j p) te)(hr:PA X es t):PA X (.Constant c j p::es) (Zaa te t):=ZaH ha hr rfl
theorem Zac (ha:PE X (.Name x p) te)(hr:PA X es t):PA X (.Name x p::es) (Zaa te t):=ZaH ha hr rfl
theorem Zbb {k:Nat}(ha:PE X (.Tuple l k p) te)(hr:PA X es t):PA X (.Tuple l k p::es) (Zaa te t):=ZaH ha hr rfl
theorem ZdD (ha:PE X (.List l p) te)(hr:PA X es t):PA X (.List l p::es) (Zaa te t):=ZaH ha hr rfl
theorem ZfS {o:UnaryOp}{e:Expr}(ha:PE X (.UnaryOp o e p) te)(hr:PA X es t):PA X (.UnaryOp o e p::es) (Zaa te t):=ZaH ha hr rfl
theorem ZaT {a:Expr}{o:Operator}(ha:PE X (.BinOp a o b p) te)(hr:PA X es t):PA X (.BinOp a o b p::es) (Zaa te t):=ZaH ha hr rfl
theorem Zao {a:Expr}(ha:PE X (.Subscript a b p) te)(hr:PA X es t):PA X (.Subscript a b p::es) (Zaa te t):=ZaH ha hr rfl
theorem ZaG {f:Expr}{kw:List Keyword}(ha:PE X (.Call f l kw p) te)(hr:PA X es t):PA X (.Call f l kw p::es) (Zaa te t):=ZaH ha hr rfl
end
theorem ZbZ {e2:Expr}{t:TA}(h1:PE X e1 t1)(h2:PE X e2 t2)(hr:PA X es t)(s1:∀l,starEach (e1::l) X.env=(false,eval e1 X.env)::starEach l X.env:=by intro _;rfl)(s2:∀l,starEach (e2::l) X.env=(false,eval e2 X.env)::starEach l X.env:=by intro _;rfl):PA X (e1::e2::es) (Zaa t1 (Zaa t2 t)):=(ZaH h1 (ZaH h2 hr (s2 _)) (s1 _))
theorem Zds {e2:Expr}{t:TA}(h1:PE X e1 t1)(h2:PE X e2 t2)(h3:PE X e3 t3)(hr:PA X es t)(s1:∀l,starEach (e1::l) X.env=(false,eval e1 X.env)::starEach l X.env:=by intro _;rfl)(s2:∀l,starEach (e2::l) X.env=(false,eval e2 X.env)::starEach l X.env:=by intro _;rfl)(s3:∀l,starEach (e3::l) X.env=(false,eval e3 X.env)::starEach l X.env:=by intro _;rfl):PA X (e1::e2::e3::es) (Zaa t1 (Zaa t2 (Zaa t3 t))):=(ZaH h1 (ZaH h2 (ZaH h3 hr (s3 _)) (s2 _)) (s1 _))
theorem Zd4 {e2 e4:Expr}{t4:TE}{t:TA}(h1:PE X e1 t1)(h2:PE X e2 t2)(h3:PE X e3 t3)(h4:PE X e4 t4)(hr:PA X es t)(s1:∀l,starEach (e1::l) X.env=(false,eval e1 X.env)::starEach l X.env:=by intro _;rfl)(s2:∀l,starEach (e2::l) X.env=(false,eval e2 X.env)::starEach l X.env:=by intro _;rfl)(s3:∀l,starEach (e3::l) X.env=(false,eval e3 X.env)::starEach l X.env:=by intro _;rfl)(s4:∀l,starEach (e4::l) X.env=(false,eval e4 X.env)::starEach l X.env:=by intro _;rfl):PA X (e1::e2::e3::e4::es) (Zaa t1 (Zaa t2 (Zaa t3 (Zaa t4 t)))):=(ZaH h1 (ZaH h2 (ZaH h3 (ZaH h4 hr (s4 _)) (s3 _)) (s2 _)) (s1 _))
theorem Zc1 {a:Expr}{t:Option Expr}{l:Nat}:swapsWith (.Subscript a b p) t l env=pure false:=rfl
section
variable {h':Heap}
theorem Inv.turnedNew {p:Addr}{xs:List V}(I:Inv X qa σ H s)(k:∀b o,b∉ch→s.heap.get? b=some o→h'.get? b=some o)(hf:∀b∈ch,Zn9 X qa H b)(hp:s.heap.objs.size≤p)
  (new:Zbw X.prog X.w (upd H p (.tup xs)) h' p (.tup xs)):Inv X qa σ (upd H p (.tup xs)) {s with heap:=h',toks:=t' }:=by
 have hn:H p=none:=I.hok.fresh hp;have nit:∀b u,H b=some u→b∉ch:=fun b u e z=>by rw[(hf b z).1] at e;cases e
 have nL:X.env.locals∉ch:=fun z=>(hf _ z).2.1 rfl
 refine I.step (g':=s.gens) (d':=s.drawn) (ch:=ch) (fun b hb=> ?_) (fun b o _ _ hc e _=>k b o hc e) (fun b o _ _ hc e _=>⟨o.slots,k b o hc e⟩) (fun b o _ e n=> ?_)
  (fun b o hc e=>⟨o,k b o hc e⟩) (fun b xs e=> ?_) (fun b o u e=> ?_) (fun b ps e=>⟨#[],?_⟩) (fun m hm=> ?_) (fun b u e=> ?_) I.bare
 ·obtain⟨f0,f1,f2,f3,f4,f5⟩:=hf b hb;exact⟨f3,f1,f4,f5⟩
 ·rw[Zaq (fun z=>by rw[z] at e;exact absurd (QaP (Qan e) hp) (Qbs _))];exact n
 ·rw[Zaq (Zar e hn)];exact e
 ·rw[Zaq (Zar e hn)];exact e
 ·rw[Zaq (Zar e hn),e];simp
 ·obtain⟨o,es,ep,ho,r⟩:=hm;exact⟨o,es,ep,k _ o nL ho,r⟩
 ·by_cases hb:b=p
  ·subst hb;rw[Zad] at e;cases e;exact new
  ·rw[Zaq hb] at e;refine(I.hok b u e).stay (fun c v hc q=>k c v ?_ q) (fun c q=>by rw[Zaq (Zar q hn)];exact q) fun c xs q=>by rw[Zaq (Zar q hn)];exact q
   rcases hc with z|z
   ·rw[z];exact nit b u e
   ·exact nit c _ z
theorem Inv.turnedL (I:Inv X qa σ H s)(k:∀b o,b∉ch→s.heap.get? b=some o→h'.get? b=some o)(hf:∀b∈ch,Zn9 X qa H b):Inv X qa σ H {s with heap:=h',toks:=t' }:=by
 have nit:∀b u,H b=some u→b∉ch:=fun b u e z=>by rw[(hf b z).1] at e;cases e
 have nL:X.env.locals∉ch:=fun z=>(hf _ z).2.1 rfl
 refine I.step (g':=s.gens) (d':=s.drawn) (ch:=ch) (fun b hb=> ?_) (fun b o _ _ hc e _=>k b o hc e) (fun b o _ _ hc e _=>⟨o.slots,k b o hc e⟩) (fun b o _ e n=>n)
  (fun b o hc e=>⟨o,k b o hc e⟩) (fun b xs e=>e) (fun b o u e=>e) (fun b ps e=>⟨#[],by rw[e];simp⟩) (fun m hm=> ?_) (fun b u e=> ?_) I.bare
 ·obtain⟨f0,f1,f2,f3,f4,f5⟩:=hf b hb;exact⟨f3,f1,f4,f5⟩
 ·obtain⟨o,es,ep,ho,r⟩:=hm;exact⟨o,es,ep,k _ o nL ho,r⟩
 ·refine(I.hok b u e).stay (fun c v hc q=>k c v ?_ q) (fun _ q=>q) fun _ _ q=>q;rcases hc with z|z
  ·rw[z];exact nit b u e
  ·exact nit c _ z
end
def Itz (K:FJ)(a b:Addr):It:=
 ⟨fun i H=>∃xs ys x y,SqL K H a xs∧SqL K H b ys∧xs[i]?=some x∧ys[i]?=some y,
  fun i H v H'=>∃p x y,v= .ref p∧H p=none∧H'=upd H p (.tup [x,y])∧(∀xs,SqL K H a xs→xs[i]?=some x)∧(∀ys,SqL K H b ys→ys[i]?=some y),
  fun i H=>∃xs ys,SqL K H a xs∧SqL K H b ys∧(xs[i]?=none∨ys[i]?=none)⟩
def ZtW (z TI TO i1 i2 a b:Addr)(i:Nat)(h:Heap):Prop:=IsZip h z TI TO .none∧IsPair h TI (.ref i1) (.ref i2)∧(∃u v,IsPair h TO u v)∧h.IsListIter i1 a i∧h.IsListIter i2 b i
theorem Zow {K:FJ}{k:Nat}{pos:PySem.Pos}(a b z TI TO i1 i2:Addr)(D:ZipApart z TI TO i1 i2 a b):ZpS P w K (.Tuple es k pos) (Itz K a b) [z,TI,TO,i1,i2] z (ZtW z TI TO i1 i2 a b) where
 mem:=by simp
 obj:=fun i h st c hc=>by
  obtain⟨hz,hTI,⟨u,v,hTO⟩,⟨o1,e1,c1,d1⟩,⟨o2,e2,c2,d2⟩⟩:=st;simp only[Qaw,Qa8,QcB] at hc;rcases hc with rfl|rfl|rfl|rfl|rfl
  ·exact⟨_,hz,fun v q=>by cases q⟩
  ·exact⟨_,hTI,fun v q=>by cases q⟩
  ·exact⟨_,hTO,fun v q=>by cases q⟩
  ·exact⟨o1,e1,fun v q=>by rw[d1] at q;cases q⟩
  ·exact⟨o2,e2,fun v q=>by rw[d2] at q;cases q⟩
 keep:=fun i h h' st q=>by
  obtain⟨hz,hTI,⟨u,v,hTO⟩,l1,l2⟩:=st;exact⟨q _ (by simp) _ hz,q _ (by simp) _ hTI,⟨u,v,q _ (by simp) _ hTO⟩,l1.at fun o e=>q _ (by simp) o e,l2.at fun o e=>q _ (by simp) o e⟩
 item:=by
  intro X hP hw hK hc i qa s σ H E I hf st hg;subst hP hw hK;obtain⟨xs,ys,x,y,hq1,hq2,hx,hy⟩:=hg;obtain⟨hz,hTI,⟨u,v,hTO⟩,l1,l2⟩:=st;obtain⟨its1,rv1,p1,_⟩:=I.list hq1;obtain⟨its2,rv2,p2,_⟩:=I.list hq2;obtain⟨ux,hux,rux⟩:=rv1.get hx;obtain⟨uy,huy,ruy⟩:=rv2.get hy;refine wpAny_pyNext_zip_item D hz hTI hTO l1 l2 p1.isList p2.isList (x:=ux) (y:=uy) (by simpa using hux) (by simpa using huy) fun h' z1 TO1 j1 j2 T1 sz kp=> ?_;refine⟨_,rfl,QdS z1 fun h2 z2 sb=> ?_⟩;have hzlt:z<s.heap.objs.size:=Qan hz;have hpz:s.heap.objs.size≠z:=Qbq hzlt;have T2:IsPair h2 s.heap.objs.size ux uy:=sb.extBut _ _ hpz T1
  have kp2:∀c o,c∉ [z,TI,TO,i1,i2]→s.heap.get? c=some o→h2.get? c=some o:=fun c o hc e=>by
   simp only[Qaw,Qa8,QcB,not_or] at hc;exact sb.extBut _ _ hc.1 (kp c o hc.1 hc.2.2.1 hc.2.2.2.1 hc.2.2.2.2 e)
  have I2:Inv X qa σ (upd H s.heap.objs.size (.tup [x,y])) {s with heap:=h2,toks:=s.toks }:=I.turnedNew kp2 hf (Qai _) ⟨by show 2≤sizeLine;decide,[ux,uy],.cons rux (.cons ruy .nil),⟨_,T2,rfl,_,rfl⟩⟩;refine⟨.ref s.heap.objs.size,_,I2,rfl,⟨_,x,y,rfl,I.hok.fresh (Qai _),rfl,fun xs' h=> ?_,fun ys' h=> ?_⟩,⟨z2,?_,⟨ux,uy,?_⟩,?_,?_⟩,fun c hc=> ?_⟩
  ·rw[I.list_inj h hq1];exact hx
  ·rw[I.list_inj h hq2];exact hy
  ·exact sb.extBut _ _ D.TIz (kp _ _ D.TIz D.TITO D.TIi1 D.TIi2 hTI)
  ·exact sb.extBut _ _ D.TOz TO1
  ·exact j1.at fun o e=>sb.extBut _ _ D.i1z e
  ·exact j2.at fun o e=>sb.extBut _ _ D.i2z e
  ·have hlt:c<s.heap.objs.size:=by
    simp only[Qaw,Qa8,QcB] at hc;rcases hc with rfl|rfl|rfl|rfl|rfl
    ·exact hzlt
    ·exact Qan hTI
    ·exact Qan hTO
    ·obtain⟨_,e,_⟩:=l1;exact Qan e
    ·obtain⟨_,e,_⟩:=l2;exact Qan e
   rw[Zaq (QaM hlt)];exact(hf c hc).1
 done:=by
  intro X hP hw hK hc i qa s σ H E I hf st hg;subst hP hw hK;obtain⟨xs,ys,hq1,hq2,hend⟩:=hg;obtain⟨hz,hTI,⟨u,v,hTO⟩,l1,l2⟩:=st;obtain⟨its1,rv1,p1,_⟩:=I.list hq1;obtain⟨its2,rv2,p2,_⟩:=I.list hq2;have e1:=rv1.length;have e2:=rv2.length;refine wpAny_pyNext_zip_end (I.ok.hd hc) D hz hTI hTO l1 l2 p1.isList p2.isList (hend.imp (fun q=> ?_) (fun q=> ?_)) fun h' kp=>⟨rfl,I.turnedL (t':=s.toks) (ch:=[z,TI,TO,i1,i2]) (fun c o hc e=> ?_) hf⟩
  ·rw[Qbl] at q;simp;omega
  ·rw[Qbl] at q;simp;omega
  ·simp only[Qaw,Qa8,QcB,not_or] at hc;exact kp c o hc.1 hc.2.2.1 hc.2.2.2.1 hc.2.2.2.2 e
 self:=fun _ _ _ _ _ st h=>Qdk st.1 h
def ZuL (K:FJ)(ta:TA):TI:=fun σ H R=>ta σ H fun vs H1=>∃a b,vs=[.ref a,.ref b]∧(∃xs,SqL K H1 a xs)∧(∃ys,SqL K H1 b ys)∧R (Itz K a b) H1
theorem Zsr {tes:List Expr}{tk:Nat}{tpos pos:PySem.Pos}{a:Expr}{ta:TA}(hg:Gl X "zip")(hm:X.mg "zip" =none)(ha:PA X [a,b] ta)
  (hs:starEach [a,b] X.env=[(false,eval a X.env),(false,eval b X.env)]:=by rfl) (hs2:starEach [b] X.env=[(false,eval b X.env)]:=by rfl):PI X (.Tuple tes tk tpos) (.Call (.Name "zip" p) [a,b] [] pos) (ZuL X.K ta):=by
 intro qa s σ H R I h;refine QbI (Zep I hg hm boot_zip ?_);refine QbU (thn (ha pos qa s σ H _ I h) fun us s1 ⟨vs,H1,I1,r1,l1,l2,e,⟨xs,hx⟩,⟨ys,hy⟩,q⟩=> ?_) (by rw[hs,hs2]) (by rw[hs2];rfl);subst e;obtain⟨u1,u2,rfl,rfl,rfl⟩:=ZkH r1;obtain⟨its1,rv1,p1,_⟩:=I1.list hx;obtain⟨its2,rv2,p2,_⟩:=I1.list hy;have a1:l1<s1.heap.objs.size:=by obtain⟨_,e,_⟩:=p1.isList;exact Qan e
 have a2:l2<s1.heap.objs.size:=by obtain⟨_,e,_⟩:=p2.isList;exact Qan e
 refine call_zip_2 p1.isList p2.isList fun h' hz hTI hTO hi1 hi2 sz kp=> ?_;refine Qdk hz ?_;refine⟨_,[_,_,_,_,_],_,_,H1,rfl,I1.kept (t':=s1.toks) kp,Zow l1 l2 _ _ _ _ _ (zipApart_new a1 a2),⟨hz,hTI,⟨_,_,hTO⟩,hi1,hi2⟩,fun c hc=> ?_,q⟩
 have hge:s1.heap.objs.size≤c:=by
  simp only[Qaw,Qa8,QcB] at hc;rcases hc with rfl|rfl|rfl|rfl|rfl
  ·exact Qcc _ _
  ·exact Qcc _ _
  ·exact Qcc _ _
  ·exact Qai _
  ·exact Qcc _ _
 exact I1.fpOk hge (I1.hok.fresh hge)
structure TB (t:SetTable)(led:Bool):Prop where
 led:t.led=led
 dum:t.dummies= #[]
 up:t.place.toList.Pairwise (· < ·)
def Zss (acc:List Int)(k:Int):List Int:=if k∈acc then acc else acc++ [k]
def dd (ns:List Int):List Int:=ns.foldl Zss []
section
variable {E:Value→Shared→Prop}{S I T:Addr}{o:Obj}{es:Array (Int×Value)}{ep:Nat}{t:SetTable}
theorem Zst {α:Type}{R:α→Shared→Prop}{Ex:Value→Shared→Prop}(hh:A.handled=none)(h:∀e h',(∀b ob,s.heap.get? b=some ob→h'.get? b=some ob)→(∃ob,h'.get? e=some ob∧ob.cls= .type "StopIteration")→Ex (.ref e) {s with heap:=h' }):
  wpAny (model prog w) A (newExc (.type "StopIteration") []>>=fun e=>(raiseNew e:Sem α)) R Ex s:=by
 refine Qaa ?_;simp only[newExc,newTuple];refine Qaa (Qa4 ?_ (by size_fits));refine Qaa (m:=firstArgMember _ _) (QeM (a:=Value.none) (by first|rfl|(simp only[firstArgMember];rfl)) ?_);refine Qa4 ?_ (by size_fits);simp only[raiseNew];refine Qaa (wpAny_handled ?_);rw[hh];exact Qaa (Qak (wpAny_throw (h _ _ (fun b ob z=>Qac _ (Qac _ z)) ⟨_,Qat _ rfl,rfl⟩)))
end
def ZtX (te:TE)(g1 g2 g3:TG):TS:=fun D σ H=>te σ H fun x H1=>g1 x σ H1 fun σ1 H2=>g2 x σ1 H2 fun σ2 H3=>g3 x σ2 H3 D.nx
theorem ZqK {t1 t2 t3 e:Expr}{g1 g3:TG}{pos:PySem.Pos}(he:PE X e te)(h1:PG X t1 g1)(h2:PG X t2 g2)(h3:PG X t3 g3)
  (ha:(assignEach [t1,t2,t3] X.env).map (·.2)=[assign t1 X.env,assign t2 X.env,assign t3 X.env]:=by rfl) (hw:swappedStores [t1,t2,t3] e X.env=pure none:=by rfl):
  PS X (.Assign [t1,t2,t3] e pos) (ZtX te g1 g2 g3):=by
 intro qa s σ H D I h;refine wpAny_Assign_three (thn (he qa s σ H _ I h) fun v s1 ⟨x,G1,I1,r1,q1⟩=> ?_) ha hw;refine thn (h1 qa s1 σ G1 x v _ I1 r1 q1) fun _ s2 ⟨σ2,G2,I2,q2⟩=> ?_;refine thn (h2 qa s2 σ2 G2 x v _ I2 r1 q2) fun _ s3 ⟨σ3,G3,I3,q3⟩=> ?_;exact thn (h3 qa s3 σ3 G3 x v _ I3 r1 q3) fun _ s4 q=>q
end L2
namespace Toy
open PySem L2 PyProof.Rows
variable {p a:Int}{e:Int×List Int}{u:List Int}
abbrev Wl:=List (Int×List Int)
theorem ZkV {L:Wl}(he:0≤e.1):tot (ZaV L e)=tot L+e.1:=by
 unfold ZaV;split
 ·split
  ·rename_i l hl;split
   ·have e0:=Zcv hl
    have:tot L=tot L.dropLast+l.1:=by
     rw[congrArg tot e0,ZaZ,ZaD,ZaI];omega
    rw[this,ZaZ,ZaD,ZaI];show _+(e.1+l.1+0)=_;omega
   ·rw[ZaZ,ZaD,ZaI];omega
  ·rw[ZaZ,ZaD,ZaI];omega
 ·omega
theorem shape_tot {L:Wl}(h:∀e∈L,0≤e.1):tot (ZaM L)=tot L:=by
 have key:∀(L acc:Wl),(∀e∈L,0≤e.1)→tot (L.foldl ZaV acc)=tot acc+tot L:=by
  intro L
  induction L with
  |nil=>intro acc _;rw[List.foldl_nil,ZaI];omega
  |cons x L ih=>
   intro acc hL;rw[QbX,ih _ (fun e he=>hL e (Qag _ he)),ZkV (hL x Qah),ZaD];omega
 have:=key L [] h;rw[ZaI] at this;unfold ZaM;omega
theorem ZdE {L:Wl}(h:∀e∈L,1≤e.1)(n:Nat):tot (L.take n)≤tot L:=by
 have e:tot L=tot (L.take n)+tot (L.drop n):=by rw[←ZaZ,Qcr]
 have q:∀M:Wl,(∀e∈M,1≤e.1)→0≤tot M:=by
  intro M
  induction M with
  |nil=>intro _;rw[ZaI];exact QaL _
  |cons x M ih=>
   intro hM;rw[ZaD]
   have:=hM x Qah
   have:=ih fun e he=>hM e (Qag _ he);omega
 have:=q (L.drop n) fun e he=>h e (Qbm he);omega
theorem ZiK {M:Wl}(hM:∀e∈M,1≤e.1):0≤tot M:=by
 have:=ZdE hM 0;rw[Qct,ZaI] at this;exact this
theorem tot_ge {L:Wl}(h:∀e∈L,1≤e.1)(he:e∈L):e.1≤tot L:=by
 obtain⟨i,hi⟩:=QaZ.mp he;have a:=ZdE h (i+1);rw[ZcQ hi] at a;have b:=ZiK (M:=L.take i) fun e he=>h e (Qbf he);omega
def atW:Wl→Int→List Int
 | [],_=>[]
 | (a,u)::L,p=>if p<a then u else atW L (p-a)
theorem atW_lt {L:Wl}(h:p<a):atW ((a,u)::L) p=u:=by unfold atW;rw[Qp h]
theorem atW_ge {L:Wl}(h:a≤p):atW ((a,u)::L) p=atW L (p-a):=by
 conv=>lhs;unfold atW
 rw[Qn (by omega)]
theorem tot_pos0:∀{M:Wl},(∀e∈M,0≤e.1)→0≤tot M
 | [],_=>by rw[ZaI];exact QaL _
 |x::M,h=>by
  rw[ZaD]
  have:=h x Qah
  have:=tot_pos0 (M:=M) fun e he=>h e (Qag _ he);omega
theorem Zcw:∀{A:Wl} {B:Wl} {p:Int},(∀e∈A,0≤e.1)→0≤p→p<tot A→atW (A++B) p=atW A p
 | [],B,p,h,h0,hp=>by rw[ZaI] at hp;omega
 | (a,u)::A,B,p,h,h0,hp=>by
  rw[ZaD] at hp;by_cases z:p<a
  ·rw[Qdl,atW_lt z,atW_lt z]
  ·rw[Qdl,atW_ge (by omega),atW_ge (by omega)];exact Zcw (fun e he=>h e (Qag _ he)) (by omega) (by have hp:p<a+tot A:=hp;omega)
theorem ZbV:∀{A:Wl} {B:Wl} {p:Int},(∀e∈A,0≤e.1)→tot A≤p→atW (A++B) p=atW B (p-tot A)
 | [],B,p,h,hp=>by rw[ZaI,Qb6,Qde]
 | (a,u)::A,B,p,h,hp=>by
  rw[ZaD] at hp⊢;have hp:a+tot A≤p:=hp
  have:=tot_pos0 (M:=A) fun e he=>h e (Qag _ he);rw[Qdl,atW_ge (by omega),ZbV (fun e he=>h e (Qag _ he)) (by omega)];show atW B (p-a-tot A)=atW B (p-(a+tot A));rw[Int.sub_sub]
theorem Zml {acc:Wl}{L:Wl}(ha:∀x∈acc,0≤x.1)(he:0≤e.1)(h0:0≤p):atW (ZaV acc e++L) p=atW (acc++e::L) p:=by
 obtain⟨m,w⟩:=e;have he:0≤m:=he
 have two:∀{l:Int} {q:Int},0≤l→atW ((m+l,w)::L) q=atW ((l,w)::(m,w)::L) q:=by
  intro l q hl;by_cases z:q<l
  ·rw[atW_lt (by omega),atW_lt z]
  ·rw[atW_ge (L:=(m,w)::L) (by omega)];by_cases z2:q-l<m
   ·rw[atW_lt (by omega),atW_lt z2]
   ·rw[atW_ge (by omega),atW_ge (by omega),show q-(m+l)=q-l-m by omega]
 have same:∀{A B C:Wl},(∀x∈A,0≤x.1)→(∀q,0≤q→atW B q=atW C q)→atW (A++B) p=atW (A++C) p:=by
  intro A B C hA hq;by_cases z:p<tot A
  ·rw[Zcw hA h0 z,Zcw hA h0 z]
  ·rw[ZbV hA (by omega),ZbV hA (by omega)];exact hq _ (by omega)
 unfold ZaV;split
 ·split
  ·rename_i l hl;split
   ·rename_i hw;have e0:=Zcv hl;have hl0:0≤l.1:=ha l (Qds hl);obtain⟨l1,l2⟩:=l;have hw:l2=w:=hw;subst hw;rw[congrArg (fun z=>z++(m,l2)::L) e0,Qa7,Qa7];exact same (fun x hx=>ha x (Qcu _ hx)) fun q _=>two hl0
   ·rw[Qa7];rfl
  ·rw[Qa7];rfl
 ·rename_i hn;have m0:m=0:=by have:¬0<m:=hn;omega
  subst m0;refine same ha fun q hq=> ?_;rw[atW_ge (by omega),Qde]
theorem Zgh {L:Wl}(h:∀e∈L,0≤e.1)(h0:0≤p):atW (ZaM L) p=atW L p:=by
 have pos:∀{acc:Wl} {e:Int×List Int},(∀x∈acc,0≤x.1)→0≤e.1→∀x∈ZaV acc e,0≤x.1:=by
  intro acc e ha he x hx;unfold ZaV at hx;split at hx
  ·split at hx
   ·rename_i l hl;split at hx
    ·rcases Qap.mp hx with z|z
     ·exact ha x (Qcu _ z)
     ·rw[Qal.mp z]
      have:=ha l (Qds hl);show 0≤e.1+l.1;omega
    ·rcases Qap.mp hx with z|z
     ·exact ha x z
     ·rw[Qal.mp z];exact he
   ·rcases Qap.mp hx with z|z
    ·exact ha x z
    ·rw[Qal.mp z];exact he
  ·exact ha x hx
 have key:∀(L acc:Wl),(∀e∈L,0≤e.1)→(∀x∈acc,0≤x.1)→atW (L.foldl ZaV acc) p=atW (acc++L) p:=by
  intro L
  induction L with
  |nil=>intro acc _ _;rw[List.foldl_nil,Qa5]
  |cons x L ih=>
   intro acc hL ha;have hx:=hL x Qah;rw[QbX,ih _ (fun e he=>hL e (Qag _ he)) (pos ha hx)];exact Zml ha hx h0
 exact key L [] h fun x hx=>(by cases hx)
end Toy
namespace L2
open PySem PySem.Spec PyProof.Rows
variable {l1 l2 z i1 i2 a b:Addr}{xs ys its:Array Value}{Q E:Value→Shared→Prop}{n1 n2 i n:Nat}{u v x y:Value}{w:World}{prog:Program}{A:Around}{s:Shared}{g:TG}{σ:St}{H:Hp}
theorem nxT {it t:Addr}(st:s.heap.IsTupleIter it t i)(ht:s.heap.IsTuple t its)(hx:its[i]?=some x)
  (k:∀h',h'.IsTupleIter it t (i+1)→Heap.SameBut it s.heap h'→Q x {s with heap:=h' }):wpAny (model prog w) A (Builtin.SmallTypes.nextOf (.ref it)) Q E s:=by
 obtain⟨o,e,c,d⟩:=id st;obtain⟨ot,et,_,m,dt⟩:=ht;unfold Builtin.SmallTypes.nextOf;refine Qaa (QbF (name:=Str.ofString "__next__") st.typeIs F.slot_tuple_iterator_next (QbE F.slot_tuple_iterator_next st.typeIs F.entry_tuple_iterator_next (show wpAny _ _ (field (.ref it) 0>>=_) _ _ s from Qaa (Qbo e d (x:=.ref t) rfl ?_)) (F.args_tuple_iterator_next_1 _)));show wpAny _ _ (if(Value.ref t==Value.none)=true then _ else _) _ _ s;rw[Qn (show ¬(Value.ref t==Value.none)=true by intro z;exact QaE z)];refine(show wpAny _ _ (field (.ref it) 1>>=_) _ _ s from Qaa (Qbo e d (x:=.int i 0) rfl (show wpAny _ _ (seqItems? (.ref t)>>=_) _ _ s from Qaa (Qbw et dt ?_))));simp only[QbR,hx];refine Qaa (QeJ e d (by simp) (Qak ⟨x,rfl,Qak (k _ ⟨_,Qbr _ e (Obj.isFreed_of_fields (Obj.data_mapFields d _)),(Obj.cls_mapFields ..).trans c,?_⟩ (QdD ..))⟩));rw[Obj.data_mapFields d];simp[rawInt]
theorem Zuz {it t:Addr}(hh:A.handled=none)(st:s.heap.IsTupleIter it t i)(ht:s.heap.IsTuple t its)(hx:its[i]?=none)
  (k:∀h' e,Heap.ExtBut it s.heap h'→(∃o,h'.get? e=some o∧o.cls= .type "StopIteration")→E (.ref e) {s with heap:=h' }):wpAny (model prog w) A (Builtin.SmallTypes.nextOf (.ref it)) Q E s:=by
 obtain⟨o,e,c,d⟩:=id st;obtain⟨ot,et,_,m,dt⟩:=ht;unfold Builtin.SmallTypes.nextOf;refine Qaa (QbF (name:=Str.ofString "__next__") st.typeIs F.slot_tuple_iterator_next (QbE F.slot_tuple_iterator_next st.typeIs F.entry_tuple_iterator_next (show wpAny _ _ (field (.ref it) 0>>=_) _ _ s from Qaa (Qbo e d (x:=.ref t) rfl ?_)) (F.args_tuple_iterator_next_1 _)));show wpAny _ _ (if(Value.ref t==Value.none)=true then _ else _) _ _ s;rw[Qn (show ¬(Value.ref t==Value.none)=true by intro z;exact QaE z)];refine(show wpAny _ _ (field (.ref it) 1>>=_) _ _ s from Qaa (Qbo e d (x:=.int i 0) rfl (show wpAny _ _ (seqItems? (.ref t)>>=_) _ _ s from Qaa (Qbw et dt ?_))));simp only[QbR,hx];refine Qaa (Qc8 (Qaa (QeJ e d (by simp) (show wpAny _ _ (newExc (.type "StopIteration") []>>=_) _ _ _ from Qaa ?_))));simp only[newExc,newTuple];refine Qaa (Qa4 (Qaa (m:=firstArgMember _ _) (QeM (a:=Value.none) (by first|rfl|(simp only[firstArgMember];rfl)) (Qa4 ?_ (by size_fits)))) (by size_fits));simp only[raiseNew];refine Qaa (wpAny_handled ?_)
 first|rw[show A.in1.handled=none from hh]|rw[hh]
 exact Qaa (Qak (wpAny_throw (k _ _ (((QdD ..).extBut.push _).push _) ⟨_,Qat _ rfl,rfl⟩)))
theorem ZqL {TI TO:Addr}(D:ZipApart z TI TO i1 i2 l1 l2)(hz:IsZip s.heap z TI TO .none)(hI:IsPair s.heap TI (.ref i1) (.ref i2))(hO:IsPair s.heap TO u v)
  (s1:s.heap.IsTupleIter i1 l1 n1) (s2:s.heap.IsTupleIter i2 l2 n2) (t1:s.heap.IsTuple l1 xs) (t2:s.heap.IsTuple l2 ys) (ex:xs[n1]?=some x) (ey:ys[n2]?=some y)
  (k:∀h',IsZip h' z TI TO (rawInt s.heap.objs.size)→IsPair h' TO x y→h'.IsTupleIter i1 l1 (n1+1)→h'.IsTupleIter i2 l2 (n2+1)→IsPair h' s.heap.objs.size x y→h'.objs.size=s.heap.objs.size+1→(∀c o,c≠z→c≠TO→c≠i1→c≠i2→s.heap.get? c=some o→h'.get? c=some o)→Q (.ref s.heap.objs.size) {s with heap:=h' }):
  wpAny (model prog w) A (Builtin.«zip.__next__» ⟨[.ref z],[]⟩) (fun fin s'=>∃r,fin= .done (.ret r)∧Q r s') E s:=by
 refine(show wpAny _ _ (field (.ref z) 2>>=_) _ _ _ from Qaa (Qbo hz rfl (x:=.bool false) rfl (show wpAny _ _ (field (.ref z) 3>>=_) _ _ _ from Qaa (Qbo hz rfl (x:=.ref TI) rfl (Qaa (Qbw hI rfl ?_))))));refine(show wpAny _ _ (Builtin.SmallTypes.ownedTupleIsFree (.ref z)>>=_) _ _ _ from Qaa ?_);unfold Builtin.SmallTypes.ownedTupleIsFree;refine Qaa (Qbo hz rfl (x:=.none) rfl (Qak ?_));simp only[QbW];refine Qaa (Qc8 (Qaa (Qbo hz rfl (x:=.ref TO) rfl (Qaa (Qbh hz (by simp) fun ha (za:IsZip ha z TI TO .ellipsis) ba=>Qaa ?_)))));simp only[List.zipIdx_cons,List.zipIdx_nil,QcI,List.forIn_nil];refine Qaa (Qaa (Qee (show wpAny _ _ (Builtin.SmallTypes.nextOf (.ref i1)>>=_) _ _ _ from Qaa (nxT (s1.extBut ba.extBut D.i1z) (t1.extBut ba.extBut D.l1z) ex fun hb sb bb=>Qak ?_))));have Ob:IsPair hb TO u v:=bb.extBut _ _ D.TOi1 (ba.extBut _ _ D.TOz hO);refine Qaa (Qbw Ob rfl (Qaa (Qdt Ob fun hc (Oc:IsPair hc TO x v) bc=>Qaa (Qch (Qak ?_)))));refine Qaa (Qaa (Qee (show wpAny _ _ (Builtin.SmallTypes.nextOf (.ref i2)>>=_) _ _ _ from Qaa (nxT (((s2.extBut ba.extBut D.i2z).extBut bb.extBut D.i12.symm).extBut bc.extBut D.TOi2.symm) (((t2.extBut ba.extBut D.l2z).extBut bb.extBut D.l2i1).extBut bc.extBut D.l2TO) ey fun hd sd bd=>Qak ?_))));have Od:IsPair hd TO x v:=bd.extBut _ _ D.TOi2 Oc;refine Qaa (Qbw Od rfl (Qaa (Qdt Od fun he (Oe:IsPair he TO x y) be=>Qaa (Qch (Qak (Qak (Qaa (Qbw Oe rfl (Qaa (QdT ?_))))))))));have size:he.objs.size=s.heap.objs.size:=be.1.trans (bd.1.trans (bc.1.trans (bb.1.trans ba.1)));have ze:IsZip he z TI TO .ellipsis:=be.extBut _ _ D.TOz.symm (bd.extBut _ _ D.i2z.symm (bc.extBut _ _ D.TOz.symm (bb.extBut _ _ D.i1z.symm za)));have keep:∀c o,c≠z→c≠TO→c≠i1→c≠i2→s.heap.get? c=some o→he.get? c=some o:=fun c o q1 q2 q3 q4 e=>be.extBut _ _ q2 (bd.extBut _ _ q4 (bc.extBut _ _ q2 (bb.extBut _ _ q3 (ba.extBut _ _ q1 e))));have r1:he.IsTupleIter i1 l1 (n1+1):=((sb.extBut bc.extBut D.TOi1.symm).extBut bd.extBut D.i12).extBut be.extBut D.TOi1.symm;have r2:he.IsTupleIter i2 l2 (n2+1):=sd.extBut be.extBut D.TOi2.symm;have zlt:z<he.objs.size:=Qan ze;refine(show wpAny _ _ (Builtin.SmallTypes.ownedTupleHandOut (.ref z) (.ref he.objs.size)>>=_) _ _ _ from Qaa ?_);unfold Builtin.SmallTypes.ownedTupleHandOut;have zf:IsZip (he.push {cls:=.type "tuple",data:=.seq #[x,y] }) z TI TO .ellipsis:=Qac _ ze;refine Qaa (Qbh zf (by simp) fun hg (zg:IsZip hg z TI TO (rawInt he.objs.size)) bg=>Qbh zg (by simp) fun hk (zk:IsZip hk z TI TO (rawInt he.objs.size)) bk=> ?_);have up:∀c o,c≠z→he.get? c=some o→hk.get? c=some o:=fun c o q e=>bk.extBut _ _ q (bg.extBut _ _ q (Qac _ e));have Tk:IsPair hk he.objs.size x y:=bk.extBut _ _ (Qbq zlt) (bg.extBut _ _ (Qbq zlt) (Qat _ rfl));have sk:hk.objs.size=he.objs.size+1:=by rw[bk.1,bg.1,Qbk]
 rw[size] at zk Tk sk;refine Qak ⟨_,rfl,(show Q (.ref he.objs.size) _ from ?_)⟩;rw[size];exact k hk zk (up _ _ D.TOz Oe) (r1.at fun o e=>up _ o D.i1z e) (r2.at fun o e=>up _ o D.i2z e) Tk sk fun c o q1 q2 q3 q4 e=>up c o q1 (keep c o q1 q2 q3 q4 e)
theorem Zsu {TI TO:Addr}{Q:Fin→Shared→Prop}(hh:A.handled=none)(D:ZipApart z TI TO i1 i2 l1 l2)(hz:IsZip s.heap z TI TO .none)(hI:IsPair s.heap TI (.ref i1) (.ref i2))(hO:IsPair s.heap TO u v)
  (s1:s.heap.IsTupleIter i1 l1 n1) (s2:s.heap.IsTupleIter i2 l2 n2) (t1:s.heap.IsTuple l1 xs) (t2:s.heap.IsTuple l2 ys) (fin:xs[n1]?=none∨ys[n2]?=none)
  (k:∀h' e,(∀c o,c≠z→c≠TO→c≠i1→c≠i2→s.heap.get? c=some o→h'.get? c=some o)→(∃o,h'.get? e=some o∧o.cls= .type "StopIteration")→E (.ref e) {s with heap:=h' }):
  wpAny (model prog w) A (Builtin.«zip.__next__» ⟨[.ref z],[]⟩) Q E s:=by
 refine(show wpAny _ _ (field (.ref z) 2>>=_) _ _ _ from Qaa (Qbo hz rfl (x:=.bool false) rfl (show wpAny _ _ (field (.ref z) 3>>=_) _ _ _ from Qaa (Qbo hz rfl (x:=.ref TI) rfl (Qaa (Qbw hI rfl ?_))))));refine(show wpAny _ _ (Builtin.SmallTypes.ownedTupleIsFree (.ref z)>>=_) _ _ _ from Qaa ?_);unfold Builtin.SmallTypes.ownedTupleIsFree;refine Qaa (Qbo hz rfl (x:=.none) rfl (Qak ?_));simp only[QbW];refine Qaa (Qc8 (Qaa (Qbo hz rfl (x:=.ref TO) rfl (Qaa (Qbh hz (by simp) fun ha (za:IsZip ha z TI TO .ellipsis) ba=>Qaa ?_)))));simp only[List.zipIdx_cons,List.zipIdx_nil,QcI,List.forIn_nil];refine Qaa (Qaa (Qee (show wpAny _ _ (Builtin.SmallTypes.nextOf (.ref i1)>>=_) _ _ _ from ?_)))
 cases ex:xs[n1]? with
 |none=>
  refine Qaa (Zuz hh (s1.extBut ba.extBut D.i1z) (t1.extBut ba.extBut D.l1z) ex fun hb e bb ⟨oe,ge,ce⟩=> ?_);have zb:IsZip hb z TI TO .ellipsis:=bb _ _ D.i1z.symm za;have ne:e≠z:=fun q=>by subst q;rw[zb] at ge;cases ge;simp at ce
  exact Qbh zb (by simp) fun hc _ bc=>k hc e (fun c o q1 _ q3 _ g=>bc.extBut _ _ q1 (bb _ _ q3 (ba.extBut _ _ q1 g))) ⟨oe,bc.extBut _ _ ne ge,ce⟩
 |some x=>
  have ey:ys[n2]?=none:=fin.resolve_left (by rw[ex];exact fun q=>by cases q);refine Qaa (nxT (s1.extBut ba.extBut D.i1z) (t1.extBut ba.extBut D.l1z) ex fun hb sb bb=>Qak ?_);have Ob:IsPair hb TO u v:=bb.extBut _ _ D.TOi1 (ba.extBut _ _ D.TOz hO);refine Qaa (Qbw Ob rfl (Qaa (Qdt Ob fun hc Oc bc=>Qaa (Qch (Qak (Qaa (Qaa (Qee (show wpAny _ _ (Builtin.SmallTypes.nextOf (.ref i2)>>=_) _ _ _ from Qaa ?_)))))))));refine Zuz hh (((s2.extBut ba.extBut D.i2z).extBut bb.extBut D.i12.symm).extBut bc.extBut D.TOi2.symm) (((t2.extBut ba.extBut D.l2z).extBut bb.extBut D.l2i1).extBut bc.extBut D.l2TO) ey fun hd e bd ⟨oe,ge,ce⟩=> ?_;have zd:IsZip hd z TI TO .ellipsis:=bd _ _ D.i2z.symm (bc.extBut _ _ D.TOz.symm (bb.extBut _ _ D.i1z.symm za));have ne:e≠z:=fun q=>by subst q;rw[zd] at ge;cases ge;simp at ce
  exact Qbh zd (by simp) fun hf _ bf=>k hf e (fun c o q1 q2 q3 q4 g=>bf.extBut _ _ q1 (bd _ _ q4 (bc.extBut _ _ q2 (bb.extBut _ _ q3 (ba.extBut _ _ q1 g))))) ⟨oe,bf.extBut _ _ ne ge,ce⟩
theorem Zsv {TI TO:Addr}{Q:Option Value→Shared→Prop}(D:ZipApart z TI TO i1 i2 l1 l2)(hz:IsZip s.heap z TI TO .none)(hI:IsPair s.heap TI (.ref i1) (.ref i2))(hO:IsPair s.heap TO u v)
  (s1:s.heap.IsTupleIter i1 l1 n1) (s2:s.heap.IsTupleIter i2 l2 n2) (t1:s.heap.IsTuple l1 xs) (t2:s.heap.IsTuple l2 ys) (ex:xs[n1]?=some x) (ey:ys[n2]?=some y)
  (k:∀h',IsZip h' z TI TO (rawInt s.heap.objs.size)→IsPair h' TO x y→h'.IsTupleIter i1 l1 (n1+1)→h'.IsTupleIter i2 l2 (n2+1)→IsPair h' s.heap.objs.size x y→h'.objs.size=s.heap.objs.size+1→(∀c o,c≠z→c≠TO→c≠i1→c≠i2→s.heap.get? c=some o→h'.get? c=some o)→Q (some (.ref s.heap.objs.size)) {s with heap:=h' }):
  wpAny (model prog w) A (pyNext (.ref z)) Q E s:=by
 have ty:s.TypeIs (.ref z) "zip" :=⟨_,hz,rfl⟩;unfold pyNext;exact Qaa (Qdv (QbF (name:=Str.ofString "__next__") ty F.slot_zip_next (QbE F.slot_zip_next ty F.entry_zip_next (ZqL D hz hI hO s1 s2 t1 t2 ex ey fun h' b1 b2 b3 b4 b5 b6 b7=>Qak (k h' b1 b2 b3 b4 b5 b6 b7)) (F.args_zip_next_1 _))))
theorem ZqM {TI TO:Addr}{Q:Option Value→Shared→Prop}(hh:A.handled=none)(D:ZipApart z TI TO i1 i2 l1 l2)(hz:IsZip s.heap z TI TO .none)(hI:IsPair s.heap TI (.ref i1) (.ref i2))(hO:IsPair s.heap TO u v)
  (s1:s.heap.IsTupleIter i1 l1 n1) (s2:s.heap.IsTupleIter i2 l2 n2) (t1:s.heap.IsTuple l1 xs) (t2:s.heap.IsTuple l2 ys) (fin:xs[n1]?=none∨ys[n2]?=none)
  (k:∀h',(∀c o,c≠z→c≠TO→c≠i1→c≠i2→s.heap.get? c=some o→h'.get? c=some o)→Q none {s with heap:=h' }):wpAny (model prog w) A (pyNext (.ref z)) Q E s:=by
 have ty:s.TypeIs (.ref z) "zip" :=⟨_,hz,rfl⟩;unfold pyNext;refine Qaa (Qdv (QbF (name:=Str.ofString "__next__") ty F.slot_zip_next (QbE F.slot_zip_next ty F.entry_zip_next (Zsu hh D hz hI hO s1 s2 t1 t2 fin fun h' e kp ⟨o,g,c⟩=> ?_) (F.args_zip_next_1 _))));exact Qaa (wpAny_isInstance (T:= "StopIteration") (b:=true) ⟨o,g,c⟩ isSubtype_stop (Qak (k _ kp)))
def zh (h:Heap)(l1 l2:Addr):Heap:=(((((h.push {cls:=.type "tuple_iterator",data:=.fields #[.ref l1,.int 0 0] }).push {cls:=.type "tuple_iterator",data:=.fields #[.ref l2,.int 0 0] }).push {cls:=.type "tuple",data:=.seq #[.ref h.objs.size,.ref (h.objs.size+1)] }).push {cls:=.type "tuple",data:=.seq #[.none,.none] }).push {cls:=.type "zip",data:=.fields #[.none,.bool false,.bool false,.ref (h.objs.size+2),.ref (h.objs.size+3)] })
theorem ZtY (l1 l2:Addr)(xs ys:Array Value):
  Meets (Builtin.«zip.__new__» ⟨[.type "zip",.ref l1,.ref l2],[]⟩) (fun _ R s=>s.heap.IsTuple l1 xs∧s.heap.IsTuple l2 ys∧R (.ok (.ret (.ref (s.heap.objs.size+4)))) {s with heap:=zh s.heap l1 l2 }):=
 .of_wp fun prog w A R s h=>by
  obtain⟨hp,g,d,tk,os⟩:=s;obtain⟨t1,t2,h⟩:=h;have hsub:=sub_zip;have T1:Heap.IsTuple (Shared.heap ⟨hp,g,d,tk,os⟩) l1 xs:=t1;have T2:Heap.IsTuple (Shared.heap ⟨hp.push {cls:=.type "tuple_iterator",data:=.fields #[.ref l1,.int 0 0] },g,d,tk,os⟩) l2 ys:=Heap.IsTuple.push t2 _
  wp_walk using QdQ T1,QdQ T2
  refine⟨_,rfl,?_⟩;simp only[Qbk];exact h
theorem Zsw (t1:s.heap.IsTuple l1 xs)(t2:s.heap.IsTuple l2 ys)
  (k:∀h',IsZip h' (s.heap.objs.size+4) (s.heap.objs.size+2) (s.heap.objs.size+3) .none→IsPair h' (s.heap.objs.size+2) (.ref s.heap.objs.size) (.ref (s.heap.objs.size+1))→IsPair h' (s.heap.objs.size+3) .none .none→h'.IsTupleIter s.heap.objs.size l1 0→h'.IsTupleIter (s.heap.objs.size+1) l2 0→(∀c o,s.heap.get? c=some o→h'.get? c=some o)→Q (.ref (s.heap.objs.size+4)) {s with heap:=h' }):
  wpAny (model prog w) A (call (.type "zip") [.ref l1,.ref l2]) Q E s:=by
 refine callType_new F.called_zip (by decide) (F.typeCall_zip_2 _ _) (F.newCall_zip_2 _ _) (fun obj=>F.args_object_init_3 obj _ _) F.entry_zip_new (ZtY l1 l2 xs ys) ⟨t1,t2,?_⟩;have ps:∀{c:Addr} {o p:Obj} {h:Heap},h.get? c=some o→(h.push p).get? c=some o:=fun e=>Qac _ e;have sz1:∀(h:Heap)(p:Obj),(h.push p).objs.size=h.objs.size+1:=fun h p=>Qbk ..;have at0:∀(h:Heap)(p:Obj)(n:Nat),h.objs.size=n→p.isFreed=false→(h.push p).get? n=some p:=fun h p n e f=>by subst e;exact Qat _ f
 have z5:(zh s.heap l1 l2).get? (s.heap.objs.size+4)=some _:=at0 _ _ _ (by simp only[sz1]) rfl;have z4:(zh s.heap l1 l2).get? (s.heap.objs.size+3)=some _:=ps (at0 _ _ _ (by simp only[sz1]) rfl);have z3:(zh s.heap l1 l2).get? (s.heap.objs.size+2)=some _:=ps (ps (at0 _ _ _ (by simp only[sz1]) rfl));have z2:(zh s.heap l1 l2).get? (s.heap.objs.size+1)=some _:=ps (ps (ps (at0 _ _ _ (by simp only[sz1]) rfl)));have z1:(zh s.heap l1 l2).get? s.heap.objs.size=some _:=ps (ps (ps (ps (at0 _ _ _ rfl rfl))));exact⟨⟨_,z5,rfl⟩,k _ z5 z3 z4 ⟨_,z1,rfl,rfl⟩ ⟨_,z2,rfl,rfl⟩ fun c o e=>ps (ps (ps (ps (ps e))))⟩
def ZtZ (K:FJ)(a b:Addr):It:=
 ⟨fun i H=>∃xs ys x y,SqT K H a xs∧SqT K H b ys∧xs[i]?=some x∧ys[i]?=some y,
  fun i H v H'=>∃p x y,v= .ref p∧H p=none∧H'=upd H p (.tup [x,y])∧(∀xs,SqT K H a xs→xs[i]?=some x)∧(∀ys,SqT K H b ys→ys[i]?=some y),
  fun i H=>∃xs ys,SqT K H a xs∧SqT K H b ys∧(xs[i]?=none∨ys[i]?=none)⟩
def Zsx (z TI TO i1 i2 a b:Addr)(i:Nat)(h:Heap):Prop:=IsZip h z TI TO .none∧IsPair h TI (.ref i1) (.ref i2)∧(∃u v,IsPair h TO u v)∧h.IsTupleIter i1 a i∧h.IsTupleIter i2 b i
theorem Zmm {P:Program}{K:FJ}{es:List Expr}{k:Nat}{pos:PySem.Pos}(a b z TI TO i1 i2:Addr)(D:ZipApart z TI TO i1 i2 a b):ZpS P w K (.Tuple es k pos) (ZtZ K a b) [z,TI,TO,i1,i2] z (Zsx z TI TO i1 i2 a b) where
 mem:=by simp
 obj:=fun i h st c hc=>by
  obtain⟨hz,hTI,⟨u,v,hTO⟩,⟨o1,e1,c1,d1⟩,⟨o2,e2,c2,d2⟩⟩:=st;simp only[Qaw,Qa8,QcB] at hc;rcases hc with rfl|rfl|rfl|rfl|rfl
  ·exact⟨_,hz,fun v q=>by cases q⟩
  ·exact⟨_,hTI,fun v q=>by cases q⟩
  ·exact⟨_,hTO,fun v q=>by cases q⟩
  ·exact⟨o1,e1,fun v q=>by rw[d1] at q;cases q⟩
  ·exact⟨o2,e2,fun v q=>by rw[d2] at q;cases q⟩
 keep:=fun i h h' st q=>by
  obtain⟨hz,hTI,⟨u,v,hTO⟩,l1,l2⟩:=st;exact⟨q _ (by simp) _ hz,q _ (by simp) _ hTI,⟨u,v,q _ (by simp) _ hTO⟩,l1.at fun o e=>q _ (by simp) o e,l2.at fun o e=>q _ (by simp) o e⟩
 item:=by
  intro X hP hw hK hc i qa s σ H E I hf st hg;subst hP hw hK;obtain⟨xs,ys,x,y,hq1,hq2,hx,hy⟩:=hg;obtain⟨hz,hTI,⟨u,v,hTO⟩,l1,l2⟩:=st;obtain⟨its1,rv1,p1,_⟩:=I.tuple hq1;obtain⟨its2,rv2,p2,_⟩:=I.tuple hq2;obtain⟨ux,hux,rux⟩:=rv1.get hx;obtain⟨uy,huy,ruy⟩:=rv2.get hy;refine Zsv D hz hTI hTO l1 l2 p1 p2 (x:=ux) (y:=uy) (by simpa using hux) (by simpa using huy) fun h' z1 TO1 j1 j2 T1 sz kp=> ?_;refine⟨_,rfl,QdS z1 fun h2 z2 sb=> ?_⟩;have hzlt:z<s.heap.objs.size:=Qan hz;have hpz:s.heap.objs.size≠z:=Qbq hzlt;have T2:IsPair h2 s.heap.objs.size ux uy:=sb.extBut _ _ hpz T1
  have kp2:∀c o,c∉ [z,TI,TO,i1,i2]→s.heap.get? c=some o→h2.get? c=some o:=fun c o hc e=>by
   simp only[Qaw,Qa8,QcB,not_or] at hc;exact sb.extBut _ _ hc.1 (kp c o hc.1 hc.2.2.1 hc.2.2.2.1 hc.2.2.2.2 e)
  have I2:Inv X qa σ (upd H s.heap.objs.size (.tup [x,y])) {s with heap:=h2,toks:=s.toks }:=I.turnedNew kp2 hf (Qai _) ⟨by show 2≤sizeLine;decide,[ux,uy],.cons rux (.cons ruy .nil),⟨_,T2,rfl,_,rfl⟩⟩;refine⟨.ref s.heap.objs.size,_,I2,rfl,⟨_,x,y,rfl,I.hok.fresh (Qai _),rfl,fun xs' h=> ?_,fun ys' h=> ?_⟩,⟨z2,?_,⟨ux,uy,?_⟩,?_,?_⟩,fun c hc=> ?_⟩
  ·rw[I.tuple_inj h hq1];exact hx
  ·rw[I.tuple_inj h hq2];exact hy
  ·exact sb.extBut _ _ D.TIz (kp _ _ D.TIz D.TITO D.TIi1 D.TIi2 hTI)
  ·exact sb.extBut _ _ D.TOz TO1
  ·exact j1.at fun o e=>sb.extBut _ _ D.i1z e
  ·exact j2.at fun o e=>sb.extBut _ _ D.i2z e
  ·have hlt:c<s.heap.objs.size:=by
    simp only[Qaw,Qa8,QcB] at hc;rcases hc with rfl|rfl|rfl|rfl|rfl
    ·exact hzlt
    ·exact Qan hTI
    ·exact Qan hTO
    ·obtain⟨_,e,_⟩:=l1;exact Qan e
    ·obtain⟨_,e,_⟩:=l2;exact Qan e
   rw[Zaq (QaM hlt)];exact(hf c hc).1
 done:=by
  intro X hP hw hK hc i qa s σ H E I hf st hg;subst hP hw hK;obtain⟨xs,ys,hq1,hq2,hend⟩:=hg;obtain⟨hz,hTI,⟨u,v,hTO⟩,l1,l2⟩:=st;obtain⟨its1,rv1,p1,_⟩:=I.tuple hq1;obtain⟨its2,rv2,p2,_⟩:=I.tuple hq2;have e1:=rv1.length;have e2:=rv2.length;refine ZqM (I.ok.hd hc) D hz hTI hTO l1 l2 p1 p2 (hend.imp (fun q=> ?_) (fun q=> ?_)) fun h' kp=>⟨rfl,I.turnedL (t':=s.toks) (ch:=[z,TI,TO,i1,i2]) (fun c o hc e=> ?_) hf⟩
  ·rw[Qbl] at q;simp;omega
  ·rw[Qbl] at q;simp;omega
  ·simp only[Qaw,Qa8,QcB,not_or] at hc;exact kp c o hc.1 hc.2.2.1 hc.2.2.2.1 hc.2.2.2.2 e
 self:=fun _ _ _ _ _ st h=>Qdk st.1 h
section
variable {X:Cx}
def ZqN (K:FJ)(ta:TA):TI:=fun σ H R=>ta σ H fun vs H1=>∃a b,vs=[.ref a,.ref b]∧(∃xs,SqT K H1 a xs)∧(∃ys,SqT K H1 b ys)∧R (ZtZ K a b) H1
theorem ZiL {tes:List Expr}{tk:Nat}{tpos p pos:PySem.Pos}{a b:Expr}{ta:TA}(hg:Gl X "zip")(hm:X.mg "zip" =none)(ha:PA X [a,b] ta)
  (hs:starEach [a,b] X.env=[(false,eval a X.env),(false,eval b X.env)]:=by rfl) (hs2:starEach [b] X.env=[(false,eval b X.env)]:=by rfl):PI X (.Tuple tes tk tpos) (.Call (.Name "zip" p) [a,b] [] pos) (ZqN X.K ta):=by
 intro qa s σ H R I h;refine QbI (Zep I hg hm boot_zip ?_);refine QbU (thn (ha pos qa s σ H _ I h) fun us s1 ⟨vs,H1,I1,r1,l1,l2,e,⟨xs,hx⟩,⟨ys,hy⟩,q⟩=> ?_) (by rw[hs,hs2]) (by rw[hs2];rfl);subst e;obtain⟨u1,u2,rfl,rfl,rfl⟩:=ZkH r1;obtain⟨its1,rv1,p1,_⟩:=I1.tuple hx;obtain⟨its2,rv2,p2,_⟩:=I1.tuple hy;have a1:l1<s1.heap.objs.size:=by obtain⟨_,e,_⟩:=p1;exact Qan e
 have a2:l2<s1.heap.objs.size:=by obtain⟨_,e,_⟩:=p2;exact Qan e
 refine Zsw p1 p2 fun h' hz hTI hTO hi1 hi2 kp=> ?_;refine Qdk hz ?_;refine⟨_,[_,_,_,_,_],_,_,H1,rfl,I1.kept (t':=s1.toks) kp,Zmm l1 l2 _ _ _ _ _ (zipApart_new a1 a2),⟨hz,hTI,⟨_,_,hTO⟩,hi1,hi2⟩,fun c hc=> ?_,q⟩
 have hge:s1.heap.objs.size≤c:=by
  simp only[Qaw,Qa8,QcB] at hc;rcases hc with rfl|rfl|rfl|rfl|rfl
  ·exact Qcc _ _
  ·exact Qcc _ _
  ·exact Qcc _ _
  ·exact Qai _
  ·exact Qcc _ _
 exact I1.fpOk hge (I1.hok.fresh hge)
theorem ZpY {K:FJ}{k:Nat}{xs ys:List V}{tt:TT}{te:TE}{Q:VK}(Pv:Nat→List V→Hp→Prop)(h0:Pv 0 [] H)(hn:n=min xs.length ys.length)(hb:n≤1000)(hz:∀i zs H,Pv i zs H→zs.length≤i)(hl:∀i zs H,i≤n→Pv i zs H→SqT K H a xs∧SqT K H b ys)
  (hs:∀i x y zs H (pre:St) (p:Addr),pre.length=k→xs[i]?=some x→ys[i]?=some y→Pv i zs H→H p=none→g (.ref p) (pre++σ) (upd H p (.tup [x,y])) fun σ' H2=>(∃pre':St,σ'=pre'++σ∧pre'.length=k)∧tt σ' H2 fun ok H3=>if ok=true then te σ' H3 fun y H4=>Pv (i+1) (zs++ [y]) H4 else Pv (i+1) zs H3) (hd:∀zs H,Pv n zs H→∀D,H D=none→Q (.ref D) (upd H D (.lst zs))):CGo k (ZtZ K a b) g tt te Q σ H:=by
 refine⟨fun i m zs H=>m=n-i∧i≤n∧Pv i zs H,⟨n,by simp,QaS _,h0⟩,?_⟩;rintro i m zs H ⟨rfl,hi,p⟩;obtain⟨q1,q2⟩:=hl i zs H hi p;by_cases hlt:i<n
 ·have h1:i<xs.length:=by omega
  have h2:i<ys.length:=by omega
  refine .inr ⟨⟨xs,ys,xs[i],ys[i],q1,q2,by simp[h1],by simp[h2]⟩,QaF (hz i zs H p) (Zba (by omega)),Pv (i+1),fun zs H' p'=>⟨n-(i+1),by omega,rfl,hlt,p'⟩,fun x H' pre hp y=> ?_⟩;obtain⟨q,x1,y1,rfl,hq,rfl,e1,e2⟩:=y;exact hs i x1 y1 zs _ pre q hp (e1 xs q1) (e2 ys q2) p hq
 ·have e:i=n:=by omega
  subst e;refine .inl ⟨⟨xs,ys,q1,q2,?_⟩,hd zs H p⟩;by_cases hx:xs.length≤ys.length
  ·exact .inl (QaG (by omega))
  ·exact .inr (QaG (by omega))
theorem ZqO {K:FJ}{xs ys:List V}{tb:TS}{D:ZlJ}(Pv:Nat→St→Hp→Prop)(h0:Pv 0 σ H)(hn:n=min xs.length ys.length)(hl:∀i σ H,i≤n→Pv i σ H→SqL K H a xs∧SqL K H b ys)
  (hs:∀i x y σ H (p:Addr),xs[i]?=some x→ys[i]?=some y→Pv i σ H→H p=none→g (.ref p) σ (upd H p (.tup [x,y])) fun σ2 H2=>tb {D with nx:=Pv (i+1),ct:=Pv (i+1),bk:=D.nx } σ2 H2) (hd:∀σ H,Pv n σ H→D.nx σ H):
  ∃W:Nat→Nat→St→Hp→Prop,(∃m,W 0 m σ H)∧∀i m σ H,W i m σ H→
   ((Itz K a b).stop i H∧D.nx σ H)∨((Itz K a b).go i H∧∃N:St→Hp→Prop,(∀σ' H',N σ' H'→∃m',m'<m∧W (i+1) m' σ' H')∧∀x H',(Itz K a b).yld i H x H'→g x σ H' fun σ2 H2=>tb {D with nx:=N,ct:=N,bk:=D.nx } σ2 H2):=by
 refine⟨fun i m σ H=>m=n-i∧i≤n∧Pv i σ H,⟨n,by simp,QaS _,h0⟩,?_⟩;rintro i m σ H ⟨rfl,hi,p⟩;obtain⟨q1,q2⟩:=hl i σ H hi p;by_cases hlt:i<n
 ·have h1:i<xs.length:=by omega
  have h2:i<ys.length:=by omega
  refine .inr ⟨⟨xs,ys,xs[i],ys[i],q1,q2,by simp[h1],by simp[h2]⟩,Pv (i+1),fun σ' H' p'=>⟨n-(i+1),by omega,rfl,hlt,p'⟩,fun x H' y=> ?_⟩;obtain⟨q,x1,y1,rfl,hq,rfl,e1,e2⟩:=y;exact hs i x1 y1 σ _ q (e1 xs q1) (e2 ys q2) p hq
 ·have e:i=n:=by omega
  subst e;refine .inl ⟨⟨xs,ys,q1,q2,?_⟩,hd σ H p⟩;by_cases hx:xs.length≤ys.length
  ·exact .inl (QaG (by omega))
  ·exact .inr (QaG (by omega))
end
end L2
namespace Toy
open PySem L2 PyProof.Rows
variable {lo x p m:Int}{u v:List Int}
theorem ZbJ:∀{R:Wl} {rm p:Int},(∀e∈R,0<e.1)→0≤p→p<rm→atW (Zbh rm R) p=atW R p
 | [],rm,p,_,_,_=>by unfold Zbh;rfl
 | (m,u)::R,rm,p,h,p0,p1=>by
  have m0:0<m:=h (m,u) Qah;unfold Zbh;rw[Qp (by omega)];show atW ((mn m rm,u)::Zbh (rm-mn m rm) R) p=_;have q:=ZiJ m rm;by_cases z:p<mn m rm
  ·rw[atW_lt z,atW_lt (by omega)]
  ·have em:mn m rm=m:=by omega
   rw[em] at z⊢;rw[atW_ge (by omega),atW_ge (by omega)];exact ZbJ (fun e he=>h e (Qag _ he)) (by omega) (by omega)
theorem ZbK:∀{R:Wl} {a p:Int},(∀e∈R,0<e.1)→0≤a→0≤p→atW (ZbH a R) p=atW R (p+a)
 | [],a,p,_,_,_=>by unfold ZbH;rfl
 | (m,u)::R,a,p,h,a0,p0=>by
  have m0:0<m:=h (m,u) Qah;unfold ZbH;by_cases z:a≤0
  ·rw[Qp z,show p+a=p by omega]
  ·rw[Qn z];by_cases z2:a<m
   ·rw[Qp (show a<(m,u).fst from z2)];show atW ((m-a,u)::R) p=_;by_cases z3:p<m-a
    ·rw[atW_lt z3,atW_lt (by omega)]
    ·rw[atW_ge (by omega),atW_ge (by omega),show p-(m-a)=p+a-m by omega]
   ·rw[Qn (show ¬a<(m,u).fst from z2)];show atW (ZbH (a-m) R) p=_;rw[ZbK (fun e he=>h e (Qag _ he)) (by omega) p0,atW_ge (by omega),show p+(a-m)=p+a-m by omega]
theorem tot_takeF:∀{R:Wl} {rm:Int},(∀e∈R,0<e.1)→0≤rm→rm≤tot R→tot (Zbh rm R)=rm
 | [],rm,_,h0,h1=>by rw[ZaI] at h1;unfold Zbh;rw[ZaI];omega
 | (m,u)::R,rm,h,h0,h1=>by
  have m0:0<m:=h (m,u) Qah;rw[ZaD] at h1;have h1:rm≤m+tot R:=h1;have q:=ZiJ m rm;have pR:=tot_pos0 (M:=R) fun e he=>Qa9 (h e (Qag _ he));unfold Zbh;rw[ZaZ];show _+tot (Zbh (rm-mn m rm) R)=rm;rw[tot_takeF (fun e he=>h e (Qag _ he)) (by omega) (by omega)];by_cases z:0<rm
  ·rw[Qp z,ZaD,ZaI];show mn m rm+0+(rm-mn m rm)=rm;omega
  ·rw[Qn z,ZaI];have:mn m rm=rm:=by omega
   omega
theorem tot_dropF:∀{R:Wl} {a:Int},(∀e∈R,0<e.1)→0≤a→a≤tot R→tot (ZbH a R)=tot R-a
 | [],a,_,h0,h1=>by rw[ZaI] at h1;unfold ZbH;rw[ZaI];omega
 | (m,u)::R,a,h,h0,h1=>by
  rw[ZaD] at h1⊢;have h1:a≤m+tot R:=h1;show _=m+tot R-a;unfold ZbH;by_cases z:a≤0
  ·rw[Qp z,ZaD];show m+tot R=_;omega
  ·rw[Qn z];by_cases z2:a<m
   ·rw[Qp (show a<(m,u).fst from z2),ZaD];show m-a+tot R=_;omega
   ·rw[Qn (show ¬a<(m,u).fst from z2)];show tot (ZbH (a-m) R)=_;rw[tot_dropF (fun e he=>h e (Qag _ he)) (by omega) (by omega)];omega
abbrev Sl:=List (Int×Int×List Int)
def co (u:List Int)(i:Nat):Int:=u.getD i 0
theorem Zka (hl:u.length=v.length)(h:∀i,co u i=co v i):u=v:=by
 apply Qcx;intro i
 have:=h i;unfold co at this;rw[Qaz,Qaz] at this;by_cases z:i<u.length
 ·rw[Qad z,Qad (by omega)] at this⊢;exact congrArg some this
 ·rw[QaG (by omega),QaG (by omega)]
theorem Zgi (i:Nat)(hl:u.length=v.length):co (List.zipWith (fun a b=>a+b) u v) i=co u i+co v i:=by
 unfold co;rw[Qaz,Qaz,Qaz,QcK];by_cases z:i<u.length
 ·rw[Qad z,Qad (by omega)];rfl
 ·rw[QaG (by omega),QaG (by omega)];rfl
theorem ZeG (u:List Int)(k:Int)(i:Nat):co (u.map (· *k)) i=co u i*k:=by
 unfold co;rw[Qaz,Qaz,Qao]
 cases u[i]? with
 |none=>show(0:Int)=0*k;omega
 |some x=>rfl
def st (x p:Int):Int:=if x≤p then 1 else 0
def eqi (x k:Int):Int:=if x=k then 1 else 0
def tm (s:Int×Int×List Int)(p:Int)(i:Nat):Int:=co s.2.2 i*(st s.1 p-st s.2.1 p)
def rt (s:Int×Int×List Int)(k:Int)(i:Nat):Int:=co s.2.2 i*(eqi s.1 k-eqi s.2.1 k)
def FF:Sl→Int→Nat→Int
 | [],_,_=>0
 |s::S,p,i=>tm s p i+FF S p i
def RR:Sl→Int→Nat→Int
 | [],_,_=>0
 |s::S,k,i=>rt s k i+RR S k i
def Ze1 (S:Sl)(k:Int):Prop:=∃s∈S,s.1=k∨s.2.1=k
theorem Zmn {z y:Int}(hxy:x<y)(h:z≤y→z≤x∨z=y):st z y=st z x+eqi z y:=by
 unfold st eqi;by_cases h1:z≤y
 ·rcases h h1 with q|q
  ·rw[Qp h1,Qp q,Qn (by omega)];rfl
  ·rw[Qp h1,Qn (by omega),Qp q];rfl
 ·rw[Qn h1,Qn (by omega),Qn (by omega)];rfl
theorem Zmo:∀{S:Sl} {x y:Int} (i:Nat),x<y→(∀k,Ze1 S k→k≤y→k≤x∨k=y)→FF S y i=FF S x i+RR S y i
 | [],x,y,i,_,_=>rfl
 |s::S,x,y,i,hxy,h=>by
  have ih:=Zmo (S:=S) i hxy fun k ⟨s',hs,hk⟩=>h k ⟨s',Qag _ hs,hk⟩;have e1:=Zmn hxy fun q=>h s.1 ⟨s,Qah,.inl rfl⟩ q;have e2:=Zmn hxy fun q=>h s.2.1 ⟨s,Qah,.inr rfl⟩ q;show tm s y i+FF S y i=tm s x i+FF S x i+(rt s y i+RR S y i);rw[ih]
  have:tm s y i=tm s x i+rt s y i:=by
   unfold tm rt;rw[e1,e2,←QcX];congr 1;omega
  rw[this];omega
theorem Zmp:∀{S:Sl} {x y:Int} (i:Nat),x≤y→(∀k,Ze1 S k→k≤y→k≤x)→FF S y i=FF S x i
 | [],x,y,i,_,_=>rfl
 |s::S,x,y,i,hxy,h=>by
  have ih:=Zmp (S:=S) i hxy fun k ⟨s',hs,hk⟩=>h k ⟨s',Qag _ hs,hk⟩
  have key:∀z,(z≤y→z≤x)→st z y=st z x:=fun z q=>by
   unfold st;by_cases h1:z≤y
   ·rw[Qp h1,Qp (q h1)]
   ·rw[Qn h1,Qn (by omega)]
  show tm s y i+FF S y i=tm s x i+FF S x i;rw[ih];unfold tm;rw[key s.1 fun q=>h s.1 ⟨s,Qah,.inl rfl⟩ q,key s.2.1 fun q=>h s.2.1 ⟨s,Qah,.inr rfl⟩ q]
theorem ZpZ:∀{S:Sl} {x:Int} (i:Nat),(∀k,Ze1 S k→x<k)→FF S x i=0
 | [],_,_,_=>rfl
 |s::S,x,i,h=>by
  have ih:=ZpZ (S:=S) (x:=x) i fun k ⟨s',hs,hk⟩=>h k ⟨s',Qag _ hs,hk⟩;have h1:=h s.1 ⟨s,Qah,.inl rfl⟩;have h2:=h s.2.1 ⟨s,Qah,.inr rfl⟩;show tm s x i+FF S x i=0;rw[ih];unfold tm st;rw[Qn (by omega),Qn (by omega)];simp
theorem Zsy (S T:Sl)(p:Int)(i:Nat):FF (S++T) p i=FF S p i+FF T p i:=by
 induction S with
 |nil=>show _=0+_;rw[QbS];rfl
 |cons s S ih=>show tm s p i+FF (S++T) p i=tm s p i+FF S p i+FF T p i;rw[ih];omega
abbrev Ev:=List (Int×List Int)
def RE:Ev→Int→Nat→Int
 | [],_,_=>0
 |x::E,k,i=>co x.2 i*eqi x.1 k+RE E k i
theorem Zp0 (E F:Ev)(k:Int)(i:Nat):RE (E++F) k i=RE E k i+RE F k i:=by
 induction E with
 |nil=>show _=0+_;rw[QbS];rfl
 |cons x E ih=>show _+RE (E++F) k i=_+RE E k i+RE F k i;rw[ih];omega
def evs (S:Sl):Ev:=S.flatMap fun s=>[(s.1,s.2.2),(s.2.1,s.2.2.map (· * -1))]
theorem ZqP (S T:Sl):evs (S++T)=evs S++evs T:=by unfold evs;rw[List.flatMap_append]
theorem Zp1:∀(S:Sl)(k:Int)(i:Nat),RE (evs S) k i=RR S k i
 | [],_,_=>rfl
 |s::S,k,i=>by
  have e:evs (s::S)=[(s.1,s.2.2),(s.2.1,s.2.2.map (· * -1))]++evs S:=rfl;rw[e,Zp0,Zp1 S k i];show co s.2.2 i*eqi s.1 k+(co (s.2.2.map (· * -1)) i*eqi s.2.1 k+0)+RR S k i=rt s k i+RR S k i;rw[ZeG];unfold rt;rw[Int.mul_sub,Int.mul_assoc,Int.neg_mul,Int.one_mul,Int.mul_neg];omega
theorem ZqQ {S:Sl}{k:Int}:(∃x∈evs S,x.1=k)↔Ze1 S k:=by
 constructor
 ·rintro⟨x,hx,rfl⟩;obtain⟨s,hs,h⟩:=Qem.mp hx;rcases Qaw.mp h with rfl|h
  ·exact⟨s,hs,.inl rfl⟩
  ·rw[Qal.mp h];exact⟨s,hs,.inr rfl⟩
 ·rintro⟨s,hs,h|h⟩
  ·exact⟨(s.1,s.2.2),Qem.mpr ⟨s,hs,by simp⟩,h⟩
  ·exact⟨(s.2.1,s.2.2.map (· * -1)),Qem.mpr ⟨s,hs,by simp⟩,h⟩
def mn (b t:Int):Int:=if t<b then t else b
def mx (b:Int):Int:=if 0>b then 0 else b
theorem Zkb {t:Int}(ht:0<t)(hp:0≤p)(hpt:p<t):(x+t-1-p)/t=x/t+if p<x%t then 1 else 0:=by
 have e:=Qdf x t;have m0:=QaX x (by omega:t≠0);have m1:=QaQ x ht;have e2:x+t-1-p=(x%t+t-1-p)+t*(x/t):=by omega
 rw[e2,QbT _ _ (by omega:t≠0)];split
 ·have e3:x%t+t-1-p=(x%t-1-p)+t*1:=by omega
  rw[e3,QbT _ _ (by omega:t≠0),Qby (by omega) (by omega)];omega
 ·rw[Qby (by omega) (by omega)];omega
theorem ZhI {t:Int}(ht:0<t):(lo+m)/t=lo/t+m/t+(if lo%t+m%t<t then 0 else 1)∧(lo+m) %t=(if lo%t+m%t<t then lo%t+m%t else lo%t+m%t-t):=by
 have e1:=Qdf lo t;have e2:=Qdf m t;have a0:=QaX lo (by omega:t≠0);have a1:=QaQ lo ht;have b0:=QaX m (by omega:t≠0);have b1:=QaQ m ht;have tt:t≠0:=by omega
 split
 ·have e3:lo+m=(lo%t+m%t)+t*(lo/t+m/t):=by rw[QcX];omega
  constructor
  ·rw[e3,QbT _ _ tt,Qby (by omega) (by omega)];omega
  ·rw[e3,Qcm,Qdc (by omega) (by omega)]
 ·have e3:lo+m=(lo%t+m%t-t)+t*(lo/t+m/t+1):=by rw[QcX,QcX];omega
  constructor
  ·rw[e3,QbT _ _ tt,Qby (by omega) (by omega)];omega
  ·rw[e3,Qcm,Qdc (by omega) (by omega)]
theorem Zox {t:Int}(ht:0<t)(hp:0≤p)(hpt:p<t):(lo+m+t-1-p)/t-(lo+t-1-p)/t=m/t*(st 0 p-st t p)+(st (lo%t) p-st (mn (lo%t+m%t) t) p)+(st 0 p-st (mx (lo%t+m%t-t)) p):=by
 rw[Zkb ht hp hpt,Zkb ht hp hpt];obtain⟨e1,e2⟩:=ZhI (lo:=lo) (m:=m) ht;have a0:=QaX lo (by omega:t≠0);have a1:=QaQ lo ht;have b0:=QaX m (by omega:t≠0);have b1:=QaQ m ht;rw[e1,e2];have s0:st 0 p=1:=by unfold st;rw[Qp hp]
 have s1:st t p=0:=by unfold st;rw[Qn (by omega)]
 rw[s0,s1,Qde,Qc9];generalize lo/t=A;generalize m/t=B;generalize lo%t=a at*;generalize m%t=b at*;unfold st mn mx;by_cases h1:a+b<t
 ·rw[Qp h1,Qp h1,Qn (by omega:¬t<a+b)];by_cases h2:(0:Int)>a+b-t
  ·rw[Qp h2,Qp hp]
   repeat' split
   all_goals omega
  ·omega
 ·rw[Qn h1,Qn h1];rw[Qn (by omega:¬(0:Int)>a+b-t)];have h3:(if t<a+b then t else a+b)=t:=by split<;>omega
  rw[h3,Qn (by omega:¬t≤p)]
  repeat' split
  all_goals omega
def GG (t p:Int)(i:Nat):Wl→Int→Int
 | [],_=>0
 | (m,w)::A,lo=>co w i*((lo+m+t-1-p)/t-(lo+t-1-p)/t)+GG t p i A (lo+m)
def ws1 (t:Int)(e:Int×List Int)(lo:Int):Sl:=[(0,t,e.2.map (· *(e.1/t))),(lo%t,mn (lo%t+e.1%t) t,e.2),(0,mx (lo%t+e.1%t-t),e.2)]
def wst (t:Int):Wl→Int→Sl
 | [],_=>[]
 |e::A,lo=>ws1 t e lo++wst t A (lo+e.1)
theorem Zkc {t:Int}:∀{A:Wl} {e:Int×List Int} {lo:Int},wst t (A++ [e]) lo=wst t A lo++ws1 t e (lo+tot A)
 | [],e,lo=>by rw[ZaI,QbB];show ws1 t e lo++ []=[]++ws1 t e lo;rw[Qa5,Qb6]
 |d::A,e,lo=>by
  show ws1 t d lo++wst t (A++ [e]) (lo+d.1)=ws1 t d lo++wst t A (lo+d.1)++ws1 t e (lo+tot (d::A));rw[Zkc,ZaD,Qa7,show lo+d.1+tot A=lo+(d.1+tot A) by omega]
theorem Zp2 {t p:Int}(ht:0<t)(hp:0≤p)(hpt:p<t)(i:Nat):∀(A:Wl)(lo:Int),FF (wst t A lo) p i=GG t p i A lo
 | [],_=>rfl
 | (m,w)::A,lo=>by
  show FF (ws1 t (m,w) lo++wst t A (lo+m)) p i=_+GG t p i A (lo+m);rw[Zsy,Zp2 ht hp hpt i A (lo+m)]
  have:FF (ws1 t (m,w) lo) p i=co w i*((lo+m+t-1-p)/t-(lo+t-1-p)/t):=by
   rw[Zox ht hp hpt];show co (w.map (· *(m/t))) i*(st 0 p-st t p)+(co w i*(st (lo%t) p-st (mn (lo%t+m%t) t) p)+(co w i*(st 0 p-st (mx (lo%t+m%t-t)) p)+0))=_;rw[ZeG,Int.mul_assoc,QcX,QcX];omega
  rw[this]
theorem ZqR {t:Int}{e:Int×List Int}(ht:0<t){s:Int×Int×List Int}(h:s∈ws1 t e lo):0≤s.1∧s.1≤t∧0≤s.2.1∧s.2.1≤t∧s.2.2.length=e.2.length∧
  (s.1=0∨s.1=lo%t)∧(s.2.1=0∨s.2.1=t∨s.2.1=(lo+e.1) %t):=by
 obtain⟨e1,e2⟩:=ZhI (lo:=lo) (m:=e.1) ht;have a0:=QaX lo (by omega:t≠0);have a1:=QaQ lo ht;have b0:=QaX e.1 (by omega:t≠0);have b1:=QaQ e.1 ht;unfold ws1 at h;rcases Qaw.mp h with rfl|h
 ·exact⟨QaL _,Qa9 ht,Qa9 ht,QaL _,by simp,.inl rfl,.inr (.inl rfl)⟩
 rcases Qaw.mp h with rfl|h
 ·have q:mn (lo%t+e.1%t) t=t∨(mn (lo%t+e.1%t) t=(lo+e.1) %t):=by
   rw[e2];unfold mn;by_cases z:lo%t+e.1%t<t
   ·rw[Qp z,Qn (by omega)];exact .inr rfl
   ·refine .inl ?_;split<;>omega
  have q2:0≤mn (lo%t+e.1%t) t∧mn (lo%t+e.1%t) t≤t:=by unfold mn;split<;>omega
  exact⟨a0,by show lo%t≤t;omega,q2.1,q2.2,rfl,.inr rfl,.inr q⟩
 ·rw[Qal.mp h]
  have q:mx (lo%t+e.1%t-t)=0∨(mx (lo%t+e.1%t-t)=(lo+e.1) %t):=by
   rw[e2];unfold mx;by_cases z:lo%t+e.1%t<t
   ·rw[Qp (by omega)];exact .inl rfl
   ·rw[Qn (by omega),Qn z];exact .inr rfl
  have q2:0≤mx (lo%t+e.1%t-t)∧mx (lo%t+e.1%t-t)≤t:=by unfold mx;split<;>omega
  exact⟨by omega,by show(0:Int)≤t;omega,q2.1,q2.2,rfl,.inl rfl,q.imp id .inr⟩
theorem Zgj {t:Int}(ht:0<t):∀{A:Wl} {lo:Int} {s:Int×Int×List Int},s∈wst t A lo→0≤s.1∧s.1≤t∧0≤s.2.1∧s.2.1≤t∧(∃e∈A,s.2.2.length=e.2.length)∧
  (s.1=0∨∃j,j≤A.length∧s.1=(lo+tot (A.take j)) %t)∧(s.2.1=0∨s.2.1=t∨∃j,j≤A.length∧s.2.1=(lo+tot (A.take j)) %t)
 | [],lo,s,h=>by cases h
 |e::A,lo,s,h=>by
  rcases Qap.mp (show s∈ws1 t e lo++wst t A (lo+e.1) from h) with h|h
  ·obtain⟨h1,h2,h3,h4,h5,h6,h7⟩:=ZqR ht h;have z0:lo+tot ((e::A).take 0)=lo:=by rw[Qct,ZaI];omega
   have z1:lo+tot ((e::A).take 1)=lo+e.1:=by rw[List.take_succ_cons,Qct,ZaD,ZaI];omega
   exact⟨h1,h2,h3,h4,⟨e,Qah,h5⟩,h6.imp id fun q=>⟨0,QaS _,by rw[z0];exact q⟩,h7.imp id (Or.imp id fun q=>⟨1,by simp,by rw[z1];exact q⟩)⟩
  ·obtain⟨h1,h2,h3,h4,⟨d,hd,h5⟩,h6,h7⟩:=Zgj ht h;have z:∀j,lo+tot ((e::A).take (j+1))=lo+e.1+tot (A.take j):=fun j=>by rw[List.take_succ_cons,ZaD];omega
   exact⟨h1,h2,h3,h4,⟨d,Qag _ hd,h5⟩,h6.imp id fun⟨j,hj,q⟩=>⟨j+1,by simp;exact hj,by rw[z];exact q⟩,h7.imp id (Or.imp id fun⟨j,hj,q⟩=>⟨j+1,by simp;exact hj,by rw[z];exact q⟩)⟩
theorem Zkd:∀{l m:List Int},l.Nodup→(∀x∈l,x∈m)→l.length≤m.length
 | [],m,_,_=>QaS _
 |a::l,m,h,hm=>by
  rw[QbV] at h;have ha:=hm a Qah
  have:=Zkd (m:=m.erase a) h.2 fun x hx=>(List.mem_erase_of_ne (fun z:x=a=>h.1 (by rw[←z];exact hx))).mpr (hm x (Qag _ hx));rw[List.length_erase_of_mem ha] at this
  have:0<m.length:=List.length_pos_of_mem ha;simp only[QaB];omega
end Toy
namespace L2
open PySem PySem.Spec PyProof.Rows
variable {H H':Hp}{w:World}{a b:Addr}{X:Cx}{s:Shared}{u r v:Value}{A:Around}{P prog:Program}{E Q:Value→Shared→Prop}{m n i j f:Nat}{σ:St}{rk:Value→Int}{xs a0:Array Keyed}{qa:List (Addr×Obj)}{h h':Heap}{o value e:Expr}{td ty:TE}{T:String}{tpos qg qd:PySem.Pos}{ks:List (List Int)}{x y:List Int}
def C2 (a:Addr)(h:Heap):Prop:=∃o vs,h.get? a=some o∧o.data= .fields vs∧vs[2]?=some Value.none
section
variable {κ:Type} [DecidableEq κ]
def Zc5 (kvs:List (κ×V))(k:κ):Option V:=(kvs.find? fun kv=>decide (kv.1=k)).map (·.2)
def Zc3 (kvs:List (κ×V))(k:κ)(v:V):List (κ×V):=
 if(kvs.any fun kv=>decide (kv.1=k))=true then kvs.map (fun kv=>if kv.1=k then(kv.1,v) else kv) else kvs++ [(k,v)]
theorem Zoy {k:κ}:Zc5 ([]:List (κ×V)) k=none:=rfl
theorem Zby {p:κ×V}{r:List (κ×V)}{k:κ}(e:p.1=k):Zc5 (p::r) k=some p.2:=by simp[Zc5,Qb7,e]
theorem Zbz {p:κ×V}{r:List (κ×V)}{k:κ}(e:¬p.1=k):Zc5 (p::r) k=Zc5 r k:=by simp[Zc5,Qb7,e]
theorem Zcx (k:κ):∀kvs:List (κ×V),(kvs.any fun kv=>decide (kv.1=k))=(Zc5 kvs k).isSome
 | []=>rfl
 |p::r=>by
  rw[QcL];by_cases e:p.1=k
  ·simp only[Zby e,Qam e,Bool.true_or,Option.isSome_some]
  ·rw[Zbz e,QaC e,Bool.false_or];exact Zcx k r
theorem Zke (k j:κ)(y:V):∀kvs:List (κ×V),Zc5 (kvs.map fun kv=>if kv.1=k then(kv.1,y) else kv) j=(Zc5 kvs j).map fun x=>if j=k then y else x
 | []=>rfl
 |p::r=>by
  have ih:=Zke k j y r;rw[QaD];by_cases h:p.1=k
  ·rw[Qp h];by_cases e:p.1=j
   ·rw[Zby (p:=(p.1,y)) e,Zby e,QdE,Qp (e.symm.trans h)]
   ·rw[Zbz (p:=(p.1,y)) e,Zbz e,ih]
  ·rw[Qn h];by_cases e:p.1=j
   ·rw[Zby (p:=p) e,Zby e,QdE,Qn (fun z=>h (e.trans z))]
   ·rw[Zbz (p:=p) e,Zbz e,ih]
theorem ZhJ (k j:κ)(y:V):∀kvs:List (κ×V),Zc5 kvs k=none→Zc5 (kvs++ [(k,y)]) j=if j=k then some y else Zc5 kvs j
 | [],_=>by
  by_cases e:k=j
  ·rw[Qp e.symm];exact Zby (p:=(k,y)) e
  ·rw[Qn (fun z=>e z.symm)];exact Zbz (p:=(k,y)) e
 |p::r,hn=>by
  rw[Qdl];have hk:¬p.1=k:=fun z=>by rw[Zby z] at hn;cases hn
  rw[Zbz hk] at hn;have ih:=ZhJ k j y r hn;by_cases e:p.1=j
  ·rw[Zby e,Zby e,Qn (fun z=>hk (e.trans z))]
  ·rw[Zbz e,Zbz e,ih]
theorem Zgk (kvs:List (κ×V))(k j:κ)(y:V):Zc5 (Zc3 kvs k y) j=if j=k then some y else Zc5 kvs j:=by
 unfold Zc3;by_cases a:(kvs.any fun kv=>decide (kv.1=k))=true
 ·rw[Qp a,Zke];rw[Zcx] at a;by_cases e:j=k
  ·obtain⟨x,hx⟩:=Qcw.mp a;rw[Qp e,e,hx,QdE,Qp rfl]
  ·rw[Qn e]
   cases Zc5 kvs j with
   |none=>rfl
   |some x=>rw[QdE,Qn e]
 ·rw[Qn a];refine ZhJ k j y kvs ?_;rw[Zcx] at a
  cases q:Zc5 kvs k with
  |none=>rfl
  |some x=>rw[q] at a;exact(a rfl).elim
theorem ZcS (kvs:List (κ×V))(k:κ)(v:V):(Zc3 kvs k v).length≤kvs.length+1:=by
 unfold Zc3;split
 ·rw[Qaf];omega
 ·rw[Qae,QaB,QbM];omega
theorem Zoz {kvs:List (κ×V)}{k:κ}(v:V)(h:Zc5 kvs k=none):Zc3 kvs k v=kvs++ [(k,v)]:=by
 unfold Zc3;rw[Zcx,h];exact Qn (by decide)
theorem Zhi.isSome_eq {o:Option V}{u:Option Value}(r:Zhi o u):o.isSome=u.isSome:=by
 cases o with
 |none=>cases u with
  |none=>rfl
  |some _=>exact(show False from r).elim
 |some _=>cases u with
  |none=>exact(show False from r).elim
  |some _=>rfl
theorem Zhi.getD {o:Option V}{u:Option Value}{d:V}{d':Value}(r:Zhi o u)(rd:Zbf d d'):Zbf (o.getD d) (u.getD d'):=by
 cases o with
 |none=>cases u with
  |none=>exact rd
  |some _=>exact(show False from r).elim
 |some _=>cases u with
  |none=>exact(show False from r).elim
  |some _=>exact r
theorem KV.val {kvs:List (κ×V)}{vs:List (κ×Value)}(r:KV kvs vs)(k:κ):Zhi (Zc5 kvs k) (valueAt vs k):=by
 unfold KV at r
 induction r with
 |nil=>exact Qco
 | @cons p q ps qs h t ih=>
  obtain⟨h1,h2⟩:=h;by_cases e:p.1=k
  ·have e':q.1=k:=h1.symm.trans e;have b:valueAt (q::qs) k=some q.2:=by simp[valueAt,Qb7,e']
   rw[Zby e,b];exact h2
  ·have e':¬q.1=k:=fun z=>e (h1.trans z);have b:valueAt (q::qs) k=valueAt qs k:=by simp[valueAt,Qb7,e']
   rw[Zbz e,b];exact ih
theorem KV.any {kvs:List (κ×V)}{vs:List (κ×Value)}(r:KV kvs vs)(k:κ):(kvs.any fun kv=>decide (kv.1=k))=vs.any fun kv=>decide (kv.1=k):=by
 unfold KV at r
 induction r with
 |nil=>rfl
 |cons h t ih=>rw[QcL,QcL,ih,h.1]
theorem KV.repl {kvs:List (κ×V)}{vs:List (κ×Value)}(r:KV kvs vs)(k:κ){y:V}(ry:Zbf y u):
  KV (kvs.map fun kv=>if kv.1=k then(kv.1,y) else kv) (vs.map fun kv=>if kv.1=k then(kv.1,u) else kv):=by
 unfold KV at r⊢
 induction r with
 |nil=>exact .nil
 | @cons p q ps qs h t ih=>
  rw[QaD,QaD];refine .cons ?_ ih;obtain⟨h1,h2⟩:=h;by_cases e:p.1=k
  ·rw[Qp e,Qp (h1.symm.trans e)];exact⟨h1,ry⟩
  ·rw[Qn e,Qn (fun z=>e (h1.trans z))];exact⟨h1,h2⟩
theorem KV.put {kvs:List (κ×V)}{vs:List (κ×Value)}(r:KV kvs vs)(k:κ){y:V}(ry:Zbf y u):KV (Zc3 kvs k y) (stored vs k u):=by
 unfold Zc3 stored;rw[r.any k];by_cases e:(vs.any fun kv=>decide (kv.1=k))=true
 ·rw[Qp e,Qp e];exact r.repl k ry
 ·rw[Qn e,Qn e];exact Paired.snoc r ⟨rfl,ry⟩
theorem KV.keys {kvs:List (κ×V)}{vs:List (κ×Value)}(r:KV kvs vs):kvs.map (·.1)=vs.map (·.1):=by
 unfold KV at r
 induction r with
 |nil=>rfl
 |cons h t ih=>rw[QaD,QaD,ih,h.1]
theorem KV.length {kvs:List (κ×V)}{vs:List (κ×Value)}(r:KV kvs vs):kvs.length=vs.length:=Qd9 r
end
theorem Zmq {k:Key}(r:Zbf (kV k) u):(Za3 P w).is k u=true:=by
 cases k with
 |inl i=>obtain⟨t,e⟩:=(show∃t,u=Value.int i t from r);subst e;exact Ziw P w i t
 |inr x=>obtain⟨t,e⟩:=(show∃t,u=Value.str x t from r);subst e;exact Zix P w x t
theorem ZhK {P:Program}{w:World}:∀{ks:List Key} {us:List Value},Zbg (ks.map kV) us→ItemsAre (Za3 P w) ks us
 | [],_,r=>by rw[Qez] at r;cases r;exact .nil
 |k::ks,_,r=>by
  rw[QaD] at r
  cases r with
  |cons h t=>exact .cons (Zmq h) (ZhK t)
abbrev KT (H:Hp):List (List Key×V)→List (List Key×Addr×Value)→Prop:=Paired fun p q=>p.1=q.1∧H q.2.1=some (.tup (p.1.map kV))∧Zbf p.2 q.2.2
theorem KT.val {kvs:List (List Key×V)}{xs:List (List Key×Addr×Value)}(r:KT H kvs xs)(k:List Key):Zhi (Zc5 kvs k) ((atKey xs k).map (·.2)):=by
 induction r with
 |nil=>exact Qco
 | @cons p q ps qs h t ih=>
  obtain⟨h1,_,h2⟩:=h;by_cases e:p.1=k
  ·have e':q.1=k:=h1.symm.trans e;have b:atKey (q::qs) k=some q.2:=by simp[atKey,Qb7,e']
   rw[Zby e,b];exact h2
  ·have e':¬q.1=k:=fun z=>e (h1.trans z);have b:atKey (q::qs) k=atKey qs k:=by simp[atKey,Qb7,e']
   rw[Zbz e,b];exact ih
theorem KT.repl {kvs:List (List Key×V)}{xs:List (List Key×Addr×Value)}(r:KT H kvs xs)(k:List Key){y:V}(ry:Zbf y u):
  KT H (kvs.map fun kv=>if kv.1=k then(kv.1,y) else kv) (xs.map (putAt k u)):=by
 induction r with
 |nil=>exact .nil
 | @cons p q ps qs h t ih=>
  rw[QaD,QaD];refine .cons ?_ ih;obtain⟨h1,h2,h3⟩:=h;unfold putAt;by_cases e:p.1=k
  ·rw[Qp e,Qp (h1.symm.trans e)];exact⟨h1,h2,ry⟩
  ·rw[Qn e,Qn (fun z=>e (h1.trans z))];exact⟨h1,h2,h3⟩
theorem KT.put {kvs:List (List Key×V)}{xs:List (List Key×Addr×Value)}(r:KT H kvs xs)(k:List Key){y:V}(hb:H b=some (.tup (k.map kV)))(ry:Zbf y u):
  KT H (Zc3 kvs k y) (storedH xs k b u):=by
 have e:(kvs.any fun kv=>decide (kv.1=k))=(atKey xs k).isSome:=by
  rw[Zcx,(r.val k).isSome_eq,Option.isSome_map]
 unfold Zc3 storedH;rw[e];by_cases q:(atKey xs k).isSome=true
 ·rw[Qp q,Qp q];exact r.repl k ry
 ·rw[Qn q,Qn q];exact Paired.snoc r ⟨rfl,hb,ry⟩
theorem KT.keeps {kvs:List (List Key×V)}{xs:List (List Key×Addr×Value)}(r:KT H kvs xs)(ht:∀b ys,H b=some (.tup ys)→H' b=some (.tup ys)):KT H' kvs xs:=
 Paired.mapP r fun _ _ z=>⟨z.1,ht _ _ z.2.1,z.2.2⟩
theorem Zsz {u:HO}(ok:HOk P w H h)(e:Rd H a u):Zbw P w H h a u:=e.ok ok
theorem ZkW {kvs:List (Key×V)}(ok:HOk P w H h)(e:Rd H a (.dK kvs)):kvs.length≤sizeLine∧(a==sysModules)=false∧∃vs,KV kvs vs∧h.DictOf (Za3 P w) a vs:=
 show Zbw P w H h a (.dK kvs) from Zsz ok e
theorem ZqS {kvs:List (Key×V)}(ok:HOk P w H h)(e:H a=some (.dK kvs)):kvs.length≤sizeLine∧(a==sysModules)=false∧∃vs,KV kvs vs∧h.DictOf (Za3 P w) a vs:=ZkW ok (.inl e)
theorem ZhL {ks:List Key}(ok:HOk P w H h)(e:H a=some (.tup (ks.map kV))):(tupleKind (Za3 P w)).is h ks a:=by
 obtain⟨_,its,r,o,h1,h2,n,h3⟩:=(show Zbw P w H h a (.tup (ks.map kV)) from ok a _ e);exact⟨o,its.toArray,n,h1,h2,h3,by simpa using ZhK r⟩
theorem ZkX {kvs:List (List Key×V)}(ok:HOk P w H h)(e:Rd H a (.dT kvs)):kvs.length≤sizeLine∧(a==sysModules)=false∧
  ∃xs,KT H kvs xs∧h.DictOfH (tupleKind (Za3 P w)) a xs:=by
 obtain⟨z,y,xs,r,o,es,ep,h1,h2,h3,h4,h5⟩:=(show Zbw P w H h a (.dT kvs) from Zsz ok e);refine⟨z,y,xs,r,o,es,ep,h1,h2,h3,h4,fun x hx=> ?_,h5⟩
 have all:∀{l:List (List Key×V)} {m:List (List Key×Addr×Value)},KT H l m→∀x∈m,(tupleKind (Za3 P w)).is h x.1 x.2.1:=by
  intro l m q
  induction q with
  |nil=>intro x hx;exact nomatch hx
  | @cons p q ps qs hq t ih=>
   intro x hx;rcases Qaw.mp hx with e|hx
   ·subst e;exact ZhL ok (by rw[←hq.1];exact hq.2.1)
   ·exact ih x hx
 exact all r x hx
theorem Zt0 {kvs:List (List Key×V)}(ok:HOk P w H h)(e:H a=some (.dT kvs)):kvs.length≤sizeLine∧(a==sysModules)=false∧
  ∃xs,KT H kvs xs∧h.DictOfH (tupleKind (Za3 P w)) a xs:=ZkX ok (.inl e)
def ZfT (H:Hp)(a:Addr)(y:V)(r:Option V):Prop:=
 (∃kvs k,Rd H a (.dK kvs)∧y=kV k∧r=Zc5 kvs k)∨∃kvs k b,Rd H a (.dT kvs)∧y= .ref b∧H b=some (.tup (k.map kV))∧r=Zc5 kvs k
def ZlL (H:Hp)(a:Addr)(y v:V)(H':Hp):Prop:=
 (∃kvs k,H a=some (.dK kvs)∧y=kV k∧kvs.length<sizeLine∧H'=upd H a (.dK (Zc3 kvs k v)))∨
 ∃kvs k b,H a=some (.dT kvs)∧y= .ref b∧H b=some (.tup (k.map kV))∧kvs.length<sizeLine∧H'=upd H a (.dT (Zc3 kvs k v))
theorem ZfT.k {H:Hp}{a:Addr}{kvs:List (Key×V)}{k:Key}(e:H a=some (.dK kvs)):ZfT H a (kV k) (Zc5 kvs k):=.inl ⟨kvs,k,.inl e,rfl,rfl⟩
theorem ZfT.t {kvs:List (List Key×V)}{k:List Key}(e:H a=some (.dT kvs))(eb:H b=some (.tup (k.map kV))):ZfT H a (.ref b) (Zc5 kvs k):=.inr ⟨kvs,k,b,.inl e,rfl,eb,rfl⟩
theorem ZlL.k {H:Hp}{a:Addr}{kvs:List (Key×V)}{k:Key}{v:V}(e:H a=some (.dK kvs))(hl:kvs.length<sizeLine):ZlL H a (kV k) v (upd H a (.dK (Zc3 kvs k v))):=.inl ⟨kvs,k,e,rfl,hl,rfl⟩
theorem ZlL.t {kvs:List (List Key×V)}{k:List Key}{v:V}(e:H a=some (.dT kvs))(eb:H b=some (.tup (k.map kV)))(hl:kvs.length<sizeLine):
  ZlL H a (.ref b) v (upd H a (.dT (Zc3 kvs k v))):=.inr ⟨kvs,k,b,e,rfl,eb,hl,rfl⟩
section
variable {y v:V}{o:Option V}
theorem Inv.big (I:Inv X qa σ H s):sysModules<s.heap.objs.size:=by
 have h:mainGlobals<s.heap.objs.size:=(I.mod.glob.keeps I.bk).lt;exact Nat.lt_trans (by decide) h
theorem Zmr (hu:A.units+1<cLine)(I:Inv X qa σ H s)(g:ZfT H a y (some v))(ry:Zbf y u)(h:∀w' s',Inv X qa σ H s'→Zbf v w'→Q w' s'):
  wpAny (model X.prog X.w) A (getItem (.ref a) u) Q E s:=by
 rcases g with⟨kvs,k,e,ey,l⟩|⟨kvs,k,b,e,ey,eb,l⟩
 ·subst ey;obtain⟨z,hd,vs,rel,dd⟩:=ZkW I.hok e;obtain⟨w',hw,rw'⟩:=Zhi.some_of (v:=v) (o:=valueAt vs k) (by rw[l];exact rel.val k);exact wpAny_getItem_of (Zmq ry) dd.mapOf hw (h w' _ (I.tok _) rw')
 ·subst ey;cases(show u=Value.ref b from ry);obtain⟨z,hd,xs,rel,dd⟩:=ZkX I.hok e;obtain⟨w',hw,rw'⟩:=Zhi.some_of (v:=v) (o:=(atKey xs k).map (·.2)) (by rw[l];exact rel.val k);obtain⟨p,hp,hp2⟩:=Option.map_eq_some_iff.mp hw;refine wpAny_getItem_heap (Qc1 hu) (ZhL I.hok eb) dd hp ?_;rw[hp2];exact h w' _ (I.tok _) rw'
theorem Zms {t':Nat}{ob:HO}(I:Inv X qa σ H s)(mu:Mut (H a))(hs:Heap.SameBut a s.heap h')(he:∃q,h'.get? a=some q)(new:Zbw X.prog X.w (upd H a ob) h' a ob):
  Inv X qa σ (upd H a ob) {s with heap:=h',toks:=t' }:=
 I.write (x:=a) (e:=a) mu (.inl rfl) (fun b q hb z=>(hs.2 b hb).trans z) he new
theorem ZsA {kvs:List (Key×V)}{vs:List (Key×Value)}(z:kvs.length≤sizeLine)(hd:(a==sysModules)=false)(rel:KV kvs vs)(dd:h'.DictOf (Za3 P w) a vs):
  Zbw P w H' h' a (.dK kvs):=⟨z,hd,vs,rel,dd⟩
theorem Zmt {Q:Unit→Shared→Prop}(hu:A.units+1<cLine)(I:Inv X qa σ H s)(g:ZlL H a y v H')(ry:Zbf y u)(rv:Zbf v r)(h:∀s',Inv X qa σ H' s'→Q () s'):
  wpAny (model X.prog X.w) A (setItem (.ref a) u r) Q E s:=by
 rcases g with⟨kvs,k,e,ey,l,eH⟩|⟨kvs,k,b,e,ey,eb,l,eH⟩
 ·subst ey eH;obtain⟨z,hd,vs,rel,dd⟩:=ZqS I.hok e;have hz:vs.length≤sizeLine:=by rw[←rel.length];exact z
  have hl:(Zc3 kvs k v).length≤sizeLine:=by have:=ZcS kvs k v;omega
  refine wpAny_setItem_pairs (hsz:=hz) (Zmq ry) dd fun h' dd' hs=>h _ ?_;have he:∃q,h'.get? a=some q:=let⟨q,_,_,hq,_⟩:=dd';⟨q,hq⟩;exact Zms I (by rw[e];exact Qco) hs he (ZsA hl hd (rel.put k rv) dd')
 ·subst ey eH;cases(show u=Value.ref b from ry);obtain⟨z,hd,xs,rel,dd⟩:=Zt0 I.hok e;have hz:xs.length≤sizeLine:=by rw[←Qd9 rel];exact z
  have hl:(Zc3 kvs k v).length≤sizeLine:=by have:=ZcS kvs k v;omega
  refine wpAny_setItem_heap (hsz:=hz) (Qc1 hu) (ZhL I.hok eb) dd fun h' dd' hs=>h _ ?_;obtain⟨q,es,ep,hq,h2,h3,h4,_,h5⟩:=dd';refine Zms I (by rw[e];exact Qco) hs ⟨q,hq⟩ ⟨hl,hd,_,(rel.put k eb rv).keeps fun c ys ec=> ?_,q,es,ep,hq,h2,h3,h4,h5⟩;rw[Zaq (Zob ec e (fun z=>nomatch z))];exact ec
end
def Zt1 (i:Expr):Prop:=∀ov iv,subscripted i false ov iv=operate [ov,iv] (getItem ov iv)
theorem Zmu {env:Env}{qm:Expr}{pos:PySem.Pos}{id:String}
  (hl:typeLookup (.type T) "__getitem__" =pure (some (.builtin id))) (hs:Zt1 qm)
  (h:wpAny (model prog w) A (eval value env) (fun o s₁=>wpAny (model prog w) A (eval qm env) (fun i s₂=>s₂.TypeIs o T∧wpAny (model prog w) A (getItem o i) Q E s₂) E s₁) E s):
  wpAny (model prog w) A (eval (.Subscript value qm pos) env) Q E s:=by
 refine QeT (QbK h (fun o s₁ h₁=>QbK h₁ (fun i s₂ h₂=> ?_) fun _ _ x=>x) fun _ _ x=>x);obtain⟨hT,h₂⟩:=h₂;unfold subscriptTail;refine Qaa ?_;rw[getitemInPython_of_ne hT.not_modules];refine Qaa (wpAny_specialOf hT hl ?_)
 have fin:wpAny (model prog w) A (subscripted qm false o i) (fun r s₃=>wpAny (model prog w) A (letTemporaryGo value o r>>=fun _=>pure r) Q E s₃) E s₂:=by
  rw[hs o i];exact wpAny_operating (QbK h₂ (fun r s₃ h₃=>Qaa (wpAny_letTemporaryGo (Qak h₃))) fun _ _ x=>x)
 first
  |exact Qak (Qaa fin)
  |exact Qaa (Qak (Qaa fin))
  |exact Qaa fin
theorem ZiM {y:V}{o:Option V}(I:Inv X qa σ H s)(g:ZfT H a y o):s.TypeIs (.ref a) "dict" :=by
 rcases g with⟨kvs,k,e,_,_⟩|⟨kvs,k,b,e,_,_,_⟩
 ·obtain⟨_,_,vs,_,dd⟩:=ZkW I.hok e;exact dd.typeIs
 ·obtain⟨_,_,xs,_,dd⟩:=ZkX I.hok e;exact dd.typeIs
def ZqT (td ty:TE):TE:=fun σ H Q=>td σ H fun x H1=>ty σ H1 fun y H2=>∃a v,x= .ref a∧ZfT H2 a y (some v)∧Q v H2
def ZoA (td ty tv:TE):TS:=fun D σ H=>tv σ H fun v H1=>td σ H1 fun x H2=>ty σ H2 fun y H3=>∃a H4,x= .ref a∧ZlL H3 a y v H4∧D.nx σ H4
section
variable {i:Expr}{pos qk:PySem.Pos}{tv:TE}
theorem ZiN (hu:X.A.units+1<cLine)(ho:PE X o td)(hi:PE X i ty)(hs:Zt1 i):PE X (.Subscript o i pos) (ZqT td ty):=by
 intro qa s σ H Q I h;refine Zmu PySem.F.slot_dict_getitem.lookup hs (thn (ho qa s σ H _ I h) fun u s1 ⟨x,H1,I1,rx,q1⟩=>thn (hi qa s1 σ H1 _ I1 q1) fun iv s2 ⟨y,H2,I2,ry,a,v,ex,g,q2⟩=> ?_);subst ex;obtain rfl:u=Value.ref a:=rx;exact⟨ZiM I2 g,Zmr hu I2 g ry fun w' s3 I3 rw'=>⟨v,H2,I3,rw',q2⟩⟩
theorem Ze2 (hu:X.A.units+1<cLine)(ho:PE X o td)(hi:PE X i ty)(hv:PE X value tv)(hs:swapsWith value (some (.Subscript o i qk)) pos.line X.env=pure false):
  PS X (.Assign [.Subscript o i qk] value pos) (ZoA td ty tv):=by
 intro qa s σ H D I h;refine wpAny_Assign_Subscript (thn (hv qa s σ H _ I h) fun r s1 ⟨v,H1,I1,rv,q1⟩=>thn (ho qa s1 σ H1 _ I1 q1) fun u s2 ⟨x,H2,I2,rx,q2⟩=>thn (hi qa s2 σ H2 _ I2 q2) fun iv s3 ⟨y,H3,I3,ry,a,H4,ex,g,q3⟩=> ?_) hs;subst ex;obtain rfl:u=Value.ref a:=rx;exact Zmt hu I3 g ry rv fun s4 I4=>⟨σ,H4,I4,q3⟩
end
theorem ZoB (h:Heap)(hb:sysModules<h.objs.size):Zbw P w H (h.push {cls:=.type "dict",data:=.dict #[] }) h.objs.size (.dK []):=
 ⟨QaS _,Qcg.mpr (Ne.symm (QaM hb)),[],.nil,Heap.DictOf.new h⟩
theorem ZoC (h:Heap)(hb:sysModules<h.objs.size):Zbw P w H (h.push {cls:=.type "dict",data:=.dict #[] }) h.objs.size (.dT []):=
 ⟨QaS _,Qcg.mpr (Ne.symm (QaM hb)),[],.nil,_,#[],0,Qat _ rfl,⟨rfl,rfl,rfl⟩,rfl,rfl,QeK⟩
def Zp3:TE:=fun _ H Q=>∀p,H p=none→Q (.ref p) (upd H p (.dK []))
def Zmv:TE:=fun _ H Q=>∀p,H p=none→Q (.ref p) (upd H p (.dT []))
section
variable {pos:PySem.Pos}
theorem Zkf:PE X (.Dict [] [] pos) Zp3:=fun qa s σ H Q I h=>
 wpAny_Dict_empty ⟨.ref s.heap.objs.size,_,I.laid (a:=s.heap.objs.size) (o:=.dK []) (t':=s.toks) (fun _ _ q=>Qac _ q) (Qai _) (ZoB s.heap I.big),rfl,h _ (I.hok.fresh (Qai _))⟩
theorem Zkg:PE X (.Dict [] [] pos) Zmv:=fun qa s σ H Q I h=>
 wpAny_Dict_empty ⟨.ref s.heap.objs.size,_,I.laid (a:=s.heap.objs.size) (o:=.dT []) (t':=s.toks) (fun _ _ q=>Qac _ q) (Qai _) (ZoC s.heap I.big),rfl,h _ (I.hok.fresh (Qai _))⟩
end
structure M1 (X:Cx)(o:Expr)(m:Str)(qg:PySem.Pos)(e:Expr)(qd:PySem.Pos):Prop where
 base:attributeBase o m X.env (eval o X.env)=eval o X.env
 few:((backTo qd (starEach [e] X.env)).all (fun x=> !x.1) && (backToKw qd (keywordEach [] X.env)).all (fun x=>x.1.isSome)
  && decide (([e]:List Expr).length+([]:List Keyword).length+(if([]:List Keyword).isEmpty then 0 else 1)<30))=true
 line:(qg.endLine==qd.line)=true
 trees:backTo qd (starEach [e] X.env)=[(false,eval e X.env)]
structure M2 (X:Cx)(o:Expr)(m:Str)(qg:PySem.Pos)(e f:Expr)(qd:PySem.Pos):Prop where
 base:attributeBase o m X.env (eval o X.env)=eval o X.env
 few:((backTo qd (starEach [e,f] X.env)).all (fun x=> !x.1) && (backToKw qd (keywordEach [] X.env)).all (fun x=>x.1.isSome)
  && decide (([e,f]:List Expr).length+([]:List Keyword).length+(if([]:List Keyword).isEmpty then 0 else 1)<30))=true
 line:(qg.endLine==qd.line)=true
 trees:backTo qd (starEach [e,f] X.env)=[(false,eval e X.env),(false,eval f X.env)]
def IsD (H:Hp)(a:Addr):Prop:=(∃kvs,Rd H a (.dK kvs))∨∃kvs,Rd H a (.dT kvs)
theorem Zkh (I:Inv X qa σ H s)(d:IsD H a):
  s.TypeIs (.ref a) "dict" ∧(∀b,Value.ref a= .ref b→∃ob,s.heap.get? b=some ob∧ob.dict=none)∧(a==sysModules)=false:=by
 rcases d with⟨kvs,e⟩|⟨kvs,e⟩
 ·obtain⟨_,hd,vs,_,dd⟩:=ZkW I.hok e;refine⟨dd.typeIs,fun b q=> ?_,hd⟩;cases q;obtain⟨ob,_,_,h1,h2,_⟩:=dd;exact⟨ob,h1,h2.2.1⟩
 ·obtain⟨_,hd,xs,_,dd⟩:=ZkX I.hok e;refine⟨dd.typeIs,fun b q=> ?_,hd⟩;cases q;obtain⟨ob,_,_,h1,h2,_⟩:=dd;exact⟨ob,h1,h2.2.1⟩
section
variable {y d:V}{o:Option V}
theorem ZsB (hu:A.units+1<cLine)(I:Inv X qa σ H s)(g:ZfT H a y o)(ry:Zbf y u)(h:∀w' s',Inv X qa σ H s'→Zbf (o.getD .non) w'→Q w' s'):
  wpAny (model X.prog X.w) A (call (.builtin "dict.get") [.ref a,u]) Q E s:=by
 rcases g with⟨kvs,k,e,ey,l⟩|⟨kvs,k,b,e,ey,eb,l⟩
 ·subst ey;obtain⟨z,hd,vs,rel,dd⟩:=ZkW I.hok e;refine Qdg Qb8 dd.typeIs QcG (Qef _ _) (meets_dict_get (Za3 X.prog X.w) a (Zmq ry) hd) ⟨_,dd.mapOf,h _ _ (I.tok _) ?_⟩;rw[l];exact(rel.val k).getD rfl
 ·subst ey;cases(show u=Value.ref b from ry);obtain⟨z,hd,xs,rel,dd⟩:=ZkX I.hok e;refine Qdg Qb8 dd.typeIs QcG (Qef _ _) (meetsH_dict_get (tupleKind (Za3 X.prog X.w)) a b hd) ⟨Qc1 hu,k,xs,ZhL I.hok eb,dd,h _ _ (I.tok _) ?_⟩;rw[l];exact(rel.val k).getD rfl
theorem ZsC (hu:A.units+1<cLine)(I:Inv X qa σ H s)(g:ZfT H a y o)(ry:Zbf y u)(rd:Zbf d r)(h:∀w' s',Inv X qa σ H s'→Zbf (o.getD d) w'→Q w' s'):
  wpAny (model X.prog X.w) A (call (.builtin "dict.get") [.ref a,u,r]) Q E s:=by
 rcases g with⟨kvs,k,e,ey,l⟩|⟨kvs,k,b,e,ey,eb,l⟩
 ·subst ey;obtain⟨z,hd,vs,rel,dd⟩:=ZkW I.hok e;refine Qdg Qb8 dd.typeIs QcG (Qeg _ _ _) (meets_dict_get_default (Za3 X.prog X.w) a (Zmq ry) hd r) ⟨_,dd.mapOf,h _ _ (I.tok _) ?_⟩;rw[l];exact(rel.val k).getD rd
 ·subst ey;cases(show u=Value.ref b from ry);obtain⟨z,hd,xs,rel,dd⟩:=ZkX I.hok e;refine Qdg Qb8 dd.typeIs QcG (Qeg _ _ _) (meetsH_dict_get_default (tupleKind (Za3 X.prog X.w)) a b hd r) ⟨Qc1 hu,k,xs,ZhL I.hok eb,dd,h _ _ (I.tok _) ?_⟩;rw[l];exact(rel.val k).getD rd
end
def Zp4 (td ty:TE):TE:=fun σ H Q=>td σ H fun x H1=>∃a,x= .ref a∧IsD H1 a∧ty σ H1 fun y H2=>∃o,ZfT H2 a y o∧Q (o.getD .non) H2
def Zmw (td ty tx:TE):TE:=fun σ H Q=>td σ H fun x H1=>∃a,x= .ref a∧IsD H1 a∧ty σ H1 fun y H2=>tx σ H2 fun z H3=>∃o,ZfT H3 a y o∧Q (o.getD z) H3
section
variable {f:Expr}{tx:TE}
theorem ZoD (hu:X.A.units+1<cLine)(ho:PE X o td)(he:PE X e ty)(m:M1 X o "get" qg e qd):PE X (.Call (.Attribute o "get" qg) [e] [] qd) (Zp4 td ty):=by
 intro qa s σ H Q I h;refine wpAny_Call_method m.base m.few m.line QcC Qb8 QeC (thn (ho qa s σ H _ I h) fun u s1 ⟨x,H1,I1,rx,a,ex,d,q1⟩=> ?_);subst ex;obtain rfl:u=Value.ref a:=rx;obtain⟨t1,t2,_⟩:=Zkh I1 d;refine⟨t1,t2,?_⟩;rw[m.trees];refine Qcl rfl (Qdr (QcZ (thn (he qa s1 σ H1 _ I1 q1) fun iv s2 ⟨y,H2,I2,ry,ov,g,q2⟩=>QdY ?_)));exact ZsB hu I2 g ry fun w' s3 I3 rw'=>⟨_,H2,I3,rw',q2⟩
theorem ZeH (hu:X.A.units+1<cLine)(ho:PE X o td)(he:PE X e ty)(hf:PE X f tx)(m:M2 X o "get" qg e f qd):PE X (.Call (.Attribute o "get" qg) [e,f] [] qd) (Zmw td ty tx):=by
 intro qa s σ H Q I h;refine wpAny_Call_method m.base m.few m.line QcC Qb8 QeC (thn (ho qa s σ H _ I h) fun u s1 ⟨x,H1,I1,rx,a,ex,d,q1⟩=> ?_);subst ex;obtain rfl:u=Value.ref a:=rx;obtain⟨t1,t2,_⟩:=Zkh I1 d;refine⟨t1,t2,?_⟩;rw[m.trees]
 refine Qcl rfl (Qdr (QcZ (thn (he qa s1 σ H1 _ I1 q1) fun iv s2 ⟨y,H2,I2,ry,q2⟩=>
  QcZ (thn (hf qa s2 σ H2 _ I2 q2) fun fv s3 ⟨z,H3,I3,rz,ov,g,q3⟩=>QdY ?_))))
 exact ZsC hu I3 g ry rz fun w' s4 I4 rw'=>⟨_,H3,I4,rw',q3⟩
end
section
variable {κ:Type} [DecidableEq κ]
theorem Zgl {kvs:List (κ×V)}{k:κ}(h:Zc5 kvs k=none):¬k∈kvs.map (·.1):=by
 intro m;obtain⟨p,hp,e⟩:=QaR.mp m;have q:(kvs.any fun kv=>decide (kv.1=k))=true:=Qdm.mpr ⟨p,hp,Qam e⟩;rw[Zcx,h] at q;exact absurd q (by simp)
theorem ZqU {kvs:List (κ×V)}{k:κ}{v:V}(h:Zc5 kvs k=some v):k∈kvs.map (·.1):=by
 have q:(kvs.any fun kv=>decide (kv.1=k))=true:=by
  rw[Zcx,h]
  all_goals rfl
 obtain⟨p,hp,e⟩:=Qdm.mp q;exact QaR.mpr ⟨p,hp,Qar e⟩
theorem Zmx:∀{l:List κ} {k:κ},l.Nodup→¬k∈l→(l++ [k]).Nodup
 | [],k,_,_=>by simp
 |a::r,k,h,hk=>by
  obtain⟨h1,h2⟩:=QbV.mp h;show(a::(r++ [k])).Nodup;refine QbV.mpr ⟨fun m=> ?_,Zmx h2 fun m=>hk (Qaw.mpr (Or.inr m))⟩;rcases Qap.mp m with q|q
  ·exact h1 q
  ·exact hk (Qaw.mpr (Or.inl (Qal.mp q).symm))
end
structure Zmy (w:World)(K:FJ)(a:Addr)(kvs:List (Str×Addr)):Prop where
 sm:(a==sysModules)=false
 dd:∀(P:Program)(h:Heap),K.In h→h.DictOf (PySem.strKind P w) a (kvs.map fun p=>(p.1,Value.ref p.2))
def ZtK (w:World)(p:Str×Tok×Addr):DictEntry:=⟨PyData.keyHash w.params p.1,.str p.1 p.2.1,.ref p.2.2⟩
theorem Zki {K:FJ}{ps:List (Str×Tok×Addr)}(l:K.lookup a=some ⟨.type "dict",none,.dict (ps.map (ZtK w)).toArray n,#[]⟩)(sm:(a==sysModules)=false)(nd:(ps.map (·.1)).Nodup):Zmy w K a (ps.map fun p=>(p.1,p.2.2)):=by
 refine⟨sm,fun P h X=>⟨_,_,_,X _ _ l,⟨rfl,rfl,rfl⟩,rfl,fun e he=> ?_,?_,?_⟩⟩
 ·have he:e∈(ps.map (ZtK w)):=by simpa using he
  obtain⟨p,_,rfl⟩:=QaR.mp he;exact⟨p.1,by simp[PySem.strKind,ZtK,Value.isStrOf],rfl⟩
 ·rw[List.toList_toArray,Qbc];clear l nd
  induction ps with
  |nil=>exact .nil
  |cons p r ih=>exact .cons (by simp[PySem.strKind,ZtK,Value.isStrOf]) rfl ih
 ·rw[Qbc,Qbc];exact nd
def Zp5 (kvs:List (Str×Addr))(x:Str):Option Addr:=(kvs.find? fun kv=>decide (kv.1=x)).map (·.2)
theorem Zmz (kvs:List (Str×Addr))(x:Str):valueAt (kvs.map fun p=>(p.1,Value.ref p.2)) x=(Zp5 kvs x).map Value.ref:=by
 unfold valueAt Zp5
 induction kvs with
 |nil=>rfl
 |cons p r ih=>
  rw[QaD,Qb7,Qb7];by_cases h:p.1=x
  ·simp[h]
  ·simp only[h,decide_false];exact ih
section
variable {i:Expr}{x:Str}{pos np:PySem.Pos}{kvs:List (Str×Addr)}
def ZqV (kvs:List (Str×Addr))(ty:TE):TE:=fun σ H Q=>ty σ H fun y H1=>∃k v,y= .str k∧Zp5 kvs k=some v∧Q (.ref v) H1
theorem ZmA (hk:Zmy X.w X.K a kvs)(hg:Gl X x)(hm:X.mg x=some (.ref a))(hi:PE X i ty)(hs:Zt1 i)(hdb:(x==("__debug__" :Str))=false:=by decide):PE X (.Subscript (.Name x np) i pos) (ZqV kvs ty):=by
 intro qa s σ H Q I h;refine Zmu PySem.F.slot_dict_getitem.lookup hs (ZeP I hg hm (thn (hi qa s σ H _ I h) fun iv s2 ⟨y,H2,I2,ry,k,v,ey,e,q⟩=> ?_) hdb);subst ey;obtain⟨t,rfl⟩:=ry;have dd:=hk.dd X.prog s2.heap I2.kIn;refine⟨dd.typeIs,wpAny_getItem_of (knd:=PySem.strKind X.prog X.w) (k:=k) (by simp[PySem.strKind,Value.isStrOf]) dd.mapOf (v:=.ref v) ?_ ⟨.ref v,H2,I2.tok _,rfl,q⟩⟩;rw[Zmz,e];rfl
def ZmB (kvs:List (Str×Addr))(ty:TE):TE:=fun σ H Q=>ty σ H fun y H1=>∃k,y= .str k∧Q (.bl (!(Zp5 kvs k).isSome)) H1
theorem ZmC (hk:Zmy X.w X.K a kvs)(hg:Gl X x)(hm:X.mg x=some (.ref a))(hi:PE X i ty)(hdb:(x==("__debug__" :Str))=false:=by decide):PC X .NotIn i (.Name x np) (ZmB kvs ty):=by
 intro qa s σ H Q I h;refine thn (hi qa s σ H _ I h) fun iv s1 ⟨y,H1,I1,ry,k,ey,q⟩=>ZeP I1 hg hm ?_ hdb;subst ey;obtain⟨t,rfl⟩:=ry;have dd:=hk.dd X.prog s1.heap I1.kIn;refine wpAny_notIn_of (knd:=PySem.strKind X.prog X.w) (k:=k) (by simp[PySem.strKind,Value.isStrOf]) hk.sm dd.mapOf ⟨.bl _,H1,I1.tok _,rfl,?_⟩;rw[Zmz,Option.isSome_map];exact q
end
section
variable {R:Result→Shared→Prop}
abbrev e2 (elt tg qf:Expr)(ifs:List Expr)(tg2 iter2:Expr)(ifs2:List Expr)(scope:Scope)(pos:PySem.Pos):Expr:=.ListComp elt [⟨tg,qf,ifs,0⟩,⟨tg2,iter2,ifs2,0⟩] scope pos
end
def Ite (K:FJ)(a:Addr):It:=
 ⟨fun i H=>∃xs x,SqL K H a xs∧xs[i]?=some x,
  fun i H v H'=>∃p x,v= .ref p∧H p=none∧H'=upd H p (.tup [.int (i:Int),x])∧∀xs,SqL K H a xs→xs[i]?=some x,
  fun i H=>∃xs,SqL K H a xs∧xs[i]?=none⟩
def ZsD (e it a:Addr)(i:Nat)(h:Heap):Prop:=(∃old,IsEnum h e it (i:Int) old)∧h.IsListIter it a i
theorem ZmD {K:FJ}{es:List Expr}{k:Nat}{pos:PySem.Pos}(a e it:Addr)(hei:e≠it)(hle:a≠e)(hli:a≠it):ZpS P w K (.Tuple es k pos) (Ite K a) [e,it] e (ZsD e it a) where
 mem:=by simp
 obj:=fun i h st c hc=>by
  obtain⟨⟨old,he⟩,⟨o1,e1,c1,d1⟩⟩:=st;simp only[Qaw,Qa8,QcB] at hc;rcases hc with rfl|rfl
  ·exact⟨_,he,fun v q=>by cases q⟩
  ·exact⟨o1,e1,fun v q=>by rw[d1] at q;cases q⟩
 keep:=fun i h h' st q=>by
  obtain⟨⟨old,he⟩,l1⟩:=st;exact⟨⟨old,q _ (by simp) _ he⟩,l1.at fun o x=>q _ (by simp) o x⟩
 item:=by
  intro X hP hw hK hc i qa s σ H E I hf st hg;subst hP hw hK;obtain⟨xs,x,hq1,hx⟩:=hg;obtain⟨⟨old,he⟩,l1⟩:=st;obtain⟨its1,rv1,p1,_⟩:=I.list hq1;obtain⟨ux,hux,rux⟩:=rv1.get hx;refine wpAny_pyNext_enum_item he l1 p1.isList (x:=ux) (by simpa using hux) hei fun h' z1 j1 T1 sz kp=> ?_;refine⟨_,rfl,wpAny_letOwnedTupleGo_enum z1 fun h2 z2 sb=> ?_⟩;have helt:e<s.heap.objs.size:=Qan he;have hpe:s.heap.objs.size≠e:=Qbq helt;have T2:=sb.extBut _ _ hpe T1
  have kp2:∀c o,c∉ [e,it]→s.heap.get? c=some o→h2.get? c=some o:=fun c o hc x=>by
   simp only[Qaw,Qa8,QcB,not_or] at hc;exact sb.extBut _ _ hc.1 (kp c o hc.1 hc.2 x)
  have I2:Inv X qa σ (upd H s.heap.objs.size (.tup [.int (i:Int),x])) {s with heap:=h2,toks:=s.toks+1 }:=I.turnedNew kp2 hf (Qai _) ⟨by show 2≤sizeLine;decide,[.int (i:Int) s.toks,ux],.cons ⟨_,rfl⟩ (.cons rux .nil),⟨_,T2,rfl,_,rfl⟩⟩;refine⟨.ref s.heap.objs.size,_,I2,rfl,⟨_,x,rfl,I.hok.fresh (Qai _),rfl,fun xs' h=> ?_⟩,⟨⟨ux,by simpa using z2⟩,?_⟩,fun c hc=> ?_⟩
  ·rw[I.list_inj h hq1];exact hx
  ·exact j1.at fun o x=>sb.extBut _ _ (Ne.symm hei) x
  ·have hlt:c<s.heap.objs.size:=by
    simp only[Qaw,Qa8,QcB] at hc;rcases hc with rfl|rfl
    ·exact helt
    ·obtain⟨_,x,_⟩:=l1;exact Qan x
   rw[Zaq (QaM hlt)];exact(hf c hc).1
 done:=by
  intro X hP hw hK hc i qa s σ H E I hf st hg;subst hP hw hK;obtain⟨xs,hq1,hend⟩:=hg;obtain⟨⟨old,he⟩,l1⟩:=st;obtain⟨its1,rv1,p1,_⟩:=I.list hq1;have e1:=rv1.length;rw[Qbl] at hend;refine wpAny_pyNext_enum_end (I.ok.hd hc) he l1 p1.isList (by simp;omega) fun h' kp=>⟨rfl,I.turnedL (t':=s.toks) (ch:=[e,it]) (fun c o hc x=> ?_) hf⟩;simp only[Qaw,Qa8,QcB,not_or] at hc;exact kp c o hc.2 x
 self:=fun _ _ _ _ _ st h=>by
  obtain⟨⟨old,he⟩,_⟩:=st;exact wpAny_pyIter_enum he h
theorem ZfC:bootBuiltins "enumerate" =some (.type "enumerate"):=by decide +kernel
def ZmE (K:FJ)(ta:TA):TI:=fun σ H R=>ta σ H fun vs H1=>∃a,vs=[.ref a]∧(∃xs,SqL K H1 a xs)∧R (Ite K a) H1
theorem Zgm {tes:List Expr}{tk:Nat}{p pos:PySem.Pos}{a:Expr}{ta:TA}(hg:Gl X "enumerate")(hm:X.mg "enumerate" =none)(ha:PA X [a] ta)
  (hs:starEach [a] X.env=[(false,eval a X.env)]:=by rfl):PI X (.Tuple tes tk tpos) (.Call (.Name "enumerate" p) [a] [] pos) (ZmE X.K ta):=by
 intro qa s σ H R I h;refine QbI (Zep I hg hm ZfC ?_);refine QbU (rest:=[]) (thn (ha pos qa s σ H _ I h) fun us s1 ⟨vs,H1,I1,r1,l1,e,⟨xs,hx⟩,q⟩=> ?_) hs rfl;subst e;obtain⟨u1,rfl,rfl⟩:=Zc8 r1;obtain⟨its1,rv1,p1,_⟩:=I1.list hx;have a1:l1<s1.heap.objs.size:=by obtain⟨_,e,_⟩:=p1.isList;exact Qan e
 refine call_enumerate_list p1.isList fun h' he hit sz kp=> ?_;refine wpAny_pyIter_enum he ?_;refine⟨_,[_,_],_,_,H1,rfl,I1.kept (t':=s1.toks) kp,ZmD l1 _ _ (Nat.succ_ne_self _) (QaM (Qb0 a1)) (QaM a1),⟨⟨_,he⟩,hit⟩,fun c hc=> ?_,q⟩
 have hge:s1.heap.objs.size≤c:=by
  simp only[Qaw,Qa8,QcB] at hc;rcases hc with rfl|rfl
  ·exact Qea _
  ·exact Qai _
 exact I1.fpOk hge (I1.hok.fresh hge)
theorem ZoE {K:FJ}{xs:List V}{g:TG}{tb:TS}{D:ZlJ}(Pv:Nat→St→Hp→Prop)(h0:Pv 0 σ H)(hl:∀i σ H,i≤xs.length→Pv i σ H→SqL K H a xs)
  (hs:∀i x σ H (p:Addr),xs[i]?=some x→Pv i σ H→H p=none→g (.ref p) σ (upd H p (.tup [.int (i:Int),x])) fun σ2 H2=>tb {D with nx:=Pv (i+1),ct:=Pv (i+1),bk:=D.nx } σ2 H2) (hd:∀σ H,Pv xs.length σ H→D.nx σ H):
  ∃W:Nat→Nat→St→Hp→Prop,(∃m,W 0 m σ H)∧∀i m σ H,W i m σ H→
   ((Ite K a).stop i H∧D.nx σ H)∨((Ite K a).go i H∧∃N:St→Hp→Prop,(∀σ' H',N σ' H'→∃m',m'<m∧W (i+1) m' σ' H')∧∀x H',(Ite K a).yld i H x H'→g x σ H' fun σ2 H2=>tb {D with nx:=N,ct:=N,bk:=D.nx } σ2 H2):=by
 refine⟨fun i m σ H=>m=xs.length-i∧i≤xs.length∧Pv i σ H,⟨xs.length,by simp,QaS _,h0⟩,?_⟩;rintro i m σ H ⟨rfl,hi,p⟩;have q1:=hl i σ H hi p;by_cases hlt:i<xs.length
 ·refine .inr ⟨⟨xs,xs[i],q1,by simp[hlt]⟩,Pv (i+1),fun σ' H' p'=>⟨xs.length-(i+1),by omega,rfl,hlt,p'⟩,fun x H' y=> ?_⟩;obtain⟨q,x1,rfl,hq,rfl,e1⟩:=y;exact hs i x1 σ _ q (e1 xs q1) p hq
 ·have e:i=xs.length:=by omega
  subst e;exact .inl ⟨⟨xs,q1,QaG (Qai _)⟩,hd σ H p⟩
theorem ZhM:Zcq X (.builtin "divmod") (fun xs H Q=>∃i j,xs=[.int i,.int j]∧ZfB i j∧∀p,H p=none→Q (.ref p) (upd H p (.tup [.int (i/j),.int (i%j)]))):=by
 intro qa s σ H xs us Q I r h;obtain⟨i,j,rfl,⟨h1,h2⟩,q⟩:=h;obtain⟨u,w',rfl,⟨t,rfl⟩,⟨t',rfl⟩⟩:=ZkH r;refine divmod_int (by omega) ?_ (.inl (Qd0 h2));rw[QdN i (by omega),QdM i (by omega)];have hn:H s.heap.objs.size=none:=I.hok.fresh (Qai _);exact⟨.ref s.heap.objs.size,_,I.laid (o:=.tup [.int (i/j),.int (i%j)]) (fun b o e=>Qac _ e) (Qai _) ⟨zL2,[.int (i/j) s.toks,.int (i%j) (s.toks+1)],.cons ⟨_,rfl⟩ (.cons ⟨_,rfl⟩ .nil),_,Qat s.heap rfl,rfl,0,rfl⟩,rfl,q _ hn⟩
section
variable {r d:Addr}{Pr:Nat→Value→Prop}{OK:Heap→Prop}
theorem ZiO {Q:List Value→Shared→Prop}(S:PySem.W.KdlSrc prog w T r d n Pr OK)(hh:A.handled=none)(hok:OK s.heap)(hn:n≤sizeLine)
  (hQ:∀(h':Heap)(tk:Nat)(acc:Array Value),(∀b o,s.heap.get? b=some o→h'.get? b=some o)→ItemsOf Pr acc n→Q acc.toList {s with heap:=h',toks:=tk }):wpAny (model prog w) A (collect (.ref r)) Q E s:=by
 have hlt:=S.there _ hok
 have key:∀R:Result→Shared→Prop,(∀(h':Heap)(tk:Nat)(acc:Array Value)(c:Nat),(∀b o,b≠s.heap.objs.size→(s.heap.push {cls:=.type "list",data:=.seq ([]:List Value).toArray }).get? b=some o→h'.get? b=some o)→h'.get? s.heap.objs.size=some {cls:=.type "list",dict:=none,data:=.seq acc c,slots:=#[] }→ItemsOf Pr acc n→R (.ok (.ret (.ref s.heap.objs.size))) {s with heap:=h',toks:=tk })→
   codeAny (model prog w) A (.builtin "proto.collect" ⟨[.ref r],[]⟩) R s:=by
  intro R hR;refine QbC QdF ?_;rw[Qba QdG _];show wpAny _ A.in1 (newList []>>=fun q=>again (.builtin "list.__iadd__" ⟨[q,.ref r],[]⟩)) _ _ s;refine Qaa (Qa4 (Qak ⟨QbO QcD _,QbC Qeh ?_⟩));rw[Qba QcD _];show wpAny _ A.in1 (Builtin.List.listExtendWith (.ref s.heap.objs.size) (.ref r) (.ref s.heap.objs.size)) _ _ _;exact PySem.W.kdl_extend (s:={s with heap:=s.heap.push {cls:=.type "list",data:=.seq ([]:List Value).toArray } }) S hh (S.keep _ _ hok fun b _ o e=>Qac _ e) s.heap.objs.size (Qbq hlt.1) (Qbq hlt.2) _ 0 (Qat _ rfl) hR hn
 unfold collect;refine Qaa (wpAny_runValue (key _ fun h' tk acc c hk hS hacc=> ?_));show wpAny _ A (load s.heap.objs.size>>=_) _ _ _;refine Qaa (wpAny_load hS (Qak ?_));exact hQ h' tk acc (fun b o e=>hk b o (QaM (Qan e)) (Qac _ e)) hacc
theorem ZfU:∀{vs:List Value} {ks:List Int},vs.length=ks.length→(∀(i:Nat)(v:Value),vs[i]?=some v→∃t,v=Value.int (ks.getD i 0) t)→IntsAre vs ks
 | [],[],_,_=> .nil
 | [],_::_,h,_=>by cases h
 |_::_,[],h,_=>by cases h
 |v::vs,k::ks,h,f=>by
  obtain⟨t,e⟩:=f 0 v rfl;have e:v= .int k t:=e;subst e;exact .cons k t (ZfU (by simpa using h) fun i u hu=>f (i+1) u hu)
theorem ZkY {ks:List Int}(S:PySem.W.KdlSrc prog w T r d n Pr OK)(hh:A.handled=none)(hok:OK s.heap)(hks:ks.length=n)(hP:∀i v,Pr i v→∃t,v= .int (ks.getD i 0) t)(h64:n<64)
  (h:∀(out:Array Value)(ms:List Int)(h1 h':Heap)(tk:Nat)(e:Nat),(∀b ob,s.heap.get? b=some ob→h1.get? b=some ob)→(∀b ob,h1.get? b=some ob→h'.get? b=some ob)→IntsAre out.toList ms→ms.Perm ks→ms.Pairwise (· ≤ ·)→h'.get? h1.objs.size=some (seqObj "list" out e)→Q (.ref h1.objs.size) {s with heap:=h',toks:=tk }):
  wpAny (model prog w) A (call (.builtin "sorted") [.ref r]) Q E s:=by
 refine QdU kind_sorted plain_sorted entry_sorted (args_sorted1 _) ?_;unfold Builtin.«sorted»;refine Qaa (m:=checkCount "sorted" 1 1 _) (Qak (Qaa (ZiO S (by simp[hh]) hok (QbH (Zba (by omega))) fun h1 tk acc kp hacc=> ?_)));have hI:IntsAre acc.toList ks:=ZfU (by rw[Qbj,hacc.1,hks]) fun i v hv=>hP i v (hacc.2 i v (by rw[←Qbi];exact hv));have hl:acc.toList.length<64:=by rw[Qbj,hacc.1];exact h64
 generalize acc.toList=vs at hI hl;refine Qaa (QeR ?_);have hoL:(h1.push {cls:=.type "list",data:=.seq vs.toArray }).get? h1.objs.size=some (seqObj "list" vs.toArray 0):=Qat _ rfl;refine Qaa (Qbz (QbE slot_list_sort ⟨_,hoL,rfl⟩ entry_list_sort (list_sort_tree (s:={s with heap:=h1.push {cls:=.type "list",data:=.seq vs.toArray },toks:=tk }) hoL hI hl fun out ms' a1 a2 a3=>⟨_,rfl,?_⟩) (args_list_sort _)));obtain⟨e,he⟩:=sortedHeap_at (out:=out) hoL;refine Qak ⟨_,rfl,h out ms' h1 _ tk e kp (fun b ob z=> ?_) a1 a2 a3 he⟩;have hlt:b<h1.objs.size:=Qan z;rw[sortedHeap_old (QaM hlt) (by rw[Qbk];exact Qb0 hlt)];exact Qac _ z
end
def ZhN (v d:Addr):Heap→Prop:=fun h=>PySem.W.KdlKeysView h v d
def ZsE (td:TE):TE:=fun σ H Q=>td σ H fun x H1=>∃d kvs,x= .ref d∧H1 d=some (.dK kvs)∧∀v,H1 v=none→Q (.ref v) (upd H1 v (.ext (ZhN v d)))
theorem ZoF (ho:PE X o td)(qv:attributeBase o "keys" X.env (eval o X.env)=eval o X.env:=by rfl)(qw:(qg.endLine==qd.line)=true:=by rfl):PE X (.Call (.Attribute o "keys" qg) [] [] qd) (ZsE td):=by
 intro qa s σ H Q I h;refine Qei qv qw (thn (ho qa s σ H _ I h) fun u s1 ⟨x,H1,I1,rx,d,kvs,ex,hd,q⟩=> ?_);subst ex;cases rx;obtain⟨t1,t2,t3⟩:=Zkh I1 (.inl ⟨kvs,.inl hd⟩);obtain⟨_,hsys,vs,rel,dd⟩:=ZqS I1.hok hd;refine⟨"dict", "dict.keys",QcC,Qet,PySem.F.type_dict_keys,t1,t2,Qcl rfl (PySem.evalArgs_none ?_)⟩;refine Qdg Qet dd.typeIs PySem.F.entry_dict_keys (PySem.F.args_dict_keys_1 _) (PySem.W.kdl_meets_keys (Za3 X.prog X.w) d hsys) ⟨⟨_,dd⟩,?_⟩;have g:(s1.heap.push {cls:=.type "dict_keys",data:=.fields #[.ref d] }).get? s1.heap.objs.size=some {cls:=.type "dict_keys",data:=.fields #[.ref d] }:=Qat _ rfl;exact⟨.ref s1.heap.objs.size,_,I1.laid (t':=s1.toks) (o:=.ext (ZhN s1.heap.objs.size d)) (fun b o e=>Qac _ e) (Qai _) ⟨⟨_,g,rfl,rfl⟩,⟨_,g⟩,fun h1 h2 ⟨ob,e,c⟩ k=>⟨ob,k ob e,c⟩⟩,rfl,q _ (I1.hok.fresh (Qai _))⟩
theorem ZhO (hc:X.calm=true):Zcq X (.builtin "sorted") (fun xs H Q=>∃(v d:Addr)(kvs:List (Key×V))(ks:List Int),xs=[.ref v]∧H v=some (.ext (ZhN v d))∧H d=some (.dK kvs)∧kvs.map (·.1)=ks.map Sum.inl∧ks.length<64∧
  ∀(l:Addr)(ms:List Int),H l=none→ms.Perm ks→ms.Pairwise (· ≤ ·)→Q (.ref l) (upd H l (.lst (ms.map V.int)))):=by
 intro qa s σ H xs us Q I r h;obtain⟨v,d,kvs,ks,rfl,hv,hd,hk,h64,q⟩:=h;obtain⟨u,rfl,rx⟩:=Zc8 r;cases rx;obtain⟨_,hsys,vs,rel,o,es,ep,ho,hx,hdat,hko,hpo,hno⟩:=ZqS I.hok hd;obtain⟨kv,_,_⟩:=(show Zbw X.prog X.w H s.heap v (.ext (ZhN v d)) from I.hok v _ hv);have hkeys:=rel.keys;have hlen:=rel.length;have hkl:kvs.length=ks.length:=by have:=congrArg List.length hk;rw[Qaf,Qaf] at this;exact this
 refine ZkY (ks:=ks) (PySem.W.kdl_keys (knd:=Za3 X.prog X.w) (kvs:=vs) (ep:=ep)) (I.ok.hd hc) ⟨kv,o,es,ho,hx,hdat,hko,hpo,hno⟩ (by omega) (fun i u ⟨k,x,e1,e2⟩=> ?_) (by omega) fun out ms h1 h' tk e kp kp2 hI hp hs he=> ?_
 ·have e3:(vs.map (·.1))[i]?=some k:=by rw[Qao,e1];rfl
  rw[←hkeys,hk,Qao] at e3
  cases z:ks[i]? with
  |none=>rw[z] at e3;cases e3
  |some m=>
   rw[z] at e3;cases e3
   have:ks.getD i 0=m:=by rw[Qaz,z];rfl
   rw[this];have e2:Value.isInt m u=true:=e2;cases u<;>simp[Value.isInt] at e2
   subst e2;exact⟨_,rfl⟩
 ·have I1:Inv X qa σ H {s with heap:=h1,toks:=tk }:=I.kept kp;have hml:ms.length≤63:=by rw[hp.length_eq];omega
  refine⟨.ref h1.objs.size,_,I1.laid (t':=tk) (o:=.lst (ms.map V.int)) kp2 (Qai _) ⟨?_,out.toList,e,ZeW hI,?_⟩,rfl,q _ ms (I1.hok.fresh (Qai _)) hp hs⟩
  ·rw[Qaf];exact QbH (Zba (by omega))
  ·rw[he]
def RK (rk:Value→Int)(xs:Array Keyed)(i:Nat):Int:=match xs[i]? with
 |some p=>rk p.1
 |none=>0
theorem ZmF {ys:Array Keyed}(h:xs[i]?=ys[j]?):RK rk xs i=RK rk ys j:=by unfold RK;rw[h]
theorem Zp6 {a d:Nat}(ha:a<xs.size)(hd:d≤a)(k:Nat):RK rk (bubble xs a d) k=if k=a-d then RK rk xs a else if a-d<k∧k≤a then RK rk xs (k-1) else RK rk xs k:=by
 have z:=getElem?_bubble ha d hd k;split
 ·rename_i h;rw[Qp h] at z;exact ZmF z
 ·rename_i h;rw[Qn h] at z;split
  ·rename_i g;rw[Qp g] at z;exact ZmF z
  ·rename_i g;rw[Qn g] at z;exact ZmF z
theorem ZmG {a b:Nat}(hb:b≤xs.size)(k:Nat):RK rk (mirror xs a b ((b-a)/2)) k=if a≤k∧k<b then RK rk xs (a+b-1-k) else RK rk xs k:=by
 have z:=getElem?_mirror_all (i:=a) hb k;split
 ·rename_i h;rw[Qp h] at z;exact ZmF z
 ·rename_i h;rw[Qn h] at z;exact ZmF z
structure SB (k0:SortKind)(a0:Array Keyed)(st:SortSt):Prop where
 pm:(arrOf st).Perm a0
 kd:kindOf st=k0
 fl:failedOf st=none
 pn:pendingOf st= #[]
theorem SB.sz {k0:SortKind}{st:SortSt}(b:SB k0 a0 st):(arrOf st).size=a0.size:=b.pm.size_eq
theorem SB.put {k0:SortKind}{st:SortSt}(b:SB k0 a0 st)(p:xs.Perm (arrOf st)):SB k0 a0 (setArr st xs):=⟨p.trans b.pm,b.kd,b.fl,b.pn⟩
def ZoG (prog:Program)(w:World)(A:Around)(s:Shared)(k0:SortKind)(a0:Array Keyed)(rk:Value→Int):Prop:=
 ∀(E:Value→Shared→Prop)(x y:Keyed)(Q:Bool→Shared→Prop),x∈a0.toList→y∈a0.toList→Q (decide (rk x.1<rk y.1)) s→wpAny (model prog w) A (keyLt' k0 x.1 y.1) Q E s
section
variable {k0:SortKind}
theorem SB.got {st:SortSt}(b:SB k0 a0 st)(hi:i<a0.size):∃x,(arrOf st)[i]?=some x∧x∈a0.toList∧RK rk (arrOf st) i=rk x.1:=by
 have hi':i<(arrOf st).size:=by rw[b.sz];exact hi
 have z:=Qb2 hi';refine⟨_,z,(Qcn.mp b.pm).subset (QcY hi'),?_⟩;unfold RK;rw[z]
theorem ZmH (hL:ZoG prog w A s k0 a0 rk){st:SortSt}(b:SB k0 a0 st)(hi:i<a0.size)(hj:j<a0.size){Q:Option Bool→SortSt→Prop}
  (h:Q (some (decide (RK rk (arrOf st) i<RK rk (arrOf st) j))) st):wpS (model prog w) A E s (ltAt' i j) Q st:=by
 obtain⟨x,ex,mx,rx⟩:=b.got (rk:=rk) hi;obtain⟨y,ey,my,ry⟩:=b.got (rk:=rk) hj;rw[rx,ry] at h;rw[ltAt'_eq];refine Qbt (QeZ ?_);dsimp only;rw[elem'_eq,elem'_eq,ex,ey];refine Qbt (Qb3 (Qbt (Qb3 ?_)));rw[lt'_eq];refine Qbt (QeZ (Qbt (wpS_lift (Qdv ?_))));rw[b.kd];exact hL _ x y _ mx my ⟨rfl,Qb3 h⟩
theorem Zp7 (hL:ZoG prog w A s k0 a0 rk){st:SortSt}(b:SB k0 a0 st)(hm:m≤a0.size)(f1:1≤f)(fm:f≤m){Q:AscSt→SortSt→Prop}(up:∀i j,i≤j→j<f→RK rk (arrOf st) i≤RK rk (arrOf st) j)
  (h:∀n,f≤n→n≤m→(∀i j,i≤j→j<n→RK rk (arrOf st) i≤RK rk (arrOf st) j)→(n=m∨RK rk (arrOf st) n<RK rk (arrOf st) (n-1))→Q (none,n) st):wpS (model prog w) A E s (ascLoop f m) Q st:=by
 unfold ascLoop;refine Qdh (fun n c t=>t=st∧c=(none,n)∧∀i j,i≤j→j<n→RK rk (arrOf st) i≤RK rk (arrOf st) j) ?_ ?_ ⟨rfl,rfl,up⟩
 ·rintro n c t fn nm ⟨rfl,rfl,u⟩;refine Qbt (ZmH hL b (by omega) (by omega) ?_);dsimp only;by_cases z:RK rk (arrOf t) n<RK rk (arrOf t) (n-1)
  ·rw[Qam z,Qp rfl];exact Qb3 (h n fn (by omega) u (.inr z))
  ·rw[QaC z,Qn (by simp)];refine Qb3 ⟨rfl,rfl,fun i j ij jn=> ?_⟩;rcases QbJ (Qdd jn) with q|rfl
   ·exact u i j ij q
   ·rcases QbJ ij with q|rfl
    ·have:=u i (j-1) (by omega) (by omega);omega
    ·exact QaL _
 ·rintro c t ⟨rfl,rfl,u⟩;rw[QcV fm] at u⊢;exact h m fm (Qai _) u (.inl rfl)
theorem ZmI (hL:ZoG prog w A s k0 a0 rk){st:SortSt}(b:SB k0 a0 st)(hm:m≤a0.size)(n1:1≤n)(nm:n≤m){Q:Option Nat→SortSt→Prop}(dn:∀i j,i≤j→j<n→RK rk (arrOf st) j≤RK rk (arrOf st) i)
  (h:∀r t,SB k0 a0 t→1≤r→r≤m→(∀i j,i≤j→j<r→RK rk (arrOf t) i≤RK rk (arrOf t) j)→Q (some r) t):wpS (model prog w) A E s (tail3 n m) Q st:=by
 unfold tail3;refine Qbt (QeN ?_);have b2:=b.put (QeO (arrOf st) 0 n ((n-0)/2));have hn:n≤(arrOf st).size:=by rw[b.sz];omega
 refine Qbt (Zp7 hL b2 hm n1 nm (fun i j ij jn=> ?_) fun r nr rm u _=>Qb3 (h r _ b2 (by omega) rm u));have z1:=ZmG (rk:=rk) (xs:=arrOf st) (a:=0) hn i;have z2:=ZmG (rk:=rk) (xs:=arrOf st) (a:=0) hn j;rw[Qp ⟨QaS _,by omega⟩] at z1;rw[Qp ⟨QaS _,jn⟩] at z2;have z3:=dn (0+n-1-j) (0+n-1-i) (by omega) (by omega);rw[←z1,←z2] at z3;exact z3
theorem ZdV {a b:Nat}(hb:b≤xs.size)(e:∀i,a≤i→i<b→RK rk xs i=RK rk xs (b-1))(k:Nat):RK rk (mirror xs a b ((b-a)/2)) k=RK rk xs k:=by
 rw[ZmG hb];split
 ·rename_i h;rw[e k h.1 h.2];exact e _ (by omega) (by omega)
 ·rfl
theorem ZqW (hL:ZoG prog w A s k0 a0 rk){st:SortSt}(b:SB k0 a0 st)(hm:m≤a0.size)(f1:1≤f)(fm:f≤m){Q:DescSt→SortSt→Prop}(dn:∀i j,i≤j→j<f→RK rk (arrOf st) j≤RK rk (arrOf st) i)
  (h:∀n q t,SB k0 a0 t→f≤n→n≤m→(∀i j,i≤j→j<n→RK rk (arrOf t) j≤RK rk (arrOf t) i)→q+1≤n→(∀i,n-(q+1)≤i→i<n→RK rk (arrOf t) i=RK rk (arrOf t) (n-1))→Q (none,n,q) t):wpS (model prog w) A E s (descLoop f m) Q st:=by
 unfold descLoop;refine Qdh (fun n c t=>∃q,c=(none,n,q)∧SB k0 a0 t∧(∀i j,i≤j→j<n→RK rk (arrOf t) j≤RK rk (arrOf t) i)∧q+1≤n∧∀i,n-(q+1)≤i→i<n→RK rk (arrOf t) i=RK rk (arrOf t) (n-1)) ?_ ?_ ⟨0,rfl,b,dn,f1,fun i h1 h2=>by rw[show i=f-1 by omega]⟩
 ·rintro n c t fn nm ⟨q,rfl,bt,d,qn,e⟩;dsimp only;refine Qbt (ZmH hL bt (by omega) (by omega) ?_);dsimp only
  have ext:∀xs:Array Keyed,(∀k,RK rk xs k=RK rk (arrOf t) k)→RK rk (arrOf t) n≤RK rk (arrOf t) (n-1)→∀i j,i≤j→j<n+1→RK rk xs j≤RK rk xs i:=fun xs hx le i j ij jn=>by
   rw[hx,hx];rcases QbJ (Qdd jn) with z|rfl
   ·exact d i j ij z
   ·rcases QbJ ij with z|rfl
    ·have:=d i (j-1) (by omega) (by omega);omega
    ·exact QaL _
  by_cases z:RK rk (arrOf t) n<RK rk (arrOf t) (n-1)
  ·rw[Qam z,Qp rfl];by_cases q0:q>0
   ·rw[Qp q0];have hn:n≤(arrOf t).size:=by rw[bt.sz];omega
    exact Qbt (QeN (Qb3 ⟨0,rfl,bt.put (QeO _ _ _ _),ext _ (ZdV hn e) (Qa9 z),by omega,fun i h1 h2=>by rw[show i=n+1-1 by omega]⟩))
   ·rw[Qn q0];exact Qb3 ⟨0,rfl,bt,ext _ (fun _=>rfl) (Qa9 z),by omega,fun i h1 h2=>by rw[show i=n+1-1 by omega]⟩
  ·rw[QaC z,Qn (by simp)];refine Qbt (ZmH hL bt (by omega) (by omega) ?_);dsimp only;by_cases y:RK rk (arrOf t) (n-1)<RK rk (arrOf t) n
   ·rw[Qam y,Qp rfl];exact Qb3 (h n q t bt fn (by omega) d qn e)
   ·rw[QaC y,Qn (by simp)];have same:RK rk (arrOf t) n=RK rk (arrOf t) (n-1):=by omega
    refine Qb3 ⟨q+1,rfl,bt,ext _ (fun _=>rfl) (by omega),by omega,fun i h1 h2=> ?_⟩;rw[Nat.add_sub_cancel];rcases QbJ (Qdd h2) with x|rfl
    ·rw[same];exact e i (by omega) x
    ·rfl
 ·rintro c t ⟨q,rfl,bt,d,qn,e⟩;rw[QcV fm] at d qn e⊢;exact h m q t bt fm (Qai _) d qn e
theorem ZmJ (hL:ZoG prog w A s k0 a0 rk){st:SortSt}(b:SB k0 a0 st)(hm:m≤a0.size)(nm:n+1≤m){Q:Option Nat→SortSt→Prop}(dn:∀i j,i≤j→j<n+1→RK rk (arrOf st) j≤RK rk (arrOf st) i)
  (h:∀r t,SB k0 a0 t→1≤r→r≤m→(∀i j,i≤j→j<r→RK rk (arrOf t) i≤RK rk (arrOf t) j)→Q (some r) t):wpS (model prog w) A E s (descPart n m) Q st:=by
 unfold descPart;refine Qbt (wpS_lift (Qc8 ⟨rfl,Qbt (ZqW hL b hm (by omega) nm dn fun r q t bt nr rm d qr e=> ?_)⟩));dsimp only;by_cases q0:q>0
 ·rw[Qp q0];have hr:r≤(arrOf t).size:=by rw[bt.sz];omega
  refine Qbt (QeN (ZmI hL (bt.put (QeO _ _ _ _)) hm (by omega) rm (fun i j ij jr=> ?_) h));have z1:=ZdV hr e i;have z2:=ZdV hr e j;have z3:=d i j ij jr;rw[←z1,←z2] at z3;exact z3
 ·rw[Qn q0];exact ZmI hL bt hm (by omega) rm d h
theorem ZsF (hL:ZoG prog w A s k0 a0 rk){st:SortSt}(b:SB k0 a0 st)(hm:m≤a0.size)(m1:1≤m){Q:Option Nat→SortSt→Prop}
  (h:∀r t,SB k0 a0 t→1≤r→r≤m→(∀i j,i≤j→j<r→RK rk (arrOf t) i≤RK rk (arrOf t) j)→Q (some r) t):wpS (model prog w) A E s (countRun' 0 m) Q st:=by
 rw[countRun0_eq];refine Qbt (Zp7 hL b hm (Qai _) m1 (fun i j ij j1=>by rw[show i=j by omega];exact QaL _) fun n n1 nm u z=> ?_);dsimp only;by_cases e:n=m
 ·rw[Qp (by simpa using e)];exact Qb3 (h n st b n1 nm u)
 ·rw[Qn (by simpa using e)];have lt:=z.resolve_left e;by_cases n2:n>1
  ·rw[Qp n2];refine Qbt (ZmH hL b (by omega) (by omega) ?_);dsimp only;by_cases y:RK rk (arrOf st) 0<RK rk (arrOf st) (n-1)
   ·rw[Qam y,Qp rfl];exact Qb3 (h n st b n1 nm u)
   ·rw[QaC y,Qn (by simp)];have hn:n≤(arrOf st).size:=by rw[b.sz];omega
    have al:∀i,0≤i→i<n→RK rk (arrOf st) i=RK rk (arrOf st) (n-1):=fun i _ hi=>by
     have q1:=u 0 i (QaS _) hi;have q2:=u i (n-1) (by omega) (by omega);omega
    refine Qbt (QeN (ZmJ hL (b.put (QeO _ _ _ _)) hm (by omega) (fun i j ij jn=> ?_) h));have z1:=ZdV hn al i;have z2:=ZdV hn al j
    have z3:RK rk (arrOf st) j≤RK rk (arrOf st) i:=by
     rcases QbJ (Qdd jn) with q|rfl
     ·rw[al i (QaS _) (by omega),al j (QaS _) q];exact QaL _
     ·rcases QbJ ij with q|rfl
      ·rw[al i (QaS _) q];omega
      ·exact QaL _
    rw[←z1,←z2] at z3;exact z3
  ·rw[Qn n2];have e1:n=1:=by omega
   subst e1;refine ZmJ hL b hm (by omega) (fun i j ij j2=> ?_) h;rcases QbJ ij with q|rfl
   ·rw[show i=0 by omega,show j=1 by omega];exact Qa9 lt
   ·exact QaL _
theorem ZsG (hL:ZoG prog w A s k0 a0 rk){st:SortSt}(b:SB k0 a0 st){r:Nat}(hm:m≤a0.size)(rm:r≤m){Q:Bool→SortSt→Prop}(up:∀i j,i≤j→j<r→RK rk (arrOf st) i≤RK rk (arrOf st) j)
  (h:∀t,SB k0 a0 t→(∀i j,i≤j→j<m→RK rk (arrOf t) i≤RK rk (arrOf t) j)→Q true t):wpS (model prog w) A E s (binarySort' 0 m r) Q st:=by
 rw[binarySort'_eq];simp only[Nat.zero_add];refine Qbt (wpS_mono (Qdh (fun n c t=>c=(none,())∧SB k0 a0 t∧∀i j,i≤j→j<min n m→RK rk (arrOf t) i≤RK rk (arrOf t) j) (Q:=fun c t=>c=(none,())∧SB k0 a0 t∧∀i j,i≤j→j<m→RK rk (arrOf t) i≤RK rk (arrOf t) j) ?_ ?_ ⟨rfl,b,fun i j ij jl=> ?_⟩) ?_)
 ·rintro n c t n1 nm ⟨rfl,bt,u⟩;rw[Qci (QbH nm)] at u
  refine Qbt (wpS_mono (Qdh (fun x c t2=>t2=t∧∃l g,c=(none,l,g)∧l≤g∧g≤n∧g-l≤n-x∧(∀i,i<l→RK rk (arrOf t) i≤RK rk (arrOf t) n)∧∀i,g≤i→i<n→RK rk (arrOf t) n<RK rk (arrOf t) i)
   (Q:=fun c t2=>t2=t∧∃l g,c=(none,l,g)∧l≤n∧(∀i,i<l→RK rk (arrOf t) i≤RK rk (arrOf t) n)∧∀i,l≤i→i<n→RK rk (arrOf t) n<RK rk (arrOf t) i) ?_ ?_ ⟨rfl,0,n,rfl,QaS _,Qai _,Qai _,fun i hi=>absurd hi (Nat.not_lt_zero _),fun i h1 h2=>by omega⟩) ?_)
  ·rintro x c t2 _ xn ⟨rfl,l,g,rfl,lg,gn,gl,lo,hi⟩;dsimp only;by_cases z:l≥g
   ·rw[Qp z];have e:l=g:=by omega
    subst e;exact Qb3 ⟨rfl,l,l,rfl,gn,lo,hi⟩
   ·rw[Qn z];refine Qbt (ZmH hL bt (by omega) (by omega) ?_);dsimp only;by_cases y:RK rk (arrOf t2) n<RK rk (arrOf t2) ((l+g)/2)
    ·rw[Qam y,Qp rfl];refine Qb3 ⟨rfl,l,(l+g)/2,rfl,by omega,by omega,by omega,lo,fun i h1 h2=> ?_⟩
     have:=u _ i h1 h2;omega
    ·rw[QaC y,Qn (by simp)];refine Qb3 ⟨rfl,(l+g)/2+1,g,rfl,by omega,by omega,by omega,fun i h1=> ?_,hi⟩
     have:=u i ((l+g)/2) (by omega) (by omega);omega
  ·rintro c t2 ⟨rfl,l,g,rfl,lg,gn,gl,lo,hi⟩;have e:l=g:=by omega
   subst e;exact⟨rfl,l,l,rfl,gn,lo,hi⟩
  ·rintro c t2 ⟨rfl,l,g,rfl,ln,lo,hi⟩;show wpS _ _ _ _ (moveDown' n l>>=fun _=>pure _) _ _;rw[moveDown'_eq];refine Qbt (wpS_modify (Qb3 ⟨rfl,bt.put (bubble_perm _ _ _),fun i j ij jn=> ?_⟩));rw[Qci (by omega)] at jn;have hn:n<(arrOf t2).size:=by rw[bt.sz];omega
   have z1:=Zp6 (rk:=rk) hn (Nat.sub_le n l) i;have z2:=Zp6 (rk:=rk) hn (Nat.sub_le n l) j;rw[show n-(n-l)=l by omega] at z1 z2;show RK rk (bubble (arrOf t2) n (n-l)) i≤RK rk (bubble (arrOf t2) n (n-l)) j;rw[z1,z2];by_cases c1:i=l
   ·rw[Qp c1];by_cases c2:j=l
    ·rw[Qp c2];exact QaL _
    ·rw[Qn c2,Qp (by omega)]
     have:=hi (j-1) (by omega) (by omega);omega
   ·rw[Qn c1];by_cases c3:l<i∧i≤n
    ·rw[Qp c3,Qn (by omega),Qp (by omega)];exact u _ _ (by omega) (by omega)
    ·rw[Qn c3];by_cases c2:j=l
     ·rw[Qp c2];exact lo i (by omega)
     ·rw[Qn c2];by_cases c4:l<j∧j≤n
      ·rw[Qp c4];exact u _ _ (by omega) (by omega)
      ·rw[Qn c4];exact u _ _ ij (by omega)
 ·rintro c t ⟨rfl,bt,u⟩;refine⟨rfl,bt,fun i j ij jm=>u i j ij (by omega)⟩
 ·by_cases z:j<r
  ·exact up i j ij z
  ·rw[show i=j by omega];exact QaL _
 ·rintro c t ⟨rfl,bt,u⟩;exact Qb3 (h t bt u)
theorem ZqX (hL:ZoG prog w A s k0 a0 rk){st:SortSt}(b:SB k0 a0 st)(h2:2≤a0.size)(h64:a0.size<64){Q:Unit→SortSt→Prop}
  (h:∀t,(arrOf t).Perm a0→failedOf t=none→(∀i j,i≤j→j<a0.size→RK rk (arrOf t) i≤RK rk (arrOf t) j)→Q () t):wpS (model prog w) A E s sortRuns' Q st:=by
 rw[sortRuns'_eq];refine Qbt (QeZ ?_)
 have mr:minRun' a0.size a0.size 0=a0.size:=by
  cases z:a0.size with
  |zero=>omega
  |succ n=>rw[minRun'_succ,Qp (by omega),Nat.add_zero]
 dsimp only;rw[b.sz,mr]
 let Fin':SortSt→Prop:=fun t=>(arrOf t).Perm a0∧failedOf t=none∧pendingOf t= #[(0,a0.size,0)]∧∀i j,i≤j→j<a0.size→RK rk (arrOf t) i≤RK rk (arrOf t) j
 have fin:∀t,SB k0 a0 t→(∀i j,i≤j→j<a0.size→RK rk (arrOf t) i≤RK rk (arrOf t) j)→Fin' (setPending t ((pendingOf t).push (0,a0.size,0))):=fun t bt u=>
  ⟨bt.pm,bt.fl,(by show(pendingOf t).push _=_;rw[bt.pn];rfl),u⟩
 refine Qbt (wpS_mono (Qdh (fun n c t=>(n=0∧c=(none,0)∧SB k0 a0 t)∨(0<n∧c=(none,a0.size)∧Fin' t)) (Q:=fun c t=>c=(none,a0.size)∧Fin' t) ?_ ?_ (.inl ⟨rfl,rfl,b⟩)) ?_)
 ·rintro n c t _ _ (⟨rfl,rfl,bt⟩|⟨n0,rfl,ft⟩)
  ·dsimp only;rw[Qn (by omega)];simp only[Nat.zero_add,QdR,QeB];refine Qbt (ZsF hL bt (Qai _) (by omega) fun r t2 b2 r1 r2 u2=> ?_);dsimp only;have last:∀t3,SB k0 a0 t3→(∀i j,i≤j→j<a0.size→RK rk (arrOf t3) i≤RK rk (arrOf t3) j)→(pendingOf t3).back?=none∧Fin' (setPending t3 ((pendingOf t3).push (0,a0.size,0))):=fun t3 b3 u3=>⟨by rw[b3.pn];rfl,fin t3 b3 u3⟩;by_cases z:r<a0.size
   ·rw[Qp z];refine Qbt (wpS_lift (Qc8 ⟨rfl,Qbt (ZsG hL b2 (Qai _) r2 u2 fun t3 b3 u3=> ?_)⟩));rw[Qn (by simp)];refine Qbt (QeZ ?_);rw[(last t3 b3 u3).1];dsimp only;exact Qbt (wpS_modify (Qb3 (.inr ⟨Nat.succ_pos _,rfl,(last t3 b3 u3).2⟩)))
   ·rw[Qn z];have e:r=a0.size:=by omega
    subst e;refine Qbt (QeZ ?_);rw[(last t2 b2 u2).1];dsimp only;exact Qbt (wpS_modify (Qb3 (.inr ⟨Nat.succ_pos _,rfl,(last t2 b2 u2).2⟩)))
  ·dsimp only;rw[Qp (Qai _)];exact Qb3 ⟨rfl,ft⟩
 ·rintro c t (⟨z,_,_⟩|⟨_,e,ft⟩)
  ·omega
  ·exact⟨e,ft⟩
 ·rintro c t ⟨rfl,ft⟩;dsimp only;refine Qbt (wpS_mono (Qdh (fun _ c t2=>t2=t∧c=(none,())) (Q:=fun c t2=>t2=t∧c=(none,())) ?_ (fun _ _ z=>z) ⟨rfl,rfl⟩) ?_)
  ·rintro n c t2 _ _ ⟨rfl,rfl⟩;refine Qbt (QeZ ?_);rw[Qp (by rw[ft.2.2.1];exact Qai 1)];exact Qb3 ⟨rfl,rfl⟩
  ·rintro c t2 ⟨rfl,rfl⟩;exact Qb3 (h _ ft.1 ft.2.1 ft.2.2.2)
end
def Zb9:List Int→List Int→Bool
 | [],[]=>false
 | [],_::_=>true
 |_::_,[]=>false
 |a::x,b::y=>if a=b then Zb9 x y else decide (a<b)
theorem Zdm:∀x:List Int,Zb9 x x=false
 | []=>rfl
 |a::x=>by unfold Zb9;rw[Qp rfl];exact Zdm x
theorem Zd5:∀{x y z:List Int},Zb9 x y=true→Zb9 y z=true→Zb9 x z=true
 | [],[],_,h,_=>by cases h
 | [],_::_,[],_,h=>by cases h
 | [],_::_,_::_,_,_=>rfl
 |_::_,[],_,h,_=>by cases h
 |_::_,_::_,[],_,h=>by cases h
 |a::x,b::y,c::z,h1,h2=>by
  unfold Zb9 at h1 h2⊢;by_cases e1:a=b
  ·subst e1;rw[Qp rfl] at h1;by_cases e2:a=c
   ·rw[Qp e2] at h2⊢;exact Zd5 h1 h2
   ·rw[Qn e2] at h2⊢;exact h2
  ·rw[Qn e1] at h1;have l1:=Qar h1;by_cases e2:b=c
   ·subst e2;rw[Qn e1];exact h1
   ·rw[Qn e2] at h2;have l2:=Qar h2;rw[Qn (by omega)];exact Qam (by omega)
theorem Zgn:∀{x y:List Int},Zb9 x y=false→Zb9 y x=false→x=y
 | [],[],_,_=>rfl
 | [],_::_,h,_=>by cases h
 |_::_,[],_,h=>by cases h
 |a::x,b::y,h1,h2=>by
  unfold Zb9 at h1 h2;by_cases e:a=b
  ·subst e;rw[Qp rfl] at h1 h2;rw[Zgn h1 h2]
  ·rw[Qn e] at h1;rw[Qn (Ne.symm e)] at h2;have l1:=Qbp h1;have l2:=Qbp h2;omega
theorem Zet {α:Type}{p q:α→Bool}:∀{l:List α},(∀z∈l,p z=true→q z=true)→(l.filter p).length≤(l.filter q).length
 | [],_=>Qai _
 |a::l,h=>by
  have ih:=Zet (l:=l) fun z hz=>h z (Qag _ hz);have ha:=h a Qah
  cases hp:p a with
  |true=>rw[Qbb hp,Qbb (ha hp)];simp only[QaB];omega
  |false=>
   rw[QbG (by simp[hp])]
   cases hq:q a with
   |true=>rw[Qbb hq];simp only[QaB];omega
   |false=>rw[QbG (by simp[hq])];exact ih
theorem Ze3 {α:Type}{p q:α→Bool}:∀{l:List α} {x:α},(∀z∈l,p z=true→q z=true)→x∈l→q x=true→p x=false→(l.filter p).length<(l.filter q).length
 | [],x,_,hx,_,_=>by cases hx
 |a::l,x,h,hx,q1,p1=>by
  have hl:∀z∈l,p z=true→q z=true:=fun z hz=>h z (Qag _ hz);rcases Qaw.mp hx with rfl|hx
  ·rw[QbG (by simp[p1]),Qbb q1]
   have:=Zet hl;simp only[QaB];omega
  ·have ih:=Ze3 hl hx q1 p1;have ha:=h a Qah
   cases hp:p a with
   |true=>rw[Qbb hp,Qbb (ha hp)];simp only[QaB];omega
   |false=>
    rw[QbG (by simp[hp])]
    cases hq:q a with
    |true=>rw[Qbb hq];simp only[QaB];omega
    |false=>rw[QbG (by simp[hq])];exact ih
def rnk (ks:List (List Int))(u:List Int):Int:=((ks.filter fun z=>Zb9 z u).length:Nat)
theorem Zp8 (hx:x∈ks)(h:Zb9 x y=true):rnk ks x<rnk ks y:=by
 have:=Ze3 (p:=fun z=>Zb9 z x) (q:=fun z=>Zb9 z y) (fun z _ hz=>Zd5 hz h) hx h (Zdm x);unfold rnk;omega
theorem Zp9 (hx:x∈ks)(hy:y∈ks):decide (rnk ks x<rnk ks y)=Zb9 x y:=by
 cases h:Zb9 x y with
 |true=>exact Qam (Zp8 hx h)
 |false=>
  refine QaC fun z=> ?_
  cases g:Zb9 y x with
  |true=>have:=Zp8 hy g;omega
  |false=>rw[Zgn h g] at z;omega
def Zt2:Value→Int
 | .int n _=>n
 |_=>0
theorem Zkj:∀{vs:List Value} {u:List Int},IntsAre vs u→vs.map Zt2=u
 |_,_,.nil=>rfl
 |_,_,.cons n t h=>by rw[QaD,Zkj h];rfl
def kfI (h:Heap)(v:Value):List Int:=match v with
 | .ref a=>match h.get? a with
  |some o=>match o.data with
   | .seq its _=>its.toList.map Zt2
   |_=>[]
  |none=>[]
 |_=>[]
def ZkZ (h:Heap)(v:Value)(u:List Int):Prop:=∃a o its n,v= .ref a∧h.get? a=some o∧o.cls= .type "tuple" ∧o.data= .seq its n∧IntsAre its.toList u
theorem ZkZ.kf {u:List Int}(t:ZkZ h v u):kfI h v=u:=by
 obtain⟨a,o,its,n,rfl,e,c,d,i⟩:=t;unfold kfI;dsimp only;rw[e];dsimp only;rw[d];exact Zkj i
theorem ZkZ.keep' {u:List Int}(t:ZkZ h v u)(k:∀(b:Addr)(o:Obj),o.cls= .type "tuple" →h.get? b=some o→h'.get? b=some o):ZkZ h' v u:=by
 obtain⟨a,o,its,n,rfl,e,c,r⟩:=t;exact⟨a,o,its,n,rfl,k a o c e,c,r⟩
theorem ZoH {vs:List Value}{k0:SortKind}{P:Fin→Shared→Prop}(hb:s.heap.get? a=some (seqObj "list" vs.toArray n))(h64:vs.length<64)
  (hk:2≤vs.length→∀h':Heap,(∀b o,b≠a→s.heap.get? b=some o→h'.get? b=some o)→∀(E:Value→Shared→Prop)(Q:SortKind→Shared→Prop),Q k0 {s with heap:=h' }→wpAny (model prog w) A (keyKind' vs.toArray) Q E {s with heap:=h' })
  (hL:∀h':Heap,(∀b o,b≠a→s.heap.get? b=some o→h'.get? b=some o)→ZoG prog w A {s with heap:=h' } k0 (pairsOf vs) rk)
  (h:∀xs:Array Keyed,xs.Perm (pairsOf vs)→(∀i j,i≤j→j<(pairsOf vs).size→RK rk xs i≤RK rk xs j)→P (.done (.ret .none)) {s with heap:=sortedHeap s.heap a vs (xs.map (·.2)) }):
  wpAny (model prog w) A (Builtin.«list.sort» ⟨[.ref a],[]⟩) P E s:=by
 have la:a<s.heap.objs.size:=Qan hb;have sv:vs.toArray.size=vs.length:=Qay ..;rw[list_sort_plain];refine Qaa (listItems_at hb rfl (Qaa (listUpdate_at hb rfl ?_)));have g1:=get?_update_seq hb (fun _=>(#[]:Array Value))
 have k1:∀b o,b≠a→s.heap.get? b=some o→(s.heap.update a (Obj.mapSeq fun _=> #[])).get? b=some o:=fun b o nb z=>by
  rw[Heap.get?_update_ne _ _ _ _ nb];exact z
 refine Qaa (seqEpoch_at g1 rfl (Qaa (QdT (Qaa (QeR (Qbz ?_))))));show wpAny (model prog w) A _ P E {s with heap:=((s.heap.update a (Obj.mapSeq fun _=> #[])).push (seqObj "tuple" vs.toArray 0)).push (seqObj "list" #[] 0) };have g6:=Qac (seqObj "list" #[] 0) (Qac (seqObj "tuple" vs.toArray 0) g1);have k6:∀b o,b≠a→s.heap.get? b=some o→(((s.heap.update a (Obj.mapSeq fun _=> #[])).push (seqObj "tuple" vs.toArray 0)).push (seqObj "list" #[] 0)).get? b=some o:=fun b o nb z=>Qac _ (Qac _ (k1 b o nb z))
 have done:∀(xs:Array Keyed)(t:SortSt),arrOf t=xs→failedOf t=none→xs.Perm (pairsOf vs)→(∀i j,i≤j→j<(pairsOf vs).size→RK rk xs i≤RK rk xs j)→
   wpAny (model prog w) A (do
    let touched:=(←seqEpoch a) !=(if(#[]:Array Value).size==vs.toArray.size then n else n+1)
    Builtin.List.listUpdate (.ref a) fun _=>(arrOf t).map (·.2)
    if let some e:=failedOf t then rule "list.sort.comparison-raised";throw e
    if touched then rule "list.sort.modified";raiseError "ValueError" "list modified during sort"
    ret .none) P E {s with heap:=((s.heap.update a (Obj.mapSeq fun _=> #[])).push (seqObj "tuple" vs.toArray 0)).push (seqObj "list" #[] 0) }:=by
  rintro xs t rfl ft pm up;refine Qaa (seqEpoch_at g6 rfl (Qaa (listUpdate_at g6 rfl ?_ (hsz2:=?_))))
  ·rw[ft];dsimp only;rw[Qn (by simp)];exact Qak (h _ pm up)
  ·show((arrOf t).map (·.2)).size≤sizeLine+1;rw[Array.size_map,pm.size_eq,QeD];exact QaW (show vs.length≤1000 by omega) (by decide)
 by_cases h2:vs.toArray.size<2
 ·rw[Qp h2,Qp h2];refine Qaa (Qak ?_);dsimp only;rw[StateT.run_pure];refine Qaa (Qak (done _ (SortSt.mk' general' (vs.toArray.zip vs.toArray) #[] 7 none) rfl rfl (Array.Perm.refl _) fun i j ij jl=> ?_));rw[QeD] at jl;rw[show i=j by omega];exact QaL _
 ·rw[Qn h2,Qn h2];refine Qaa (hk (by omega) _ k6 _ _ ?_);refine Qaa (QbK (ZqX (hL _ k6) (st:=SortSt.mk' k0 (vs.toArray.zip vs.toArray) #[] 7 none) (a0:=pairsOf vs) ⟨Array.Perm.refl _,rfl,rfl,rfl⟩ (by rw[QeD];omega) (by rw[QeD];exact h64) (Q:=fun _ t=>(arrOf t).Perm (pairsOf vs)∧failedOf t=none∧∀i j,i≤j→j<(pairsOf vs).size→RK rk (arrOf t) i≤RK rk (arrOf t) j) fun t p1 p2 p3=>⟨p1,p2,p3⟩) ?_ fun _ _ z=>z);rintro⟨⟨⟩,t⟩ s' ⟨rfl,p1,p2,p3⟩;exact done _ t rfl p2 p1 p3
def hsh (prog:Program)(w:World)(u:List Int):Int:=tupleKeyHash (intKind prog w) u
def ddT (us:List (List Int)):List (List Int):=us.foldl (fun acc k=>if k∈acc then acc else acc++ [k]) []
theorem Zd6 (us:List (List Int))(k:List Int):k∈ddT us↔k∈us:=by
 have:∀(us acc:List (List Int)),k∈us.foldl (fun acc k=>if k∈acc then acc else acc++ [k]) acc↔k∈acc∨k∈us:=by
  intro us
  induction us with
  |nil=>intro acc;simp
  |cons j us ih=>
   intro acc;rw[QbX,ih];split
   ·rename_i h;constructor
    ·rintro(z|z)
     ·exact .inl z
     ·exact .inr (Qag _ z)
    ·rintro(z|z)
     ·exact .inl z
     ·rcases Qaw.mp z with rfl|z
      ·exact .inl h
      ·exact .inr z
   ·simp[or_assoc]
 have:=this us [];unfold ddT;simpa using this
theorem Zda (us:List (List Int)):(ddT us).Nodup:=by
 have:∀(us acc:List (List Int)),acc.Nodup→(us.foldl (fun acc k=>if k∈acc then acc else acc++ [k]) acc).Nodup:=by
  intro us
  induction us with
  |nil=>intro acc h;exact h
  |cons j us ih=>
   intro acc h;refine ih _ ?_;show(if j∈acc then acc else acc++ [j]).Nodup;split
   ·exact h
   ·rename_i hj;rw[List.nodup_append];exact⟨h,by simp,fun a ha b hb z=>hj (by rw[←Qal.mp hb,←z];exact ha)⟩
 exact this us [] QeK
end L2
namespace TimG
open PySem PySem.Spec PyProof.Rows
class KO where
 rk:Value→Int
 ik:Keyed→Prop
 kd:SortKind
variable [KO]
def Zqa (p:Keyed):Int:=KO.rk p.1
def Ik (p:Keyed):Prop:=KO.ik p
class KL (prog:Program) (w:World) (A:Around) (s:Shared):Prop where
 lt:∀{E:Value→Shared→Prop} {x y:Keyed} {st:SortSt} {Q:Option Bool→SortSt→Prop},kindOf st=KO.kd→Ik x→Ik y→Q (some (decide (Zqa x<Zqa y))) st→wpS (model prog w) A E s (lt' x y) Q st
def K (a:Array Keyed)(i:Nat):Int:=L2.RK KO.rk a i
section
variable {prog:Program}{w:World}{A:Around}{E:Value→Shared→Prop}{s:Shared} [KL prog w A s]
def ZuM (left:Bool)(key x:Keyed):Bool:=if left=true then decide (Zqa x<Zqa key) else !decide (Zqa key<Zqa x)
end
variable [KO]
def Srt (l:List Keyed):Prop:=l.Pairwise fun x y=>Zqa x≤Zqa y
def Fin' (L R:List Keyed):Prop:=R.Perm L∧Srt R
variable [KO]
variable [KO]
variable [KO]
variable [KO]
variable [KO]
variable [KO]
def bare (P:Array (Nat×Nat×Nat)):List (Nat×Nat):=P.toList.map fun x=>(x.1,x.2.1)
variable [KO]
variable [KO]
variable [KO]
variable [KO]
variable [KO]
end TimG
namespace L2
open PySem PySem.Spec PyProof.Rows
variable {H H' H0:Hp}{Q:VK}{a q d p pa pb S v bg:Addr}{Z:L2.St→Hp→Prop}{n i e m r hd b lg wy:Int}{u ns:List Int}{X:Cx}{h' h:Heap}{us:List (List Int)}{s:Shared}{W L:List (Int×List Int)}{tp:Bool}{ks ws:List (List Int×Int)}{at0 ep j:Nat}{qa:List (Addr×Obj)}{es:Array DictEntry}{prog:Program}{w:World}{A:Around}{E:Value→Shared→Prop}{σ:St}{key x y:Value}{vs:List Value}{o:Expr}{qg qd:PySem.Pos}
theorem ZoI {o:Obj}(ho:h.get? a=some o)(hc:o.cls= .type "list")(k:∀b ob,b≠a→h.get? b=some ob→h'.get? b=some ob)(b:Addr)(ob:Obj)(c:ob.cls= .type "tuple")(e:h.get? b=some ob):h'.get? b=some ob:=by
 refine k b ob (fun z=> ?_) e;rw[z,ho] at e;cases e;rw[hc] at c;exact absurd c (by decide)
def TuL (H:Hp)(xs:List V)(us:List (List Int)):Prop:=xs.length=us.length∧∀(i:Nat)(x:V)(u:List Int),xs[i]?=some x→us[i]?=some u→∃a:Addr,x= .ref a∧H a=some (.tup (u.map V.int))
theorem TuL.nil (H:Hp):TuL H [] []:=⟨rfl,fun i x u h=>by cases h⟩
theorem TuL.up {xs:List V}(h:TuL H xs us)(t:Za7 H H'):TuL H' xs us:=⟨h.1,fun i x u h1 h2=>by
 obtain⟨a,b,c⟩:=h.2 i x u h1 h2
 exact⟨a,b,t _ _ c⟩⟩
theorem TuL.snoc {xs:List V}(h:TuL H xs us)(ha:H a=some (.tup (u.map V.int))):TuL H (xs++ [.ref a]) (us++ [u]):=by
 refine⟨by rw[Qae,Qae,h.1];rfl,fun i y r h1 h2=> ?_⟩;by_cases z:i<xs.length
 ·rw[Qas z] at h1;rw[Qas (h.1 ▸ z)] at h2;exact h.2 i y r h1 h2
 ·rw[Qaq (by omega)] at h1;rw[Qaq (by have:=h.1;omega),←h.1] at h2
  cases w:i-xs.length with
  |zero=>rw[w] at h1 h2;cases h1;cases h2;exact⟨a,rfl,ha⟩
  |succ m=>rw[w] at h1;cases h1
theorem ZsH (I:Inv X qa σ H s)(h:H a=some (.tup (u.map V.int))):ZkZ s.heap (.ref a) u:=by
 obtain⟨its,r,⟨o,e,c,n,hd⟩,_⟩:=I.tuple (SqT.of (K:=X.K) h);exact⟨a,o,_,n,rfl,e,c,hd,by simpa using ZfO r⟩
def ZlM (h:Heap)(d:Addr)(es:Array DictEntry)(ep:Nat):Prop:=∃o,h.get? d=some o∧o.ExactDict∧o.data= .dict es ep
theorem ZlM.keep (r:ZlM h d es ep)(k:∀o,h.get? d=some o→h'.get? d=some o):ZlM h' d es ep:=
 let⟨o,e,x⟩:=r;⟨o,k o e,x⟩
def ItF (h:Heap)(it d:Addr)(f0 f1:Value)(i n ep:Nat)(ok ov:Value):Prop:=
 h.get? it=some {cls:=.type "dict_itemiterator",data:=.fields #[f0,f1,.ref d,.int i 0,.int n 0,.int ep 0,ok,ov] }
section
variable {it:Addr}{f0 f1 ok ov:Value}{i:Nat}
theorem ZoJ (g:ItF s.heap it d f0 f1 i es.size ep ok ov):s.TypeIs (.ref it) "dict_itemiterator" :=⟨_,g,rfl⟩
theorem ZiP:Builtin.Dict_items.ownsTuple "dict_itemiterator" =true:=by decide
theorem Zqb {Q:Option Value→Shared→Prop}(g:ItF s.heap it d f0 f1 i es.size ep ok ov)(hd:ZlM s.heap d es ep)(hi:i<es.size)
  (k:∀(A':Around)(E':Value→Shared→Prop)(h1:Heap),ItF h1 it d f0 f1 (i+1) es.size ep ok ov→Heap.SameBut it s.heap h1→wpAny (model prog w) A' (Builtin.Dict_items.pairFromOwner (.ref it) 6 es[i].key es[i].val) (fun v s'=>Q (some v) s') E' {s with heap:=h1 }):
  wpAny (model prog w) A (pyNext (.ref it)) Q E s:=by
 obtain⟨o,e1,e2,e3⟩:=hd;have ty:=ZoJ g;unfold pyNext;refine Qaa (Qdv (QbF ty QbQ (QbE QbQ ty QcR ?_ (QcQ _))));refine Qaa (Qak (Qaa (Qaa (Qaa (Qb9 ty (Qak (Qaa (wpAny_fieldsOf g rfl ?_))))))));simp only[ZiP,QbW];show wpAny _ _ (if(Value.ref d==Value.none)=true then _ else _) _ _ _;rw[Qn (by intro z;cases z)];refine Qaa (Qak (Qaa (Qd3 e1 e3 ?_)));rw[Qn (by simp)];refine Qaa (Qak (Qaa (QeE e1 e3 ?_)));rw[Qn (by simp)];refine Qak ?_;have n0:¬((i:Int)<0):=by omega
 simp only[n0,Qbv,QbR,Qb2 hi];refine Qaa (Qaa (Qb9 ty (Qak (Qaa (Qc7 ty ?_)))));show wpAny _ _ (setField (.ref it) 3 (rawInt ((i:Int)+1))>>=_) _ _ _;refine Qaa (Qbh g (by simp) fun h1 g1 sb=> ?_);have g2:ItF h1 it d f0 f1 (i+1) es.size ep ok ov:=g1;have ty1:Shared.TypeIs {s with heap:=h1 } (.ref it) "dict_itemiterator" :=⟨_,g2,rfl⟩;refine Qaa (Qbz (Qaa (Qc7 ty1 (Qaa (Qc7 ty1 ?_)))));show wpAny _ _ (Builtin.Dict_items.pairFromOwner (.ref it) 6 es[i].key es[i].val) _ _ _;exact QbK (k _ _ h1 g2 sb) (fun v s' q=>Qak ⟨v,rfl,Qak q⟩) fun _ _ z=>z
theorem Zk0 {val:Value}{Q:Value→Shared→Prop}(g:ItF s.heap it d .none f1 i es.size ep ok ov)
  (k:∀h',ItF h' it d (rawInt s.heap.objs.size) (.bool false) i es.size ep key val→h'.get? s.heap.objs.size=some {cls:=.type "tuple",data:=.seq #[key,val] }→h'.objs.size=s.heap.objs.size+1→(∀b o,b≠it→s.heap.get? b=some o→h'.get? b=some o)→Q (.ref s.heap.objs.size) {s with heap:=h' }):
  wpAny (model prog w) A (Builtin.Dict_items.pairFromOwner (.ref it) 6 key val) Q E s:=by
 have hil:it<s.heap.objs.size:=Qan g;unfold Builtin.Dict_items.pairFromOwner;refine Qaa (QdT ?_);have g1:ItF (s.heap.push {cls:=.type "tuple",data:=.seq #[key,val] }) it d .none f1 i es.size ep ok ov:=Qac _ g;have t1:(s.heap.push {cls:=.type "tuple",data:=.seq #[key,val] }).get? s.heap.objs.size=some {cls:=.type "tuple",data:=.seq #[key,val] }:=Qat _ rfl;have z1:(s.heap.push {cls:=.type "tuple",data:=.seq #[key,val] }).objs.size=s.heap.objs.size+1:=Qbk ..;have k1:∀b o,b≠it→s.heap.get? b=some o→(s.heap.push {cls:=.type "tuple",data:=.seq #[key,val] }).get? b=some o:=fun b o _ e=>Qac _ e;show wpAny _ _ (Builtin.Dict_items.ownedTupleIsFree (.ref it)>>=_) _ _ {s with heap:=s.heap.push {cls:=.type "tuple",data:=.seq #[key,val] } };generalize s.heap.push {cls:=.type "tuple",data:=.seq #[key,val] }=h1 at g1 t1 z1 k1;unfold Builtin.Dict_items.ownedTupleIsFree;refine Qaa (Qaa (Qbo g1 rfl (x:=.none) rfl (Qak ?_)));simp only[QbW];refine Qaa (Qbo g1 rfl (x:=ok) rfl (Qaa (Qbo g1 rfl (x:=ov) rfl ?_)));refine Qaa (Qbh g1 (by simp) fun h2 g2 b2=> ?_);refine Qaa (Qbh g2 (by simp) fun h3 g3 b3=> ?_);refine Qaa (Qbh g3 (by simp) fun h4 g4 b4=> ?_);refine Qaa (Qbh g4 (by simp) fun h5 g5 b5=> ?_);have all:∀b o,b≠it→h1.get? b=some o→h5.get? b=some o:=fun b o n e=>Qbu b5 b o n (Qbu b4 b o n (Qbu b3 b o n (Qbu b2 b o n e)))
 have sz:h5.objs.size=s.heap.objs.size+1:=by
  have q2:h2.objs.size=h1.objs.size:=b2.1;have q3:h3.objs.size=h2.objs.size:=b3.1;have q4:h4.objs.size=h3.objs.size:=b4.1;have q5:h5.objs.size=h4.objs.size:=b5.1;omega
 exact Qaa (Qch (Qak (k h5 g5 (all _ _ (Qbq hil) t1) sz fun b o n e=>all b o n (k1 b o n e))))
theorem ZmK {val:Value}{oa:Obj}{f:Bool}{Q:Value→Shared→Prop}(g:ItF s.heap it d (rawInt a) (.bool f) i es.size ep ok ov)(ha:s.heap.get? a=some oa)
  (k:∀h',ItF h' it d (rawInt a) (.bool true) i es.size ep ok ov→h'.get? s.heap.objs.size=some {cls:=.type "tuple",data:=.seq #[key,val] }→h'.objs.size=s.heap.objs.size+1→(∀b o,b≠it→s.heap.get? b=some o→h'.get? b=some o)→Q (.ref s.heap.objs.size) {s with heap:=h' }):
  wpAny (model prog w) A (Builtin.Dict_items.pairFromOwner (.ref it) 6 key val) Q E s:=by
 have hil:it<s.heap.objs.size:=Qan g;unfold Builtin.Dict_items.pairFromOwner;refine Qaa (QdT ?_);have g1:ItF (s.heap.push {cls:=.type "tuple",data:=.seq #[key,val] }) it d (rawInt a) (.bool f) i es.size ep ok ov:=Qac _ g;have t1:(s.heap.push {cls:=.type "tuple",data:=.seq #[key,val] }).get? s.heap.objs.size=some {cls:=.type "tuple",data:=.seq #[key,val] }:=Qat _ rfl;have a1:=Qac {cls:=.type "tuple",data:=.seq #[key,val] } ha;have z1:(s.heap.push {cls:=.type "tuple",data:=.seq #[key,val] }).objs.size=s.heap.objs.size+1:=Qbk ..;have k1:∀b o,b≠it→s.heap.get? b=some o→(s.heap.push {cls:=.type "tuple",data:=.seq #[key,val] }).get? b=some o:=fun b o _ e=>Qac _ e;show wpAny _ _ (Builtin.Dict_items.ownedTupleIsFree (.ref it)>>=_) _ _ {s with heap:=s.heap.push {cls:=.type "tuple",data:=.seq #[key,val] } };generalize s.heap.push {cls:=.type "tuple",data:=.seq #[key,val] }=h1 at g1 t1 z1 k1 a1;unfold Builtin.Dict_items.ownedTupleIsFree;refine Qaa (Qaa (Qbo g1 rfl (x:=rawInt a) rfl ?_));show wpAny _ _ (loadIfAlive ((a:Int).toNat)>>=_) _ _ _;rw[QbR];refine Qaa (PySem.W.kdx_alive a1 ?_);simp only[Option.isNone_some,QaI,Qbv];refine Qaa (Qbo g1 rfl (x:=.bool f) rfl ?_)
 cases f with
 |true=>
  rw[Qn (by decide)];refine Qak ?_;simp only[QaI,Qbv];exact Qak (k h1 g1 t1 z1 k1)
 |false=>
  rw[Qp (by decide)];refine Qaa (Qbh g1 (by simp) fun h2 g2 b2=>Qak ?_);simp only[QaI,Qbv];exact Qak (k h2 g2 (Qbu b2 _ _ (Qbq hil) t1) (by have q2:h2.objs.size=h1.objs.size:=b2.1;omega) fun b o n e=>Qbu b2 b o n (k1 b o n e))
theorem Zqc {Q:Option Value→Shared→Prop}(hh:A.handled=none)(g:ItF s.heap it d f0 f1 es.size es.size ep ok ov)(hd:ZlM s.heap d es ep)
  (k:∀h',Heap.ExtBut it s.heap h'→Q none {s with heap:=h' }):wpAny (model prog w) A (pyNext (.ref it)) Q E s:=by
 obtain⟨o,e1,e2,e3⟩:=hd;have ty:s.TypeIs (.ref it) "dict_itemiterator" :=⟨_,g,rfl⟩;unfold pyNext;refine Qaa (Qdv (QbF ty QbQ (QbE QbQ ty QcR ?_ (QcQ _))));refine Qaa (Qak (Qaa (Qaa (Qaa (Qb9 ty (Qak (Qaa (wpAny_fieldsOf g rfl ?_))))))));simp only[ZiP,QbW];show wpAny _ _ (if(Value.ref d==Value.none)=true then _ else _) _ _ _;rw[Qn (by intro z;cases z)];refine Qaa (Qak (Qaa (Qd3 e1 e3 ?_)));rw[Qn (by simp)];refine Qaa (Qak (Qaa (QeE e1 e3 ?_)));rw[Qn (by simp)];refine Qak ?_;have n0:¬((es.size:Int)<0):=by omega
 simp only[n0,Qbv,QbR,Array.getElem?_eq_none (Qai _)];refine Qaa (Qaa (Qb9 ty (Qak ?_)));show wpAny _ _ (setField (.ref it) 2 .none>>=_) _ _ s;refine Qaa (QeJ g rfl (by simp) ?_);show wpAny _ _ (newExc (Value.type "StopIteration") []>>=fun e=>raiseNew e) _ _ _;refine Zst hh fun e h' kp ⟨ob,ge,gc⟩=> ?_;refine Qaa (wpAny_isInstance (T:= "StopIteration") (b:=true) ⟨ob,ge,gc⟩ isSubtype_stop ?_);exact Qak (k _ fun b o n e=>kp b o (Qbu (QdD ..) b o n e))
def ItS (h:Heap)(it d S:Addr)(i n ep:Nat):Prop:=(i=0∧∃ok ov,ItF h it d .none (.bool false) 0 n ep ok ov)∨∃(a:Addr)(f:Bool)(ok ov:Value)(oa:Obj),ItF h it d (rawInt a) (.bool f) i n ep ok ov∧h.get? a=some oa∧a≠it∧a≠S
theorem ItS.keep {n:Nat}(x:ItS h it d S i n ep)(nS:it≠S)(k:∀b o,b≠S→h.get? b=some o→h'.get? b=some o):ItS h' it d S i n ep:=by
 rcases x with⟨e,ok,ov,g⟩|⟨a,f,ok,ov,oa,g,ga,n1,n2⟩
 ·exact .inl ⟨e,ok,ov,k _ _ nS g⟩
 ·exact .inr ⟨a,f,ok,ov,oa,k _ _ nS g,k _ _ n2 ga,n1,n2⟩
theorem ZoK {Q:Option Value→Shared→Prop}(x:ItS s.heap it d S i es.size ep)(hS:S<s.heap.objs.size)(hd:ZlM s.heap d es ep)(hi:i<es.size)
  (k:∀h',ItS h' it d S (i+1) es.size ep→h'.get? s.heap.objs.size=some {cls:=.type "tuple",data:=.seq #[es[i].key,es[i].val] }→h'.objs.size=s.heap.objs.size+1→(∀b o,b≠it→s.heap.get? b=some o→h'.get? b=some o)→Q (some (.ref s.heap.objs.size)) {s with heap:=h' }):
  wpAny (model prog w) A (pyNext (.ref it)) Q E s:=by
 rcases x with⟨rfl,ok,ov,g⟩|⟨a,f,ok,ov,oa,g,ga,n1,n2⟩
 ·refine Zqb g hd hi fun A' E' h1 g1 sb=> ?_;have z1:h1.objs.size=s.heap.objs.size:=sb.1;have hil:it<s.heap.objs.size:=Qan g;refine Zk0 (s:={s with heap:=h1 }) g1 fun h' g2 t2 z2 k2=> ?_;dsimp only at g2 t2 z2 k2⊢;rw[z1] at g2 t2 z2⊢;exact k h' (.inr ⟨_,_,_,_,_,g2,t2,Qbq hil,Qbq hS⟩) t2 z2 fun b o n e=>k2 b o n (Qbu sb b o n e)
 ·refine Zqb g hd hi fun A' E' h1 g1 sb=> ?_;have z1:h1.objs.size=s.heap.objs.size:=sb.1;refine ZmK (s:={s with heap:=h1 }) g1 (Qbu sb _ _ n1 ga) fun h' g2 t2 z2 k2=> ?_;dsimp only at g2 t2 z2 k2⊢;rw[z1] at t2 z2⊢;have k3:∀b o,b≠it→s.heap.get? b=some o→h'.get? b=some o:=fun b o n e=>k2 b o n (Qbu sb b o n e);exact k h' (.inr ⟨a,true,ok,ov,oa,g2,k3 _ _ n1 ga,n1,n2⟩) t2 z2 k3
theorem ZqY {Q:Option Value→Shared→Prop}(hh:A.handled=none)(x:ItS s.heap it d S es.size es.size ep)(hd:ZlM s.heap d es ep)
  (k:∀h',Heap.ExtBut it s.heap h'→Q none {s with heap:=h' }):wpAny (model prog w) A (pyNext (.ref it)) Q E s:=by
 rcases x with⟨e,ok,ov,g⟩|⟨a,f,ok,ov,oa,g,_⟩
 ·have g':∀m,m=0→ItF s.heap it d .none (.bool false) m es.size ep ok ov:=fun m z=>by subst z;exact g
  exact Zqc hh (g' _ e) hd k
 ·exact Zqc hh g hd k
def ZdF (h:Heap)(es:Array DictEntry)(as:List Addr):Prop:=∀(j:Nat)(a:Addr),as[j]?=some a→∃e,es[j]?=some e∧h.get? a=some {cls:=.type "tuple",data:=.seq #[e.key,e.val] }
theorem Zk1 {as:List Addr}(p:ZdF h es as)(k:∀a∈as,∀o,h.get? a=some o→h'.get? a=some o):ZdF h' es as:=fun j a e=>by
 obtain⟨x,e1,e2⟩:=p j a e;exact⟨x,e1,k a (Qav e) _ e2⟩
theorem ZoL {R:Result→Shared→Prop}{I:Addr}(hh:A.handled=none)(hSI:S≠I)(hSd:S≠d)(hId:I≠d)(hn:es.size≤sizeLine)(res:Value){h0:Heap}
  (hR:∀(h':Heap)(c:Nat)(acc:Array Value)(as:List Addr),(∀b o,b≠S→b≠I→h0.get? b=some o→h'.get? b=some o)→h'.get? S=some {cls:=.type "list",data:=.seq acc c }→as.length=es.size→ZdF h' es as→(∀a∈as,h0.objs.size≤a)→acc.toList=as.map Value.ref→R (.ok (.ret res)) {s with heap:=h' }):
  ∀(k i:Nat)(h:Heap)(c:Nat)(acc:Array Value)(as:List Addr),es.size-i=k→i≤es.size→ItS h I d S i es.size ep→ZlM h d es ep→(∀b o,b≠S→b≠I→h0.get? b=some o→h.get? b=some o)→h0.objs.size≤h.objs.size→h.get? S=some {cls:=.type "list",data:=.seq acc c }→acc.toList=as.map Value.ref→as.length=i→ZdF h es as→(∀a∈as,h0.objs.size≤a∧a≠S∧a≠I)→
   codeAny (model prog w) A (.builtin "list.extend.loop" ⟨[.ref S,.ref I,res],[]⟩) R {s with heap:=h }:=by
 intro k
 induction k with
 |zero=>
  intro i h c acc as hk hi st rd kp sz gS ha hl pa na;have ei:i=es.size:=by omega
  subst ei;refine QbC QdV ?_;rw[Qba Qb4 _];show wpAny _ A.in1 (pyNext (.ref I)>>=_) _ _ _;refine Qaa (ZqY (s:={s with heap:=h }) hh st rd fun h' x=>Qak (hR h' c acc as (fun b o n1 n2 e=>x b o n2 (kp b o n1 n2 e)) (x _ _ hSI gS) hl (Zk1 pa fun a m o e=>x a o (na a m).2.2 e) (fun a m=>(na a m).1) ha))
 |succ k ih=>
  intro i h c acc as hk hi st rd kp sz gS ha hl pa na;have il:i<es.size:=by omega
  refine QbC QdV ?_;rw[Qba Qb4 _];show wpAny _ A.in1 (pyNext (.ref I)>>=_) _ _ _;refine Qaa (ZoK (s:={s with heap:=h }) st (Qan gS) rd il fun h' st' t' z' x=> ?_);dsimp only at t' z' x⊢;have gS':=x _ _ hSI gS;have asz:acc.size=i:=by rw[←Qbj,ha,Qaf,hl]
  show wpAny _ A.in1 (updateSeq S (·.push (.ref h.objs.size))>>=_) _ _ _;have oth:∀b o,b≠S→h'.get? b=some o→(h'.update S (Obj.mapSeq (·.push (.ref h.objs.size)))).get? b=some o:=fun b o n e=>(QaU _ _ (Ne.symm n)).trans e
  have Il:I<h.objs.size:=by
   rcases st with⟨_,_,_,g⟩|⟨_,_,_,_,_,g,_⟩<;>exact Qan g
  have sn:h.objs.size≠S:=Qbq (Qan gS);refine Qaa (Qca gS' rfl (Qak ⟨QbO Qb4 _,ih (i+1) _ _ (acc.push (.ref h.objs.size)) (as++ [h.objs.size]) (by omega) il (st'.keep (Ne.symm hSI) oth) (rd.keep fun o e=>oth d o (Ne.symm hSd) (x d o (Ne.symm hId) e)) (fun b o n1 n2 e=>oth b o n1 (x b o n2 (kp b o n1 n2 e))) ?_ (Qbr _ gS' rfl) ?_ ?_ ?_ ?_⟩) (by rw[asz];omega) (by show(acc.push _).size≤sizeLine+1;rw[Array.size_push,asz];omega))
  ·rw[Qen];show h0.objs.size≤h'.objs.size;omega
  ·rw[Array.toList_push,ha,Qau];rfl
  ·rw[Qae,hl];rfl
  ·intro j a e;by_cases jl:j<as.length
   ·rw[Qas jl] at e;obtain⟨y,e1,e2⟩:=pa j a e;have na':=na a (Qav e);exact⟨y,e1,oth a _ na'.2.1 (x a _ na'.2.2 e2)⟩
   ·rw[Qaq (by omega)] at e
    have j0:j=i:=by
     have:=(Qab.mp e).1;simp only[QaB,QbM] at this;omega
    subst j0;rw[hl,QcJ] at e;cases e;exact⟨es[j],Qb2 il,oth _ _ sn t'⟩
  ·intro a m;rcases Qap.mp m with m|m
   ·exact na a m
   ·rw[Qal.mp m];exact⟨sz,sn,Qbq Il⟩
theorem ZoM {Q:Value→Shared→Prop}(hv:s.heap.IsItemsView v d)(hd:ZlM s.heap d es ep)
  (k:Q (.ref s.heap.objs.size) {s with heap:=s.heap.push {cls:=.type "dict_itemiterator",data:=.fields #[.none,.bool false,.ref d,.int 0 0,.int es.size 0,.int ep 0,.none,.none] } }):wpAny (model prog w) A (pyIter (.ref v)) Q E s:=by
 obtain⟨o,e1,e2,e3⟩:=hd;have ty:=hv.typeIs;obtain⟨ov,g1,g2,g3⟩:=hv;refine wpAny_pyIter_slot ty Qdw (QbE Qdw ty PySem.F.entry_dict_items_iter ?_ (PySem.F.args_dict_items_iter_1 _));unfold Builtin.«dict_items.__iter__» Builtin.Dict_items.dictOf Builtin.Dict_items.newIterator;refine Qaa (Qak (Qaa (Qaa (Qbo g1 g3 (x:=.ref d) rfl (Qak (Qaa (Qaa (Qd3 e1 e3 (Qaa (QeE e1 e3 ?_))))))))));simp only[ZiP,QbW];refine Qa4 (Qak ⟨_,rfl, "dict_itemiterator",_,⟨_,Qat _ rfl,rfl⟩,PySem.F.slot_dict_itemiterator_next.lookup,?_⟩) ?_
 ·simpa[rawInt,Builtin.Dict_items.ownedTupleFields] using k
 ·simp only[sizeOk,Builtin.Dict_items.ownedTupleFields,Qay,Qae,QaB,QbM]
  decide
theorem ZiQ {Q:List Value→Shared→Prop}(hh:A.handled=none)(hv:s.heap.IsItemsView v d)(hd:ZlM s.heap d es ep)(hn:es.size≤sizeLine)
  (k:∀(h':Heap)(as:List Addr),(∀b o,s.heap.get? b=some o→h'.get? b=some o)→as.length=es.size→ZdF h' es as→(∀a∈as,s.heap.objs.size≤a)→Q (as.map Value.ref) {s with heap:=h' }):wpAny (model prog w) A (collect (.ref v)) Q E s:=by
 have vl:v<s.heap.objs.size:=let⟨_,e,_⟩:=hv;Qan e;have dl:d<s.heap.objs.size:=let⟨_,e,_⟩:=hd;Qan e
 have ext:∀(s:Shared)(R:Result→Shared→Prop)(S:Addr)(n0:Nat),s.heap.IsItemsView v d→ZlM s.heap d es ep→s.heap.get? S=some {cls:=.type "list",data:=.seq #[] n0 }→S≠v→S≠d→
   (∀(h':Heap)(c:Nat)(acc:Array Value)(as:List Addr),(∀b o,b≠S→s.heap.get? b=some o→h'.get? b=some o)→h'.get? S=some {cls:=.type "list",data:=.seq acc c }→as.length=es.size→ZdF h' es as→(∀a∈as,s.heap.objs.size≤a)→acc.toList=as.map Value.ref→R (.ok (.ret (.ref S))) {s with heap:=h' })→
   wpAny (model prog w) A.in1 (Builtin.List.listExtendWith (.ref S) (.ref v) (.ref S)) (fun fin s'=>match fin with| .done f=>R (.ok f) s'| .again c'=>c'.quiet=true∧codeAny (model prog w) A c' R s') (fun e s'=>R (.error e) s') s:=by
  intro s R S n0 hv hd gS nv nd hR;have dl:d<s.heap.objs.size:=let⟨_,e,_⟩:=hd;Qan e;have Sl:S<s.heap.objs.size:=Qan gS;unfold Builtin.List.listExtendWith;refine Qaa (QeV (T:= "dict_items") hv.typeIs ?_);have e1:Builtin.List.listSameRef (.ref S) (.ref v)=false:=by simp[Builtin.List.listSameRef,nv]
  have e2:(Value.type "dict_items" ==Value.type "list")=false:=by decide
  have e3:(Value.type "dict_items" ==Value.type "tuple")=false:=by decide
  simp only[e1,e2,e3,Bool.or_false,QaI,Qbv];refine Qaa (ZoM hv hd ?_);have g1:=Qac {cls:=.type "dict_itemiterator",data:=.fields #[.none,.bool false,.ref d,.int 0 0,.int es.size 0,.int ep 0,.none,.none] } gS;have it1:ItF (s.heap.push {cls:=.type "dict_itemiterator",data:=.fields #[.none,.bool false,.ref d,.int 0 0,.int es.size 0,.int ep 0,.none,.none] }) s.heap.objs.size d .none (.bool false) 0 es.size ep .none .none:=Qat _ rfl;have k1:∀b o,s.heap.get? b=some o→(s.heap.push {cls:=.type "dict_itemiterator",data:=.fields #[.none,.bool false,.ref d,.int 0 0,.int es.size 0,.int ep 0,.none,.none] }).get? b=some o:=fun b o e=>Qac _ e;have z1:s.heap.objs.size≤(s.heap.push {cls:=.type "dict_itemiterator",data:=.fields #[.none,.bool false,.ref d,.int 0 0,.int es.size 0,.int ep 0,.none,.none] }).objs.size:=by rw[Qbk];omega
  have hv1:(s.heap.push {cls:=.type "dict_itemiterator",data:=.fields #[.none,.bool false,.ref d,.int 0 0,.int es.size 0,.int ep 0,.none,.none] }).IsItemsView v d:=let⟨o,e,x⟩:=hv;⟨o,k1 _ _ e,x⟩;generalize s.heap.push {cls:=.type "dict_itemiterator",data:=.fields #[.none,.bool false,.ref d,.int 0 0,.int es.size 0,.int ep 0,.none,.none] }=h1 at g1 it1 k1 z1 hv1
  have go:∀(h2:Heap)(c:Nat),(∀b o,b≠S→h1.get? b=some o→h2.get? b=some o)→h1.objs.size≤h2.objs.size→h2.get? S=some {cls:=.type "list",data:=.seq #[] c }→codeAny (model prog w) A (.builtin "list.extend.loop" ⟨[.ref S,.ref s.heap.objs.size,.ref S],[]⟩) R {s with heap:=h2 }:=fun h2 c k2 z2 g2=>by
   refine ZoL (h0:=s.heap) hh (QaM Sl) nd (Qbq dl) hn (.ref S) (fun h' c acc as q1 q2 q3 q4 q5 q6=> ?_) es.size 0 h2 c #[] [] rfl (QaS _) (.inl ⟨rfl,_,_,k2 _ _ (Qbq Sl) it1⟩) (hd.keep fun o e=>k2 _ _ (Ne.symm nd) (k1 _ _ e)) (fun b o n1 _ e=>k2 b o n1 (k1 b o e)) (QaW z1 z2) g2 rfl rfl (fun j a e=>by cases e) (fun a m=>by cases m);exact hR h' c acc as (fun b o n e=>q1 b o n (QaM (Qan e)) e) q2 q3 q4 q5 q6
  refine Qaa (Qbz (PySem.W.kdx_hint (hv1.typeIs (s:={s with heap:=h1 })) ?_));refine wpAny_ite_split (fun _=> ?_) (fun _=>Qak ⟨QbO Qb4 _,go h1 n0 (fun b o _ e=>e) (Qai _) g1⟩);refine Qaa (Qc8 (Qaa ?_));show wpAny _ _ (updateSeq S (·.push .none)>>=fun _=>updateSeq S (·.pop)) _ _ _;refine Qaa (Qca g1 rfl ?_);have g2:=Qbr (Obj.mapSeq (·.push Value.none)) g1 rfl;refine Qca (hz:=by seq_fits) g2 rfl ?_;have g3:=Qbr (Obj.mapSeq (·.pop)) g2 rfl;refine Qak ⟨QbO Qb4 _,go _ _ (fun b o n e=> ?_) ?_ g3⟩
  ·exact(QaU _ _ (Ne.symm n)).trans ((QaU _ _ (Ne.symm n)).trans e)
  ·rw[Qen,Qen];exact Qai _
 have key:∀R:Result→Shared→Prop,(∀(h':Heap)(c:Nat)(acc:Array Value)(as:List Addr),(∀b o,s.heap.get? b=some o→h'.get? b=some o)→h'.get? s.heap.objs.size=some {cls:=.type "list",data:=.seq acc c }→as.length=es.size→ZdF h' es as→(∀a∈as,s.heap.objs.size≤a)→acc.toList=as.map Value.ref→R (.ok (.ret (.ref s.heap.objs.size))) {s with heap:=h' })→
   codeAny (model prog w) A (.builtin "proto.collect" ⟨[.ref v],[]⟩) R s:=by
  intro R hR;refine QbC QdF ?_;rw[Qba QdG _];show wpAny _ A.in1 (newList []>>=fun q=>again (.builtin "list.__iadd__" ⟨[q,.ref v],[]⟩)) _ _ s;refine Qaa (Qa4 (Qak ⟨QbO QcD _,QbC Qeh ?_⟩));rw[Qba QcD _];show wpAny _ A.in1 (Builtin.List.listExtendWith (.ref s.heap.objs.size) (.ref v) (.ref s.heap.objs.size)) _ _ _;refine ext {s with heap:=s.heap.push {cls:=.type "list",data:=.seq ([]:List Value).toArray } } R s.heap.objs.size 0 (let⟨o,e,x⟩:=hv;⟨o,Qac _ e,x⟩) (hd.keep fun o e=>Qac _ e) (Qat _ rfl) (Qbq vl) (Qbq dl) fun h' c acc as q1 q2 q3 q4 q5 q6=> ?_;refine hR h' c acc as (fun b o e=>q1 b o (QaM (Qan e)) (Qac _ e)) q2 q3 q4 (fun a m=> ?_) q6
  have:=q5 a m;rw[Qbk] at this;omega
 unfold collect;refine Qaa (wpAny_runValue (key _ fun h' c acc as q1 q2 q3 q4 q5 q6=> ?_));show wpAny _ A (load s.heap.objs.size>>=_) _ _ _;refine Qaa (wpAny_load q2 (Qak ?_))
 have:=k h' as q1 q3 q4 q5;rw[←q6] at this;exact this
end
def PrI (h:Heap)(v:Value)(u:List Int)(m:Int):Prop:=∃(a:Addr)(o:Obj)(ka:Value)(t:Tok)(n:Nat),v= .ref a∧h.get? a=some o∧o.cls= .type "tuple" ∧o.data= .seq #[ka,.int m t] n∧ZkZ h ka u
def kfP (h:Heap)(v:Value):List Int:=match v with
 | .ref a=>match h.get? a with
  |some o=>match o.data with
   | .seq its _=>kfI h (its.getD 0 .none)
   |_=>[]
  |none=>[]
 |_=>[]
def kfM (h:Heap)(v:Value):Int:=match v with
 | .ref a=>match h.get? a with
  |some o=>match o.data with
   | .seq its _=>Zt2 (its.getD 1 .none)
   |_=>0
  |none=>0
 |_=>0
theorem PrI.kf {h:Heap}{v:Value}{u:List Int}{m:Int}(p:PrI h v u m):kfP h v=u∧kfM h v=m:=by
 obtain⟨a,o,ka,t,n,rfl,e,c,d,x⟩:=p;unfold kfP kfM;dsimp only;rw[e];dsimp only;rw[d];exact⟨x.kf,rfl⟩
theorem PrI.keep {v:Value}(p:PrI h v u m)(k:∀(b:Addr)(o:Obj),o.cls= .type "tuple" →h.get? b=some o→h'.get? b=some o):PrI h' v u m:=by
 obtain⟨a,o,ka,t,n,rfl,e,c,d,x⟩:=p;exact⟨a,o,ka,t,n,rfl,k a o c e,c,d,x.keep' k⟩
theorem Zd7 {P:Program}{w:World}:∀{vs:List Value} {u:List Int},IntsAre vs u→ItemsAre (intKind P w) u vs
 |_,_,.nil=> .nil
 |_,_,.cons n t h=> .cons (intKind_is _ _ _ _) (Zd7 h)
theorem ZiR:∀(u v:List Int),HT.lexLt u v=Zb9 u v
 | [],[]=>rfl
 | [],_::_=>rfl
 |_::_,[]=>rfl
 |a::u,b::v=>by rw[HT.lexLt_cons,ZiR u v];rfl
theorem ZoN {v:List Int}{Q:Bool→Shared→Prop}(hu:A.units<cLine)(hx:PrI s.heap x u m)(hy:PrI s.heap y v n)(hm:u=v→m=n)(h:Q (Zb9 u v) s):wpAny (model prog w) A (keyLt' (tuples' false) x y) Q E s:=by
 obtain⟨a,o,ka,t,z,rfl,e,c,d,tx⟩:=hx;obtain⟨a',o',ka',t',z',rfl,e',c',d',ty⟩:=hy;obtain⟨p,op,ip,np,rfl,g1,g2,g3,g4⟩:=tx;obtain⟨q,oq,iq,nq,rfl,k1,k2,k3,k4⟩:=ty;refine PySem.W.kat_lt e d e' d' (PySem.W.kat_cons ?_);refine wpAny_eqBool_tuple (knd:=intKind prog w) hu ⟨op,ip,np,g1,g2,g3,Zd7 g4⟩ ⟨oq,iq,nq,k1,k2,k3,Zd7 k4⟩ ?_;by_cases z:u=v
 ·rw[Qam z];refine PySem.W.kat_yes (PySem.W.kat_cons ((intKind prog w).eqBool (a:=m) (b:=n) (intKind_is _ _ _ _) (intKind_is _ _ _ _) ?_));rw[Qam (hm z)];refine PySem.W.kat_yes (PySem.W.kat_nil ?_);rw[z,Zdm] at h;exact h
 ·rw[QaC z];refine PySem.W.kat_no (PySem.W.kat_one _ _ ?_);refine HT.lt_tupInts (items:=ip) (items2:=iq) ⟨op,g1,g2,np,g3⟩ ⟨oq,k1,k2,nq,k3⟩ g4 k4 hu ?_;rw[ZiR];exact h
theorem Zk2 (hv:∀v∈vs,∃u m,PrI s.heap v u m)(h1:vs≠ []){Q:SortKind→Shared→Prop}(h:Q (tuples' false) s):wpAny (model prog w) A (keyKind' vs.toArray) Q E s:=by
 have key:∀vs:List Value,(∀v∈vs,∃u m,PrI s.heap v u m)→∃fs:List Value,PySem.W.KatTups s.heap vs fs∧fs.length=vs.length∧∀f∈fs,∃u,ZkZ s.heap f u:=by
  intro vs
  induction vs with
  |nil=>exact fun _=>⟨[],trivial,rfl,fun f m=>by cases m⟩
  |cons v vs ih=>
   intro hv;obtain⟨fs,f1,f2,f3⟩:=ih fun z m=>hv z (Qag _ m);obtain⟨u,m,a,o,ka,t,n,rfl,e,c,d,x⟩:=hv v Qah;refine⟨ka::fs,⟨⟨a,o,_,n,rfl,e,c,d,rfl⟩,f1⟩,by simp[f2],fun f q=> ?_⟩;rcases Qaw.mp q with rfl|q
   ·exact⟨u,x⟩
   ·exact f3 f q
 obtain⟨fs,f1,f2,f3⟩:=key vs hv;refine PySem.W.kat_kind (T:=.type "tuple") f1 ?_ (fun v m=> ?_) (by decide) h
 ·cases vs with
  |nil=>exact absurd rfl h1
  |cons _ _=>rw[f2];simp
 ·obtain⟨u,a,o,its,n,rfl,e,c,_⟩:=f3 v m;exact fun A Q E s k q=>QeV (T:= "tuple") ⟨o,k _ _ e,c⟩ q
theorem Zk3 {n:Nat}{P:Fin→Shared→Prop}(hu:A.units<cLine)(hb:s.heap.get? a=some (seqObj "list" vs.toArray n))(h64:vs.length<64)(hv:∀v∈vs,∃u m,PrI s.heap v u m)
  (hm:∀v∈vs,∀v'∈vs,kfP s.heap v=kfP s.heap v'→kfM s.heap v=kfM s.heap v')
  (h:∀out:Array Value,out.toList.Perm vs→(out.toList.map (kfP s.heap)).Pairwise (fun x y=>Zb9 y x=false)→P (.done (.ret .none)) {s with heap:=sortedHeap s.heap a vs out }):wpAny (model prog w) A (Builtin.«list.sort» ⟨[.ref a],[]⟩) P E s:=by
 have kt:∀h':Heap,(∀b o,b≠a→s.heap.get? b=some o→h'.get? b=some o)→∀v∈vs,∃u m,PrI h' v u m∧kfP s.heap v=u∧kfM s.heap v=m:=fun h' k v q=>by
  obtain⟨u,m,t⟩:=hv v q;exact⟨u,m,t.keep (ZoI hb rfl k),t.kf.1,t.kf.2⟩
 have mz:∀p,p∈(pairsOf vs).toList→p.1=p.2∧p.1∈vs:=fun p q=>by rw[pairsOf_toList] at q;exact mem_zip_self q
 refine ZoH (k0:=tuples' false) (rk:=fun v=>rnk (vs.map (kfP s.heap)) (kfP s.heap v)) hb h64 (fun h2 h' k E' Q' q=> ?_) (fun h' k E' x y Q' hx hy q=> ?_) fun xs pm up=> ?_
 ·refine Zk2 (s:={s with heap:=h' }) (fun v hv'=> ?_) (fun z=>by rw[z] at h2;simp at h2) q;obtain⟨u,m,t,_⟩:=kt h' k v hv';exact⟨u,m,t⟩
 ·obtain⟨u,m,t,eu,em⟩:=kt h' k x.1 (mz x hx).2;obtain⟨u',m',t',eu',em'⟩:=kt h' k y.1 (mz y hy).2;refine ZoN (s:={s with heap:=h' }) hu t t' (fun z=> ?_) ?_
  ·rw[←em,←em'];exact hm _ (mz x hx).2 _ (mz y hy).2 (by rw[eu,eu',z])
  have m1:kfP s.heap x.1∈vs.map (kfP s.heap):=QaR.mpr ⟨_,(mz x hx).2,rfl⟩;have m2:kfP s.heap y.1∈vs.map (kfP s.heap):=QaR.mpr ⟨_,(mz y hy).2,rfl⟩;have e3:Zb9 u u'=decide (rnk (vs.map (kfP s.heap)) (kfP s.heap x.1)<rnk (vs.map (kfP s.heap)) (kfP s.heap y.1)):=by rw[Zp9 m1 m2,eu,eu']
  rw[e3];exact q
 ·have pl:xs.toList.Perm (vs.zip vs):=by rw[←pairsOf_toList];exact Qcn.mp pm
  have ps:(xs.map (·.2)).toList.Perm vs:=by
   rw[Array.toList_map]
   have:=pl.map (·.2);rw[List.map_snd_zip (Qai _)] at this;exact this
  refine h (xs.map (·.2)) ps ?_;rw[QcS];intro i j hi hj ij;have lx:(xs.map (·.2)).toList.length=xs.size:=by rw[Qbj,Array.size_map]
  rw[Qaf,lx] at hi hj;have hz:xs.size=(pairsOf vs).size:=pm.size_eq;have q:=up i j (QbH ij) (by omega);have mi:xs[i]∈(pairsOf vs).toList:=(Qcn.mp pm).subset (QcY hi);have mj:xs[j]∈(pairsOf vs).toList:=(Qcn.mp pm).subset (QcY hj);unfold RK at q;rw[Qb2 hi,Qb2 hj] at q;dsimp only at q;have e:=Zp9 (ks:=vs.map (kfP s.heap)) (x:=kfP s.heap xs[j].1) (y:=kfP s.heap xs[i].1) (QaR.mpr ⟨_,(mz _ mj).2,rfl⟩) (QaR.mpr ⟨_,(mz _ mi).2,rfl⟩);rw[QaC (by omega)] at e;simp only[List.getElem_map,Array.getElem_toList,Array.getElem_map];rw[←(mz _ mi).1,←(mz _ mj).1];exact e.symm
theorem Zk4 {Q:Value→Shared→Prop}(hu:A.in1.in1.units<cLine)(hh:A.handled=none)(hv:s.heap.IsItemsView v d)(hd:ZlM s.heap d es ep)(h64:es.size<64)(hl:es.size=ks.length)
  (he:∀(j:Nat)(e:DictEntry)(k:List Int×Int),es[j]?=some e→ks[j]?=some k→ZkZ s.heap e.key k.1∧∃t,e.val= .int k.2 t) (hn:(ks.map (·.1)).Nodup)
  (h:∀(out:Array Value)(ws:List (List Int×Int))(h1 h':Heap)(e:Nat),(∀b ob,s.heap.get? b=some ob→h1.get? b=some ob)→(∀b ob,h1.get? b=some ob→h'.get? b=some ob)→out.size=ws.length→(∀(i:Nat)(v:Value)(u:List Int×Int),out[i]?=some v→ws[i]?=some u→∃(a ka:Addr)(t:Tok),v= .ref a∧s.heap.objs.size≤a∧h1.get? a=some {cls:=.type "tuple",data:=.seq #[.ref ka,.int u.2 t] }∧(∃en∈es.toList,en.key= .ref ka)∧ZkZ s.heap (.ref ka) u.1)→ws.Perm ks→ws.Pairwise (fun x y=>Zb9 y.1 x.1=false)→h'.get? h1.objs.size=some (seqObj "list" out e)→Q (.ref h1.objs.size) {s with heap:=h' }):
  wpAny (model prog w) A (call (.builtin "sorted") [.ref v]) Q E s:=by
 refine QdU kind_sorted plain_sorted entry_sorted (args_sorted1 _) ?_;unfold Builtin.«sorted»;refine Qaa (m:=checkCount "sorted" 1 1 _) (Qak (Qaa (ZiQ (by simp[hh]) hv hd (QbH (Zba (by omega))) fun h1 as kp la pa na=> ?_)))
 have PR:∀(j:Nat)(a:Addr)(k:List Int×Int),as[j]?=some a→ks[j]?=some k→PrI h1 (.ref a) k.1 k.2∧∃(ka:Addr)(t:Tok),h1.get? a=some {cls:=.type "tuple",data:=.seq #[.ref ka,.int k.2 t] }∧(∃en∈es.toList,en.key= .ref ka)∧ZkZ s.heap (.ref ka) k.1:=fun j a k e1 e2=>by
  obtain⟨e,x1,x2⟩:=pa j a e1;obtain⟨y1,t,y2⟩:=he j e k x1 e2;rw[y2] at x2;refine⟨⟨a,_,e.key,t,_,rfl,x2,rfl,rfl,y1.keep' fun b o _ q=>kp b o q⟩,?_⟩;have y1':=y1;obtain⟨ka,o,its,n,ek,_⟩:=y1';rw[ek] at x2 y1;exact⟨ka,t,x2,⟨e,by rw[←Qbi] at x1;exact Qav x1,ek⟩,y1⟩
 have lz:as.length=ks.length:=by omega
 refine Qaa (QeR ?_);have hoL:(h1.push {cls:=.type "list",data:=.seq (as.map Value.ref).toArray }).get? h1.objs.size=some (seqObj "list" (as.map Value.ref).toArray 0):=Qat _ rfl;have kp2:∀(b:Addr)(o:Obj),o.cls= .type "tuple" →h1.get? b=some o→(h1.push {cls:=.type "list",data:=.seq (as.map Value.ref).toArray }).get? b=some o:=fun b o _ e=>Qac _ e
 have at_:∀v∈as.map Value.ref,∃(j:Nat)(a:Addr)(k:List Int×Int),v= .ref a∧as[j]?=some a∧ks[j]?=some k:=fun v m=>by
  obtain⟨a,ma,rfl⟩:=QaR.mp m;obtain⟨j,hj⟩:=QaZ.mp ma;have jl:=(Qab.mp hj).1;exact⟨j,a,ks[j],rfl,hj,Qad (by omega)⟩
 refine Qaa (Qbz (QbE slot_list_sort ⟨_,hoL,rfl⟩ entry_list_sort (Zk3 (s:={s with heap:=h1.push {cls:=.type "list",data:=.seq (as.map Value.ref).toArray } }) ?_ hoL (by rw[Qaf];omega) (fun v q=> ?_) (fun v q v' q' ev=> ?_) fun out po so=>⟨_,rfl,?_⟩) (args_list_sort _)))
 ·exact hu
 ·obtain⟨j,a,k,rfl,e1,e2⟩:=at_ v q;exact⟨_,_,(PR j a k e1 e2).1.keep kp2⟩
 ·obtain⟨j,a,k,rfl,e1,e2⟩:=at_ v q;obtain⟨j',a',k',rfl,e1',e2'⟩:=at_ v' q';have p1:=((PR j a k e1 e2).1.keep kp2).kf;have p2:=((PR j' a' k' e1' e2').1.keep kp2).kf;dsimp only at ev⊢;rw[p1.1,p2.1] at ev;rw[p1.2,p2.2]
  have jj:j=j':=by
   have l1:(ks.map (·.1))[j]?=some k.1:=by rw[Qao,e2];rfl
   have l2:(ks.map (·.1))[j']?=some k.1:=by rw[Qao,e2',ev];rfl
   obtain⟨b1,c1⟩:=Qab.mp l1;obtain⟨b2,c2⟩:=Qab.mp l2;exact(List.getElem_inj hn).mp (c1.trans c2.symm)
  subst jj;rw[e2] at e2';cases e2';rfl
 ·obtain⟨e,hE⟩:=sortedHeap_at (out:=out) hoL;generalize hH:h1.push {cls:=.type "list",data:=.seq (as.map Value.ref).toArray }=H1 at*
  have kf:∀(j:Nat)(a:Addr)(k:List Int×Int),as[j]?=some a→ks[j]?=some k→(kfP H1 (.ref a),kfM H1 (.ref a))=k:=fun j a k e1 e2=>by
   have p1:=((PR j a k e1 e2).1.keep kp2).kf;rw[p1.1,p1.2]
  have ek:(as.map Value.ref).map (fun v=>(kfP H1 v,kfM H1 v))=ks:=by
   apply Qcx;intro i;rw[Qao,Qao];by_cases z:i<as.length
   ·have e1:as[i]?=some as[i]:=Qad z;have e2:ks[i]?=some ks[i]:=Qad (by omega);rw[e1,e2];show some (kfP H1 (.ref as[i]),kfM H1 (.ref as[i]))=_;rw[kf i _ _ e1 e2]
   ·rw[QaG (by omega),QaG (by omega)];rfl
  refine Qak ⟨_,rfl,h out (out.toList.map (fun v=>(kfP H1 v,kfM H1 v))) h1 _ e kp (fun b ob z=> ?_) (by rw[Qaf,Qbj]) (fun i v u h3 h4=> ?_) ?_ ?_ hE⟩
  ·have hlt:b<h1.objs.size:=Qan z;have hlt2:b<H1.objs.size:=by rw[←hH,Qbk];exact Qb0 hlt
   rw[sortedHeap_old (QaM hlt) hlt2];rw[←hH];exact Qac _ z
  ·rw[Qao,Qbi,h3] at h4;cases h4;have mv:v∈as.map Value.ref:=po.mem_iff.mp (by rw[←Qbi] at h3;exact Qav h3);obtain⟨j,a,k,rfl,e1,e2⟩:=at_ v mv;obtain⟨ka,t,y1,y2,y3⟩:=(PR j a k e1 e2).2
   have:=kf j a k e1 e2;have k1:kfP H1 (.ref a)=k.1:=congrArg Prod.fst this;have k2:kfM H1 (.ref a)=k.2:=congrArg Prod.snd this;dsimp only;rw[k1,k2];exact⟨a,ka,t,rfl,na a (Qav e1),y1,y2,y3⟩
  ·have p1:=po.map (fun v=>(kfP H1 v,kfM H1 v));rw[ek] at p1;exact p1
  ·rw[Qd4] at so⊢;exact so
def ZhP (v d:Addr):Heap→Prop:=fun h=>h.IsItemsView v d
def PrL (H:Hp)(xs:List V)(us:List (List Int×Int)):Prop:=xs.length=us.length∧∀(i:Nat)(x:V)(u:List Int×Int),xs[i]?=some x→us[i]?=some u→∃a b:Addr,x= .ref a∧H a=some (.tup [.ref b,.int u.2])∧H b=some (.tup (u.1.map V.int))
theorem ZmL (prog:Program)(w:World)(d:Addr)(hd:(d==sysModules)=false):MeetsIn prog w (Builtin.«dict.items» ⟨[.ref d],[]⟩) (fun _ R s=>s.TypeIs (.ref d) "dict" ∧R (.ok (.ret (.ref s.heap.objs.size))) {s with heap:=s.heap.push {cls:=.type "dict_items",data:=.fields #[.ref d] } }):=
 .of_wp fun A R s ⟨ty,h⟩=>by
  unfold Builtin.«dict.items» Builtin.Dict.noArgs;refine Qaa (Qaa (wpAny_notOrdered_dict ty ?_));show wpAny _ _ (pure d) _ _ s;refine Qak ?_;show wpAny _ _ (Builtin.Dict.showsAll d>>=_) _ _ s;unfold Builtin.Dict.showsAll;rw[Qn (by rw[hd];decide)];exact Qaa (Qak (Qaa (Qa4 (Qak ⟨_,rfl,h⟩))))
theorem ZmM {α β:Type}{F:α→β→Prop}{l1:List α}{l2:List β}(p:Paired F l1 l2):l1.length=l2.length∧∀(j:Nat)(a:α)(b:β),l1[j]?=some a→l2[j]?=some b→F a b:=by
 induction p with
 |nil=>exact⟨rfl,fun j a b e=>by cases e⟩
 |cons h t ih=>
  refine⟨by simp[ih.1],fun j a b e1 e2=> ?_⟩
  cases j with
  |zero=>cases e1;cases e2;exact h
  |succ j=>exact ih.2 j a b (by simpa using e1) (by simpa using e2)
def cont (h:Heap)(b:Addr):Option HO:=match h.get? b with
 |some o=>match o.data with
  | .seq its _=>match its.toList with
   | [.ref ka,.int m _]=>some (.tup [.ref ka,.int m])
   |_=>none
  |_=>none
 |none=>none
def adr:Value→Addr
 | .ref a=>a
 |_=>0
def Zb6 (H:Hp)(h:Heap)(l:Addr)(al:List Addr):Hp:=fun b=>match H b with
 |some o=>some o
 |none=>if b=l then some (.lst (al.map V.ref)) else if b∈al then cont h b else none
theorem Inv.more {σ:List (Option V)}{t':Nat}(I:Inv X qa σ H s)(k:∀b u,s.heap.get? b=some u→h'.get? b=some u)(old:∀b o,H b=some o→H' b=some o)(new:∀b o,H b=none→H' b=some o→s.heap.get? b=none∧Zbw X.prog X.w H' h' b o):Inv X qa σ H' {s with heap:=h',toks:=t' }:=by
 refine I.un ⟨fun b u q _ _ _=>k b u q,fun b u q _ _ _=>⟨u.slots,k b u q⟩,fun b u q n _=> ?_,fun b u q _=>⟨u,k b u q⟩,fun b xs q=>old b _ q,fun b u xs q=>old b _ q,fun b ps q=>⟨#[],by rw[old b _ q];simp⟩⟩ fun b o e=> ?_
 ·cases z:H' b with
  |none=>rfl
  |some o=>rw[(new b o n z).1] at q;cases q
 ·cases z:H b with
  |none=>exact(new b o z e).2
  |some o'=>
   have:=old b o' z;rw[e] at this;cases this;exact(I.hok b o z).stay (fun c v _ q=>k c v q) (fun c q=>old c _ q) fun c xs q=>old c _ q
def ZiS (td:TE):TE:=fun σ H Q=>td σ H fun x H1=>∃d kvs,x= .ref d∧H1 d=some (.dT kvs)∧∀v,H1 v=none→Q (.ref v) (upd H1 v (.ext (ZhP v d)))
theorem ZhQ {td:TE}(ho:PE X o td)(qv:attributeBase o "items" X.env (eval o X.env)=eval o X.env:=by rfl)(qw:(qg.endLine==qd.line)=true:=by rfl):PE X (.Call (.Attribute o "items" qg) [] [] qd) (ZiS td):=by
 intro qa s σ H Q I h;refine Qei qv qw (thn (ho qa s σ H _ I h) fun u s1 ⟨x,H1,I1,rx,d,kvs,ex,hd,q⟩=> ?_);subst ex;cases rx;obtain⟨t1,t2,t3⟩:=Zkh I1 (.inr ⟨kvs,.inl hd⟩);refine⟨"dict", "dict.items",QcC,Qej,PySem.F.type_dict_items,t1,t2,Qcl rfl (PySem.evalArgs_none ?_)⟩;refine Qdg Qej t1 PySem.F.entry_dict_items (PySem.F.args_dict_items_1 _) (ZmL X.prog X.w d t3) ⟨t1,?_⟩;have g:(s1.heap.push {cls:=.type "dict_items",data:=.fields #[.ref d] }).get? s1.heap.objs.size=some {cls:=.type "dict_items",data:=.fields #[.ref d] }:=Qat _ rfl;exact⟨.ref s1.heap.objs.size,_,I1.laid (t':=s1.toks) (o:=.ext (ZhP s1.heap.objs.size d)) (fun b o e=>Qac _ e) (Qai _) ⟨⟨_,g,rfl,rfl⟩,⟨_,g⟩,fun h1 h2 ⟨ob,e,c⟩ k=>⟨ob,k ob e,c⟩⟩,rfl,q _ (I1.hok.fresh (Qai _))⟩
theorem Zeu {k:Nat}(hr:Zdr k X.A):Zcq X (.builtin "sorted") (fun xs H Q=>∃(v d:Addr)(ks:List (List Int×Int)),xs=[.ref v]∧H v=some (.ext (ZhP v d))∧H d=some (.dT (ks.map fun k=>(k.1.map Sum.inl,V.int k.2)))∧ks.length<64∧
  ∀(l:Addr)(ps:List V)(ws:List (List Int×Int))(H':Hp),H l=none→(∀b o,H b=some o→H' b=some o)→H' l=some (.lst ps)→PrL H' ps ws→ws.Perm ks→ws.Pairwise (fun x y=>Zb9 y.1 x.1=false)→Q (.ref l) H'):=by
 intro qa s σ H xs us Q I r h;obtain⟨v,d,ks,rfl,hv,hd,h64,q⟩:=h;obtain⟨u,rfl,rx⟩:=Zc8 r;cases rx;obtain⟨iv,_,_⟩:=(show Zbw X.prog X.w H s.heap v (.ext (ZhP v d)) from I.hok v _ hv);obtain⟨_,hsys,xs,rel,o,es,ep,ho,hx,hdat,hes,hn⟩:=(show Zbw X.prog X.w H s.heap d (.dT _) from I.hok d _ hd);obtain⟨rl,ra⟩:=ZmM rel;rw[Qaf] at rl
 have row:∀(j:Nat)(e:DictEntry)(k:List Int×Int),es[j]?=some e→ks[j]?=some k→∃(ka:Addr)(t:Tok),e.key= .ref ka∧e.val= .int k.2 t∧H ka=some (.tup (k.1.map V.int)):=fun j e k e1 e2=>by
  rw[←Qbi,hes,Qao] at e1
  cases z:xs[j]? with
  |none=>rw[z] at e1;cases e1
  |some x=>
   rw[z] at e1;cases e1;have g:=ra j _ x (by rw[Qao,e2];rfl) z;obtain⟨g1,g2,g3⟩:=g;have g3:Zbf (V.int k.2) x.2.2:=g3;obtain⟨t,g4⟩:=g3;refine⟨x.2.1,t,rfl,g4,?_⟩;have g2:H x.2.1=some (.tup ((k.1.map Sum.inl).map kV)):=g2;rw[Qbc] at g2;exact g2
 have tupI:∀(ka:Addr)(u:List Int),H ka=some (.tup (u.map V.int))→ZkZ s.heap (.ref ka) u:=fun ka u g=>by
  obtain⟨_,its,rv,o,e,c,n,dd⟩:=(show Zbw X.prog X.w H s.heap ka (.tup (u.map V.int)) from I.hok ka _ g);exact⟨ka,o,its.toArray,n,rfl,e,c,dd,by rw[List.toList_toArray];exact ZfO rv⟩
 have sz:es.size=ks.length:=by rw[←Qbj,hes,Qaf,←rl]
 have nd:(ks.map (·.1)).Nodup:=by
  have e:xs.map (·.1)=(ks.map (·.1)).map (fun u=>u.map Sum.inl):=by
   apply Qcx;intro j;rw[Qao,Qbc,Qao]
   cases z:xs[j]? with
   |none=>rw[QaG (by have:=Qbl.mp z;omega)];rfl
   |some x=>
    have jl:=(Qab.mp z).1;have e2:ks[j]?=some ks[j]:=Qad (by omega);have g:=ra j _ x (by rw[Qao,e2];rfl) z;rw[e2];show some x.1=some _;rw[←g.1];rfl
  rw[e] at hn;exact(Qd4.mp hn).imp fun h e=>h (by rw[e])
 have hu:X.A.in1.in1.units<cLine:=by
  have:=hr.un;show X.A.units+1+1<cLine;omega
 refine Zk4 (ks:=ks) hu hr.hd iv ⟨o,ho,hx,hdat⟩ (by omega) sz (fun j e k e1 e2=> ?_) nd fun out ws h1 h' e kp kp2 lo hout pm sr hl=> ?_
 ·obtain⟨ka,t,g1,g2,g3⟩:=row j e k e1 e2;rw[g1];exact⟨tupI _ _ g3,t,g2⟩
 ·have hw:∀(i:Nat)(v:Value)(u:List Int×Int),out[i]?=some v→ws[i]?=some u→∃(a ka:Addr)(t:Tok),v= .ref a∧s.heap.objs.size≤a∧h1.get? a=some {cls:=.type "tuple",data:=.seq #[.ref ka,.int u.2 t] }∧H ka=some (.tup (u.1.map V.int)):=fun i v u e1 e2=>by
   obtain⟨a,ka,t,x1,x2,x3,⟨en,x4,x5⟩,x6⟩:=hout i v u e1 e2;obtain⟨j,hj⟩:=QaZ.mp x4;rw[Qbi] at hj;have jl:=(QcO.mp hj).1;have kj:ks[j]?=some ks[j]:=Qad (by omega);obtain⟨ka',t',y1,y2,y3⟩:=row j en _ hj kj;rw[x5] at y1;cases y1
   have:=x6.kf.symm.trans (tupI _ _ y3).kf;rw[←this] at y3;exact⟨a,ka,t,x1,x2,x3,y3⟩
  have fresh:∀a,s.heap.objs.size≤a→H a=none:=fun a q=>I.hok.fresh q;have I1:Inv X qa σ H {s with heap:=h1 }:=I.kept (t':=s.toks) kp;have fl:H h1.objs.size=none:=I1.hok.fresh (Qai _)
  have gone:∀a,s.heap.objs.size≤a→s.heap.get? a=none:=fun a q=>by
   cases z:s.heap.get? a with
   |none=>rfl
   |some o=>exact absurd (Qan z) (Nat.not_lt.mpr q)
  have gl:s.heap.get? h1.objs.size=none:=by
   cases z:s.heap.get? h1.objs.size with
   |none=>rfl
   |some o=>exact absurd (Qan (kp _ _ z)) (Qbs _)
  have atI:∀a∈out.toList.map adr,∃(ka:Addr)(t:Tok)(u:List Int×Int),s.heap.objs.size≤a∧h1.get? a=some {cls:=.type "tuple",data:=.seq #[.ref ka,.int u.2 t] }∧H ka=some (.tup (u.1.map V.int)):=fun a m=>by
   obtain⟨v,mv,ev⟩:=QaR.mp m;obtain⟨i,hi⟩:=QaZ.mp mv;rw[Qbi] at hi;have il:=(QcO.mp hi).1;obtain⟨a',ka,t,x1,x2,x3,x4⟩:=hw i v _ hi (Qad (by omega));rw[x1] at ev;have ev:a'=a:=ev;subst ev;exact⟨ka,t,_,x2,x3,x4⟩
  have ct:∀(a ka:Addr)(m:Int)(t:Tok),h1.get? a=some {cls:=.type "tuple",data:=.seq #[.ref ka,.int m t] }→cont h1 a=some (.tup [.ref ka,.int m]):=fun a ka m t g=>by
   unfold cont;rw[g]
  have wp:∀(a ka:Addr)(m:Int)(t:Tok),a∈out.toList.map adr→s.heap.objs.size≤a→h1.get? a=some {cls:=.type "tuple",data:=.seq #[.ref ka,.int m t] }→Zb6 H h1 h1.objs.size (out.toList.map adr) a=some (.tup [.ref ka,.int m]):=fun a ka m t ma sa g=>by
   unfold Zb6;rw[fresh a sa];dsimp only;rw[Qn (QaM (Qan g)),Qp ma,ct a ka m t g]
  have old:∀b o,H b=some o→Zb6 H h1 h1.objs.size (out.toList.map adr) b=some o:=fun b o q=>by
   unfold Zb6;rw[q]
  have wl:Zb6 H h1 h1.objs.size (out.toList.map adr) h1.objs.size=some (.lst ((out.toList.map adr).map V.ref)):=by
   unfold Zb6;rw[fl];dsimp only;rw[Qp rfl]
  have o64:out.size≤63:=by rw[lo,pm.length_eq];omega
  have I2:Inv X qa σ (Zb6 H h1 h1.objs.size (out.toList.map adr)) {s with heap:=h',toks:=s.toks }:=by
   refine Inv.more I (fun b u z=>kp2 b u (kp b u z)) old fun b ob nb hb=> ?_;have hb':=hb;unfold Zb6 at hb';rw[nb] at hb';dsimp only at hb';by_cases zl:b=h1.objs.size
   ·subst zl;rw[Qp rfl] at hb';cases hb';refine⟨gl,?_,out.toList,e,?_,?_⟩
    ·rw[Qaf,Qaf,Qbj];exact QbH (Zba (by omega))
    ·have vr:∀l:List Value,(∀v∈l,∃a,v=Value.ref a)→Zbg ((l.map adr).map V.ref) l:=by
      intro l
      induction l with
      |nil=>exact fun _=> .nil
      |cons v l ih=>
       intro hl;obtain⟨a,rfl⟩:=hl v Qah;exact .cons rfl (ih fun z m=>hl z (Qag _ m))
     refine vr _ fun v mv=> ?_;obtain⟨i,hi⟩:=QaZ.mp mv;rw[Qbi] at hi;have il:=(QcO.mp hi).1;obtain⟨a',ka,t,x1,_⟩:=hw i v _ hi (Qad (by omega));exact⟨a',x1⟩
    ·rw[hl]
   ·rw[Qn zl] at hb';by_cases zm:b∈out.toList.map adr
    ·rw[Qp zm] at hb';obtain⟨ka,t,u,x1,x2,x3⟩:=atI b zm;rw[ct b ka _ t x2] at hb';cases hb';exact⟨gone b x1,zL2,[.ref ka,.int u.2 t],.cons rfl (.cons ⟨t,rfl⟩ .nil),_,kp2 _ _ x2,rfl,_,rfl⟩
    ·rw[Qn zm] at hb';cases hb'
  refine⟨.ref h1.objs.size,_,I2,rfl,q _ _ ws _ fl old wl ⟨?_,fun i x u e1 e2=> ?_⟩ pm sr⟩
  ·rw[Qaf,Qaf,Qbj,lo]
  ·rw[Qao,Qao,Qbi] at e1
   cases z:out[i]? with
   |none=>rw[z] at e1;cases e1
   |some v=>
    rw[z] at e1;obtain⟨a,ka,t,x1,x2,x3,x4⟩:=hw i v u z e2;subst x1;cases e1;refine⟨a,ka,rfl,wp a ka _ t ?_ x2 x3,old _ _ x4⟩;rw[←Qbi] at z;exact QaR.mpr ⟨_,Qav z,rfl⟩
theorem Zkk:∀{a b:List (List Int)},a.Perm b→a.Pairwise (fun x y=>Zb9 y x=false)→b.Pairwise (fun x y=>Zb9 y x=false)→a=b
 | [],b,p,_,_=>p.nil_eq
 |x::a,[],p,_,_=>absurd p.length_eq (by simp)
 |x::a,y::b,p,h1,h2=>by
  obtain⟨u1,u2⟩:=Qc2.mp h1;obtain⟨v1,v2⟩:=Qc2.mp h2
  have e:x=y:=by
   have m1:x∈y::b:=p.subset Qah;have m2:y∈x::a:=p.symm.subset Qah;rcases Qaw.mp m1 with q|q
   ·exact q
   rcases Qaw.mp m2 with r|r
   ·exact r.symm
   exact Zgn (v1 x q) (u1 y r)
  subst e;rw[Zkk p.cons_inv u2 v2]
def ZmN (ks:List (List Int×Int))(u:List Int)(z:Int):List (List Int×Int):=if(ks.any fun k=>decide (k.1=u))=true then ks.map fun k=>if k.1=u then(k.1,z) else k else ks++ [(u,z)]
def ZfV (ks:List (List Int×Int))(u:List Int):Int:=((ks.find? fun k=>decide (k.1=u)).map (·.2)).getD 0
def emb (k:List Int×Int):List Key×V:=(k.1.map Sum.inl,V.int k.2)
theorem ZuA:∀{u v:List Int},u.map (Sum.inl:Int→Key)=v.map Sum.inl→u=v
 | [],[],_=>rfl
 | [],_::_,h=>by cases h
 |_::_,[],h=>by cases h
 |a::u,b::v,h=>by
  rw[QaD,QaD] at h;obtain⟨h1,h2⟩:=List.cons.inj h;rw[ZuA h2,Sum.inl.inj h1]
theorem ZiT (k:List Int×Int)(u:List Int):decide ((emb k).1=u.map Sum.inl)=decide (k.1=u):=by
 by_cases h:k.1=u
 ·rw[Qam h];exact Qam (by unfold emb;rw[h])
 ·rw[QaC h];exact QaC fun q=>h (ZuA q)
theorem ZqZ (ks:List (List Int×Int))(u:List Int):((ks.map emb).any fun k=>decide (k.1=u.map Sum.inl))=ks.any fun k=>decide (k.1=u):=by
 induction ks with
 |nil=>rfl
 |cons k ks ih=>rw[QaD,QcL,QcL,ih,ZiT]
theorem ZmO (ks:List (List Int×Int))(u:List Int)(z:Int):Zc3 (ks.map emb) (u.map Sum.inl) (V.int z)=(ZmN ks u z).map emb:=by
 unfold Zc3 ZmN;rw[ZqZ];by_cases h:(ks.any fun k=>decide (k.1=u))=true
 ·rw[Qp h,Qp h,Qbc,Qbc];refine QaO fun k _=> ?_;show(if(emb k).1=u.map Sum.inl then((emb k).1,V.int z) else emb k)=emb (if k.1=u then(k.1,z) else k);have e:=ZiT k u;by_cases q:k.1=u
  ·rw[Qp q,Qp (Qar (by rw[e];exact Qam q))];rfl
  ·rw[Qn q,Qn (Qbp (by rw[e];exact QaC q))]
 ·rw[Qn h,Qn h,Qau];rfl
theorem ZmP (ks:List (List Int×Int))(u:List Int):(Zc5 (ks.map emb) (u.map Sum.inl)).getD (.int 0)=V.int (ZfV ks u):=by
 induction ks with
 |nil=>rfl
 |cons k ks ih=>
  rw[QaD];have e:=ZiT k u;unfold ZfV;rw[Qb7];by_cases q:k.1=u
  ·rw[Qam q];rw[Zby (Qar (by rw[e];exact Qam q))];rfl
  ·rw[QaC q];rw[Zbz (Qbp (by rw[e];exact QaC q))];exact ih
theorem ZoO (ks:List (List Int×Int))(u:List Int)(z:Int):(ZmN ks u z).length≤ks.length+1:=by
 unfold ZmN;split
 ·rw[Qaf];omega
 ·rw[Qae];exact Qai _
def Zca (W:List (Int×List Int))(u:List Int):Int:=((W.filter fun e=>decide (e.2=u)).map (·.1)).sum
theorem ZmQ (W:List (Int×List Int))(e:Int×List Int)(u:List Int):Zca (W++ [e]) u=Zca W u+if e.2=u then e.1 else 0:=by
 unfold Zca;rw[Qcq,Qau,Qc3];by_cases h:e.2=u
 ·rw[Qp h];simp[h]
 ·rw[Qn h];simp[h]
theorem Ze4 (h:u∉W.map (·.2)):Zca W u=0:=by
 unfold Zca
 have:W.filter (fun e=>decide (e.2=u))=[]:=Qeu.mpr fun e he=>by
  intro q;exact h (QaR.mpr ⟨e,he,Qar q⟩)
 rw[this];rfl
structure DIs (W:List (Int×List Int))(ks:List (List Int×Int)):Prop where
 nd:(ks.map (·.1)).Nodup
 mem:∀u,u∈ks.map (·.1)↔u∈W.map (·.2)
 val:∀k∈ks,k.2=Zca W k.1
 len:ks.length≤W.length
theorem DIs.nil:DIs [] []:=⟨List.Pairwise.nil,fun u=>Iff.rfl,fun k h=>(by cases h),Qai _⟩
theorem DIs.get (d:DIs W ks)(u:List Int):ZfV ks u=Zca W u:=by
 unfold ZfV
 cases h:ks.find? fun k=>decide (k.1=u) with
 |none=>
  rw[Ze4]
  ·rfl
  ·intro q;obtain⟨k,hk,e⟩:=QaR.mp ((d.mem u).mpr q)
   have:=List.find?_eq_none.mp h k hk;exact this (Qam e)
 |some k=>
  have e:=List.find?_some h;have m:=List.mem_of_find?_eq_some h;have e:k.1=u:=Qar e;show k.2=_;rw[d.val k m,e]
theorem DIs.put (d:DIs W ks)(e:Int×List Int):DIs (W++ [e]) (ZmN ks e.2 (ZfV ks e.2+e.1)):=by
 have gt:=d.get e.2
 have mk:(ks.any fun k=>decide (k.1=e.2))=true↔e.2∈ks.map (·.1):=by
  rw[Qdm,QaR];constructor
  ·rintro⟨k,hk,q⟩;exact⟨k,hk,Qar q⟩
  ·rintro⟨k,hk,q⟩;exact⟨k,hk,Qam q⟩
 refine⟨?_,fun u=> ?_,fun k hk=> ?_,?_⟩
 ·unfold ZmN;by_cases h:(ks.any fun k=>decide (k.1=e.2))=true
  ·rw[Qp h,Qbc]
   have:(fun k:List Int×Int=>k.1) ∘ (fun k=>if k.1=e.2 then(k.1,ZfV ks e.2+e.1) else k)=fun k=>k.1:=by
    funext k
    show(if k.1=e.2 then(k.1,ZfV ks e.2+e.1) else k).1=k.1;split<;>rfl
   rw[this];exact d.nd
  ·rw[Qn h,Qau];refine List.nodup_append.mpr ⟨d.nd,by simp,fun a ha b hb=> ?_⟩;have hb:b=e.2:=by simpa using hb
   rintro rfl;exact h (mk.mpr (hb ▸ ha))
 ·rw[Qau,Qap]
  have:u∈(ZmN ks e.2 (ZfV ks e.2+e.1)).map (·.1)↔u∈ks.map (·.1)∨u=e.2:=by
   unfold ZmN;by_cases h:(ks.any fun k=>decide (k.1=e.2))=true
   ·rw[Qp h,Qbc]
    have q:(fun k:List Int×Int=>k.1) ∘ (fun k=>if k.1=e.2 then(k.1,ZfV ks e.2+e.1) else k)=fun k=>k.1:=by
     funext k
     show(if k.1=e.2 then(k.1,ZfV ks e.2+e.1) else k).1=k.1;split<;>rfl
    rw[q];constructor
    ·exact .inl
    ·rintro(z|z)
     ·exact z
     ·rw[z];exact mk.mp h
   ·rw[Qn h,Qau,Qap];simp
  rw[this,d.mem u];simp
 ·rw[ZmQ];unfold ZmN at hk;by_cases h:(ks.any fun k=>decide (k.1=e.2))=true
  ·rw[Qp h] at hk;obtain⟨k',hk',rfl⟩:=QaR.mp hk;by_cases q:k'.1=e.2
   ·rw[Qp q];show ZfV ks e.2+e.1=Zca W k'.1+if e.2=k'.1 then e.1 else 0;rw[Qp q.symm,gt,q]
   ·rw[Qn q,Qn (fun z=>q z.symm),QbB];exact d.val k' hk'
  ·rw[Qn h] at hk;rcases Qap.mp hk with hk|hk
   ·rw[Qn,QbB]
    ·exact d.val k hk
    ·intro z;exact h (mk.mpr (QaR.mpr ⟨k,hk,z.symm⟩))
   ·rw[Qal.mp hk];show ZfV ks e.2+e.1=_;rw[Qp rfl,gt]
 ·have:=ZoO ks e.2 (ZfV ks e.2+e.1)
  have:=d.len;rw[Qae];simp only[QaB,QbM];omega
structure Zbs (W:List (Int×List Int))(ws:List (List Int×Int)):Prop where
 keys:(ws.map (·.1)).Perm (ddT (W.map (·.2)))
 rise:(ws.map (·.1)).Pairwise (fun x y=>Zb9 y x=false)
 val:∀k∈ws,k.2=Zca W k.1
theorem Zkl (d:DIs W ks)(p:ws.Perm ks)(s:ws.Pairwise (fun x y=>Zb9 y.1 x.1=false)):Zbs W ws:=by
 refine⟨(p.map _).trans ((QdO d.nd (Zda _)).mpr fun u=> ?_),Qd4.mpr s,fun k hk=>d.val k (p.subset hk)⟩;rw[Zd6,d.mem]
theorem ZmR {vs:List (List Int×Int)}(a:Zbs W ws)(b:Zbs W vs):ws=vs:=by
 have e:=Zkk (a.keys.trans b.keys.symm) a.rise b.rise
 have r:∀{l:List (List Int×Int)},(∀k∈l,k.2=Zca W k.1)→l=(l.map (·.1)).map fun u=>(u,Zca W u):=fun{l} h=>by
  rw[Qbc];refine(List.map_id l).symm.trans (QaO fun k hk=> ?_);show k=(k.1,Zca W k.1);rw[←h k hk]
 rw[r a.val,r b.val,e]
def dP (k:List Int×Int):PyData:=.tuple [dT k.1,.int k.2]
def dPs (us:List (List Int×Int)):PyData:=.list (us.map dP)
theorem PrL.di {K:FJ}{xs:List V}{us:List (List Int×Int)}(h:PrL H xs us)(ha:SqL K H a xs):DI K H (.ref a) (dPs us):=by
 refine .lst ha (by rw[Qaf];exact h.1) fun i x d h1 h2=> ?_;rw[Qao] at h2
 cases z:us[i]? with
 |none=>rw[z] at h2;cases h2
 |some u=>
  rw[z] at h2;cases h2;obtain⟨b,c,rfl,hb,hc⟩:=h.2 i x u h1 z;refine .tup (SqT.of hb) rfl fun j y e h3 h4=> ?_;rcases j with _|_|j
  ·cases h3;cases h4;exact Zd3 hc
  ·cases h3;cases h4;exact .int _
  ·cases h3
theorem Zq0:∀us:List (List Int×Int),(dPs us).canLay0=true:=by
 have:∀us:List (List Int×Int),PyData.canLayAll0 (us.map dP)=true:=by
  intro us
  induction us with
  |nil=>rfl
  |cons u us ih=>
   show((dP u).canLay0 && PyData.canLayAll0 (us.map dP))=true;rw[ih];show(((dT u.1).canLay0 && true) && true)=true;rw[ZfQ];rfl
 exact this
theorem PrL.up {xs:List V}{us:List (List Int×Int)}(h:PrL H xs us)(t:Za7 H H'):PrL H' xs us:=⟨h.1,fun i x u h1 h2=>by
 obtain⟨a,b,rfl,ha,hb⟩:=h.2 i x u h1 h2
 exact⟨a,b,rfl,t _ _ ha,t _ _ hb⟩⟩
theorem ZsI {K:FJ}{e:Expr}{es:List Expr}{to:TE}{t:TA}{name:Str}{T id:String}{r:V→List V→Hp→VK→Prop}(pa:PlainAttrs T)(slot:Slot T name id)(hty:typeOf (.builtin id)=pure (.type "method_descriptor"))(hm:MtR X id r)(ho:PE X o to)(ha:PA X (e::es) t)(hK:X.K=K:=by rfl)
  (qv:attributeBase o name X.env (eval o X.env)=eval o X.env:=by rfl)
  (hfew:((backTo qd (starEach (e::es) X.env)).all (fun x=> !x.1) && (backToKw qd (keywordEach [] X.env)).all (fun x=>x.1.isSome)
   && decide ((e::es).length+([]:List Keyword).length+(if([]:List Keyword).isEmpty then 0 else 1)<30))=true:=by rfl)
  (qw:(qg.endLine==qd.line)=true:=by rfl) (hs:starEach (e::es) X.env=(false,eval e X.env)::starEach es X.env:=by rfl) (hplain:(backTo qd (starEach es X.env)).any (·.1)=false:=by rfl):
  PE X (.Call (.Attribute o name qg) (e::es) [] qd) (tBM K T r to t):=by subst hK;exact ZdB pa slot hty hm ho ha qv hfew qw hs hplain
inductive ZhR {α:Type} (R:α→α→Prop):α→α→Prop where
 |refl (a:α):ZhR R a a
 |step {a b c:α}:ZhR R a b→R b c→ZhR R a c
section
variable {α β:Type}{R:α→α→Prop}
theorem ZhR.trans {a b c:α}(h:ZhR R a b)(k:ZhR R b c):ZhR R a c:=by
 induction k with
 |refl=>exact h
 |step _ r ih=>exact .step ih r
theorem ZhR.one {a b:α}(h:R a b):ZhR R a b:=.step (.refl a) h
theorem ZhR.symm (hs:∀a b,R a b→R b a){a b:α}(h:ZhR R a b):ZhR R b a:=by
 induction h with
 |refl=>exact .refl _
 |step _ r ih=>exact(ZhR.one (hs _ _ r)).trans ih
end
inductive Itm (H:Hp):Bool→V→List Int→Prop where
 |int (i:Int):Itm H false (.int i) [i]
 |tup {a:Addr} {u:List Int}:H a=some (.tup (u.map V.int))→Itm H true (.ref a) u
def ItL (H:Hp)(tp:Bool)(xs:List V)(us:List (List Int)):Prop:=xs.length=us.length∧∀(i:Nat)(x:V)(u:List Int),xs[i]?=some x→us[i]?=some u→Itm H tp x u
theorem ItL.head {x:V}{xs:List V}(h:ItL H tp (x::xs) (u::us)):Itm H tp x u:=h.2 0 x u rfl rfl
theorem ItL.tail {x:V}{xs:List V}(h:ItL H tp (x::xs) (u::us)):ItL H tp xs us:=
 ⟨by simpa using h.1,fun i y v h1 h2=>h.2 (i+1) y v (by simpa using h1) (by simpa using h2)⟩
theorem TuL.it {xs:List V}(h:TuL H xs us):ItL H true xs us:=⟨h.1,fun i x u h1 h2=>by
 obtain⟨a,rfl,e⟩:=h.2 i x u h1 h2
 exact .tup e⟩
inductive ItV (h:Heap):Bool→Value→List Int→Prop where
 |int (i:Int) (t:Tok):ItV h false (.int i t) [i]
 |tup {v:Value} {u:List Int}:ZkZ h v u→ItV h true v u
theorem ItV.keep {v:Value}(x:ItV h tp v u)(k:∀(b:Addr)(o:Obj),o.cls= .type "tuple" →h.get? b=some o→h'.get? b=some o):ItV h' tp v u:=by
 cases x with
 |int i t=>exact .int i t
 |tup t=>exact .tup (t.keep' k)
theorem Zt3 {σ:L2.St}(I:Inv X qa σ H s){x:V}(h:Itm H tp x u){v:Value}(r:Zbf x v):ItV s.heap tp v u:=by
 cases h with
 |int i=>obtain⟨t,rfl⟩:=r;exact .int i t
 |tup e=>cases r;exact .tup (ZsH I e)
theorem Zqd {X:Cx}{qa:List (Addr×Obj)}{σ:L2.St}{H:Hp}{s:Shared}(I:Inv X qa σ H s){tp:Bool}:∀{xs:List V} {vs:List Value} {us:List (List Int)},Zbg xs vs→ItL H tp xs us→vs.length=us.length∧∀(i:Nat)(v:Value)(u:List Int),vs[i]?=some v→us[i]?=some u→ItV s.heap tp v u
 |_,_,us,.nil,h=>by
  have:=h.1;refine⟨by simpa using this,fun i v u e=>by cases e⟩
 |_,_,[],.cons r t,h=>by have:=h.1;simp at this
 |_,_,u::us,.cons r t,h=>by
  obtain⟨l,k⟩:=Zqd I t h.tail;refine⟨by simp[l],fun i v w e1 e2=> ?_⟩
  cases i with
  |zero=>cases e1;cases e2;exact Zt3 I h.head r
  |succ i=>exact k i v w (by simpa using e1) (by simpa using e2)
theorem ZoP (i j:Int):Zb9 [i] [j]=decide (i<j):=by
 by_cases h:i=j
 ·subst h;rw[Zdm];exact(QaC (by omega)).symm
 ·show(if i=j then Zb9 [] [] else decide (i<j))=_;rw[Qn h]
theorem ItV.lt {v:List Int}{Q:Value→Shared→Prop}(hu:A.units<cLine)(hx:ItV s.heap tp x u)(hy:ItV s.heap tp y v)(h:Q (.bool (Zb9 u v)) s):wpAny (model prog w) A (richCompare .Lt x y) Q E s:=by
 cases hx with
 |int i t=>
  cases hy with
  |int j t'=>
   rw[ZoP] at h;exact HT.rcLt_int A s i t j t' prog w E Q h
 |tup tx=>
  cases hy with
  |tup ty=>
   obtain⟨p,op,ip,np,rfl,g1,g2,g3,g4⟩:=tx;obtain⟨q,oq,iq,nq,rfl,k1,k2,k3,k4⟩:=ty;refine HT.lt_tupInts (items:=ip) (items2:=iq) ⟨op,g1,g2,np,g3⟩ ⟨oq,k1,k2,nq,k3⟩ g4 k4 hu ?_;rw[ZiR];exact h
theorem ZoQ {st:List Stmt}:PSs X st (fun _ _ _=>False):=fun _ _ _ _ _ _ h=>h.elim
theorem Zam.nw {o:HO}(a:Zam H H')(h:H' p=none):Zam H (upd H' p o):=fun c u e=>by
 have:=a c u e;rw[Zaq (Zar this h)];exact this
theorem Zam.ow {o:HO}(a:Zam H H')(h:H p=none):Zam H (upd H' p o):=fun c u e=>by
 rw[Zaq (Zar e h)];exact a c u e
theorem ZdW {K:FJ}(hK:X.K=K:=by rfl):SlR X (ZqE K):=by subst hK;exact Zsc
def nv (m:Nat):V:=.int (m:Int)
def pc (p:Nat×Nat):List Int:=[(p.1:Int),(p.2:Int)]
theorem ZmS {n:Nat}(h:j<n):ixN n (j:Int)=some j:=by
 unfold ixN;rw[Qp (by omega)]
 first
  | (rw[Qp (by omega)];simp)
  | (simp;omega)
theorem Ze5:∀{ns:List Int} {its:List Value},Zbg (ns.map V.int) its→∃ps:List (Int×Tok),its=ps.map (fun p=>Value.int p.1 p.2)∧ps.map (·.1)=ns
 | [],its,r=>by cases r;exact⟨[],rfl,rfl⟩
 |n::ns,its,r=>by
  cases r with
  |cons a b=>
   obtain⟨t,rfl⟩:=a;obtain⟨ps,rfl,e⟩:=Ze5 b;exact⟨(n,t)::ps,rfl,by rw[QaD,e]⟩
theorem ZmT (hc:X.calm=true):Zcq X (.builtin "max") (fun xs H Q=>∃(p:Addr)(ns:List Int),xs=[.ref p]∧SqL X.K H p (ns.map V.int)∧ns≠ []∧∀m∈ns,(∀n∈ns,n≤m)→Q (.int m) H):=by
 intro qa s σ H xs us Q I r h;obtain⟨p,ns,rfl,hq,ne,q⟩:=h;obtain⟨u,rfl,rx⟩:=Zc8 r;cases rx;obtain⟨its,rv,pl,hz⟩:=I.list hq;obtain⟨ps,rfl,e⟩:=Ze5 rv;have hl:=pl.isList;have ei:(ps.map (fun p=>Value.int p.1 p.2)).toArray=intItems ps.toArray:=by simp[intItems]
 rw[ei] at hl
 have pn:0<ps.length:=by
  cases ps with
  |nil=>exact absurd e.symm ne
  |cons a b=>simp
 have at1:∀j,j<ps.length→ns[j]?=some (numAt ps.toArray j):=fun j hj=>by
  rw[←e,Qao,Qad hj];simp[numAt,hj]
 refine max_intList (I.ok.hd hc) hl (by simpa using pn) fun v h' tk hv hk=> ?_;obtain⟨t,rfl⟩:=intItems_at hv;obtain⟨b1,b2⟩:=argBest_gt (numAt ps.toArray) (ps.toArray.size-1);generalize argBest (fun i' j'=>decide (numAt ps.toArray i'>numAt ps.toArray j')) (ps.toArray.size-1)=k at b1 b2⊢;rw[Qay] at b1 b2;refine⟨.int _,H,I.kept hk,⟨t,rfl⟩,q _ (Qav (at1 k (by omega))) fun n hn=> ?_⟩;obtain⟨j,hj⟩:=QaZ.mp hn
 have jl:j<ps.length:=by
  have:=(Qab.mp hj).1;rw[←e,Qaf] at this;exact this
 rw[at1 j jl] at hj;cases hj;exact b2 j (by omega)
theorem ZmU {K:FJ}{k:Nat}{xs:List V}{g:TG}{tt:TT}{te:TE}(Pv:Nat→List V→Hp→Prop)(h0:Pv 0 [] H)(hb:xs.length≤1000)(hz:∀i ys H,Pv i ys H→ys.length≤i)(hl:∀i ys H,i≤xs.length→Pv i ys H→SqL K H a xs)
  (hs:∀i x ys H (pre:St) (p:Addr),pre.length=k→xs[i]?=some x→Pv i ys H→H p=none→g (.ref p) (pre++σ) (upd H p (.tup [.int (i:Int),x])) fun σ' H2=>(∃pre':St,σ'=pre'++σ∧pre'.length=k)∧tt σ' H2 fun ok H3=>if ok=true then te σ' H3 fun y H4=>Pv (i+1) (ys++ [y]) H4 else Pv (i+1) ys H3) (hd:∀ys H,Pv xs.length ys H→∀D,H D=none→Q (.ref D) (upd H D (.lst ys))):CGo k (Ite K a) g tt te Q σ H:=by
 refine⟨fun i m ys H=>m=xs.length-i∧i≤xs.length∧Pv i ys H,⟨xs.length,by simp,QaS _,h0⟩,?_⟩;rintro i m ys H ⟨rfl,hi,p⟩;have q:=hl i ys H hi p;by_cases hlt:i<xs.length
 ·refine .inr ⟨⟨xs,xs[i],q,by simp[hlt]⟩,QaF (hz i ys H p) (Zba (by omega)),Pv (i+1),fun zs H' p'=>⟨xs.length-(i+1),by omega,rfl,hlt,p'⟩,fun v H' pre hp y=> ?_⟩;obtain⟨pp,x,rfl,hq,rfl,e⟩:=y;exact hs i x ys _ pre pp hp (e xs q) p hq
 ·have e:i=xs.length:=by omega
  subst e;exact .inl ⟨⟨xs,q,by simp⟩,hd ys H p⟩
def CpL (H:Hp)(ys:List V)(vss:List (List V)):Prop:=ys.length=vss.length∧∀(i:Nat)(y:V)(vs:List V),ys[i]?=some y→vss[i]?=some vs→∃q:Addr,y= .ref q∧H q=some (.tup vs)
theorem CpL.nil (H:Hp):CpL H [] []:=⟨rfl,fun i y vs h=>by cases h⟩
theorem CpL.up {ys:List V}{vss:List (List V)}(h:CpL H ys vss)(t:Za7 H H'):CpL H' ys vss:=⟨h.1,fun i y vs h1 h2=>by
 obtain⟨q,e,hq⟩:=h.2 i y vs h1 h2
 exact⟨q,e,t _ _ hq⟩⟩
theorem CpL.snoc {ys:List V}{vss:List (List V)}{vs:List V}(h:CpL H ys vss)(hq:H q=some (.tup vs)):CpL H (ys++ [.ref q]) (vss++ [vs]):=by
 refine⟨by rw[Qae,Qae,h.1];rfl,fun i y us h1 h2=> ?_⟩;by_cases c:i<ys.length
 ·rw[Qas c] at h1;rw[Qas (h.1 ▸ c)] at h2;exact h.2 i y us h1 h2
 ·rw[Qaq (by omega)] at h1;rw[Qaq (by rw[←h.1];omega),←h.1] at h2
  have:i-ys.length=0:=by
   have:=(Qab.mp h1).1;simp at this;omega
  rw[this] at h1 h2;cases h1;cases h2;exact⟨q,rfl,hq⟩
def fV:V→PyData
 | .int i=> .int i
 | .bl b=> .bool b
 |_=> .none
def ZmV (vs:List V):Prop:=∀v∈vs,(∃i,v= .int i)∨∃b,v= .bl b
def dCp (vs:List V):PyData:=.tuple (vs.map fV)
theorem Zt4 {K:FJ}{v:V}(h:(∃i,v= .int i)∨∃b,v= .bl b):DI K H v (fV v):=by
 rcases h with⟨i,rfl⟩|⟨b,rfl⟩
 ·exact .int i
 ·exact .bl b
theorem ZsJ {K:FJ}{vs:List V}(hq:H q=some (.tup vs))(hf:ZmV vs):DI K H (.ref q) (dCp vs):=by
 refine .tup (SqT.of hq) (by rw[Qaf]) fun i x d h1 h2=> ?_;rw[Qao,h1] at h2;cases h2;exact Zt4 (hf x (Qav h1))
theorem ZmW:∀vs:List V,PyData.canLayAll0 (vs.map fV)=true
 | []=>rfl
 |v::r=>by
  show((fV v).canLay0 && PyData.canLayAll0 (r.map fV))=true;rw[ZmW r,Bool.and_true];cases v<;>rfl
theorem Zq1 (vs:List V):(dCp vs).canLay0=true:=ZmW vs
theorem ZmX:∀vs:List V,PyData.depthAll (vs.map fV)=0
 | []=>rfl
 |v::r=>by
  show max (fV v).depth (PyData.depthAll (r.map fV))=0;rw[ZmX r];cases v<;>rfl
theorem Zq2 (vs:List V):(dCp vs).depth=1:=by show PyData.depthAll _+1=1;rw[ZmX]
theorem CpL.di {K:FJ}{ys:List V}{vss:List (List V)}(h:CpL H ys vss)(hp:SqL K H p ys)(hf:∀vs∈vss,ZmV vs):DI K H (.ref p) (.list (vss.map dCp)):=by
 refine .lst hp (by rw[Qaf];exact h.1) fun i x d h1 h2=> ?_;rw[Qao] at h2
 cases e:vss[i]? with
 |none=>rw[e] at h2;cases h2
 |some vs=>
  rw[e] at h2;cases h2;obtain⟨q,rfl,hq⟩:=h.2 i x vs h1 e;exact ZsJ hq (hf vs (Qav e))
theorem Zkm:∀vss:List (List V),PyData.canLayAll0 (vss.map dCp)=true
 | []=>rfl
 |v::r=>by
  show((dCp v).canLay0 && PyData.canLayAll0 (r.map dCp))=true;rw[Zkm r,Zq1];rfl
theorem Zkn:∀vss:List (List V),PyData.depthAll (vss.map dCp)≤1
 | []=>QaS _
 |v::r=>by
  show max (dCp v).depth (PyData.depthAll (r.map dCp))≤1
  have:=Zkn r;rw[Zq2];omega
def Zk5 (n:Int)(vss:List (List V))(L:List (Int×List Int)):PyData:=.tuple [.int n,.list (vss.map dCp),dL L]
theorem Ze6 (n:Int)(vss:List (List V))(L:List (Int×List Int)):(Zk5 n vss L).canLay0=true:=by
 show(true && (PyData.canLayAll0 (vss.map dCp) && ((dL L).canLay0 && true)))=true;rw[Zkm,Zmh];rfl
theorem Zq3 {K:FJ}{ya yb:List V}{vss:List (List V)}(hp:H p=some (.tup [.int n,.ref pa,.ref pb]))(ha:H pa=some (.lst ya))(ca:CpL H ya vss)(hf:∀vs∈vss,ZmV vs)(hb:H pb=some (.lst yb))(wb:Wg H yb L):DI K H (.ref p) (Zk5 n vss L):=by
 refine .tup (SqT.of hp) rfl fun i x d h1 h2=> ?_;rcases i with _|_|_|i
 ·cases h1;cases h2;exact .int _
 ·cases h1;cases h2;exact ca.di (SqL.of ha) hf
 ·cases h1;cases h2;exact Wg.di wb (SqL.of hb)
 ·cases h1
theorem ZsK {K:FJ}(hK:X.K=K:=by rfl):OpR X (compareOp .In) (rIn K false):=by subst hK;exact Zma
theorem TuL.get {xs:List V}(h:TuL H xs us){i:Nat}(e:us[i]?=some u):∃a:Addr,H a=some (.tup (u.map V.int))∧xs[i]?=some (.ref a):=by
 have il:i<xs.length:=by rw[h.1];exact(Qab.mp e).1
 obtain⟨a,ea,ha⟩:=h.2 i _ u (Qad il) e;exact⟨a,ha,by rw[Qad il,ea]⟩
def Zgo:Sp:=fun vs H Q _=>∃i l:Int,vs=[.int i,.int l]∧Q (.bl (decide (l≤i))) H
abbrev PR:=Int×Int×Int×Bool
def pV (p:PR):List V:=[.int p.1,.int p.2.1,.int p.2.2.1,.bl p.2.2.2]
theorem Zq4 (p:PR):ZmV (pV p):=fun v hv=>by
 simp only[pV,Qaw,Qa8,QcB] at hv;rcases hv with rfl|rfl|rfl|rfl
 ·exact .inl ⟨_,rfl⟩
 ·exact .inl ⟨_,rfl⟩
 ·exact .inl ⟨_,rfl⟩
 ·exact .inr ⟨_,rfl⟩
theorem ZoR (ps:List PR):∀vs∈ps.map pV,ZmV vs:=fun vs h=>by
 obtain⟨p,_,rfl⟩:=QaR.mp h;exact Zq4 p
abbrev WL2:=List (Int×List Int)
structure ZaS (H:Hp)(a pa pb:Addr)(n:Int)(ps:List PR)(L:WL2)(ya yb:List V):Prop where
 h:H a=some (.tup [.int n,.ref pa,.ref pb])
 ha:H pa=some (.lst ya)
 ca:CpL H ya (ps.map pV)
 hb:H pb=some (.lst yb)
 wb:Wg H yb L
theorem ZaS.up {H H':Hp}{a pa pb:Addr}{n:Int}{ps:List PR}{L:WL2}{ya yb:List V}(x:ZaS H a pa pb n ps L ya yb)(s:Zam H H'):ZaS H' a pa pb n ps L ya yb:=
 ⟨s _ _ x.h,s _ _ x.ha,x.ca.up s.tups,s _ _ x.hb,x.wb.up s.tups⟩
theorem ZaS.di {K:FJ}{ps:List PR}{L:WL2}{ya yb:List V}(x:ZaS H a pa pb n ps L ya yb):DI K H (.ref a) (Zk5 n (ps.map pV) L):=Zq3 x.h x.ha x.ca (ZoR ps) x.hb x.wb
theorem ZaS.len {ps:List PR}{L:WL2}{ya yb:List V}(x:ZaS H a pa pb n ps L ya yb):ya.length=ps.length:=by rw[x.ca.1,Qaf]
theorem ZaS.at {ps:List PR}{L:WL2}{ya yb:List V}(x:ZaS H a pa pb n ps L ya yb){k:Nat}{p:PR}(e:ps[k]?=some p):∃q:Addr,ya[k]?=some (.ref q)∧H q=some (.tup (pV p)):=by
 have il:k<ya.length:=by rw[x.len];exact(Qab.mp e).1
 obtain⟨q,eq,hq⟩:=x.ca.2 k _ (pV p) (Qad il) (by rw[Qao,e];rfl);exact⟨q,by rw[Qad il,eq],hq⟩
abbrev Out:=Int×List PR×WL2×List (List Int×Int)
def SrL (H:Hp)(ys:List V)(S:List (List Int×Int)):Prop:=ys.length=S.length∧∀(i:Nat)(y:V)(e:List Int×Int),ys[i]?=some y→S[i]?=some e→∃q w:Addr,y= .ref q∧H q=some (.tup [.ref w,.int e.2])∧H w=some (.tup (e.1.map V.int))
theorem SrL.nil (H:Hp):SrL H [] []:=⟨rfl,fun i y e h=>by cases h⟩
theorem SrL.up {ys:List V}{S:List (List Int×Int)}(h:SrL H ys S)(t:Za7 H H'):SrL H' ys S:=⟨h.1,fun i y e h1 h2=>by
 obtain⟨q,w,e1,e2,e3⟩:=h.2 i y e h1 h2
 exact⟨q,w,e1,t _ _ e2,t _ _ e3⟩⟩
structure ZhS (H:Hp)(c a pa pb pc:Addr)(o:Out)(ya yb yc:List V):Prop where
 hc:H c=some (.tup [.ref a,.ref pc])
 hall:ZaS H a pa pb o.1 o.2.1 o.2.2.1 ya yb
 hpc:H pc=some (.lst yc)
 sc:SrL H yc o.2.2.2
theorem ZhS.up {H H':Hp}{c a pa pb pc:Addr}{o:Out}{ya yb yc:List V}(x:ZhS H c a pa pb pc o ya yb yc)(s:Zam H H'):ZhS H' c a pa pb pc o ya yb yc:=⟨s _ _ x.hc,x.hall.up s,s _ _ x.hpc,x.sc.up s.tups⟩
def goB (p:PR):Bool:=decide (p.1=p.2.1) && (!p.2.2.2 ||decide (p.2.2.1=1))
def ZdG:Sp:=fun vs H Q _=>∃(q:Addr)(p:PR),vs=[.ref q]∧H q=some (.tup (pV p))∧Q (.bl (goB p)) H
abbrev Jaf:=ZaC (Zan 2) (ZaC (Zan 3) (ZaC (Zan 4) ZcN))
abbrev Jat (K:FJ):=ZaW (Zag 0) (Zcp K 4 (ZaC (Zan 1) Jaf))
abbrev sQ1 (x:TE)(n:Nat)(r:TS):TS:=ZaL (ZaW x (Zan n)) r
abbrev tQ1 (n:Nat):TA:=Zaa (Zag n) Zap
abbrev iQ1 (n:Int):TE:=tC (V.int n)
def ZsL (K:FJ):TS:=ZaL (Jat K) (ZbB (Zc2 (tOp rEq (Zag 1) (Zag 2)) (ZtM (Ziy (Zag 4)) (tOp rEq (Zag 3) (iQ1 1)))))
theorem ZsM (i j:Int):decide (V.int i=V.int j)=decide (i=j):=by
 by_cases h:i=j
 ·rw[h,Qam rfl,Qam rfl]
 ·rw[QaC h,QaC fun z=>h (V.int.inj z)]
theorem ZiU {K:FJ}{p:PR}(hq:H q=some (.tup (pV p)))(k:Q (.bl (goB p)) H):ZsL K {nx:=Z,rt:=Q } [some (.ref q),none,none,none,none] H:=by
 obtain⟨l,h,g,t⟩:=p;refine⟨_,rfl,q,_,rfl,SqT.of hq,rfl,_,_,rfl,_,_,rfl,_,_,rfl,_,_,rfl,rfl,?_⟩;refine⟨_,rfl,_,rfl,rfl,_,rfl,?_⟩;unfold goB at k;rw[ZsM]
 cases hd:decide (l=h) with
 |false=>
  simp only[hd,Bool.false_and] at k;exact Zcd k
 |true=>
  simp only[hd,Bool.true_and] at k;refine Zcl ⟨_,rfl,t,rfl,_,rfl,?_⟩
  cases t with
  |false=>exact Zcl k
  |true=>
   refine Zcd ⟨_,rfl,rfl,?_⟩;rw[ZsM];exact k
def Za4:Sp:=fun vs H Q _=>∃(a c:Addr)(k:Nat)(xs zs:List V),vs=[.ref a,.int (k:Int),.ref c]∧H a=some (.lst xs)∧H c=some (.lst zs)∧k<xs.length∧xs.length≤400∧zs.length≤4∧∀(d:Addr)(H':Hp),Zam H H'→H d=none→H' d=some (.lst (xs.take k++zs++xs.drop (k+1)))→Q (.ref d) H'
theorem ZsN (xs:List V){k:Nat}(h:k≤xs.length):Zf6 xs none (some (k:Int))=xs.take k:=by
 unfold Zf6;rw[HT.sIx_nat,HT.sIx_none,QeL,Qci h,QeB]
theorem ZcT (xs:List V){k:Nat}(h:k≤xs.length):Zf6 xs (some (k:Int)) none=xs.drop k:=by
 unfold Zf6;rw[HT.sIx_nat,HT.sIx_none,Qci h,Qbx (by rw[Qbd];exact Qai _)]
abbrev Jaa:=rI0 fun i j=>V.int (i+j)
def ZmY (K:FJ):TS:=ZbB (tOp Zsh (tOp Zsh (tSl (Zse K) (Zag 0) ZcC (ZfA (Zag 1))) (Zag 2)) (tSl (Zse K) (Zag 0) (ZfA (tOp Jaa (Zag 1) (iQ1 1))) ZcC))
theorem ZmZ {n:Nat}(h:n≤1000):n≤sizeLine:=QbH (Zba h)
theorem ZfD {K:FJ}{c:Addr}{k:Nat}{xs zs:List V}(ha:H a=some (.lst xs))(hc:H c=some (.lst zs))(hk:k<xs.length)(hx:xs.length≤400)(hz:zs.length≤4)
  (kk:∀(d:Addr)(H':Hp),Zam H H'→H d=none→H' d=some (.lst (xs.take k++zs++xs.drop (k+1)))→Q (.ref d) H'):ZmY K {nx:=Z,rt:=Q } [some (.ref a),some (.int (k:Int)),some (.ref c)] H:=by
 refine⟨_,rfl,_,rfl,(k:Int),rfl,a,xs,rfl,SqL.of ha,fun p1 h1=> ?_⟩;rw[ZsN xs (by omega)];have s1:=Zam.nw (o:=.lst (xs.take k)) (Zam.refl H) h1;have f1:(upd H p1 (.lst (xs.take k))) p1=some (.lst (xs.take k)):=Zad;generalize upd H p1 (.lst (xs.take k))=H1 at s1 f1⊢;refine⟨_,rfl,p1,c,_,zs,rfl,rfl,f1,s1 _ _ hc,ZmZ (by rw[Qax];omega),fun p2 h2=> ?_⟩;have s2:=Zam.nw (o:=.lst (xs.take k++zs)) (Zam.refl H1) h2;have f2:(upd H1 p2 (.lst (xs.take k++zs))) p2=some (.lst (xs.take k++zs)):=Zad;generalize upd H1 p2 (.lst (xs.take k++zs))=H2 at s2 f2⊢;have s02:=s1.trans s2;refine⟨_,rfl,_,rfl,_,_,rfl,rfl,((k+1:Nat):Int),rfl,a,xs,rfl,SqL.of (s02 _ _ ha),fun p3 h3=> ?_⟩;rw[ZcT xs (by omega)];have s3:=Zam.nw (o:=.lst (xs.drop (k+1))) (Zam.refl H2) h3;have f3:(upd H2 p3 (.lst (xs.drop (k+1)))) p3=some (.lst (xs.drop (k+1))):=Zad;generalize upd H2 p3 (.lst (xs.drop (k+1)))=H3 at s3 f3⊢;refine⟨p2,p3,_,_,rfl,rfl,s3 _ _ f2,f3,ZmZ (by rw[Qae,Qax,Qbd];omega),fun d hd=> ?_⟩;have s03:=s02.trans s3;exact kk d _ (Zam.nw s03 hd) (s03.free hd) Zad
theorem CpL.take {H:Hp}{ys:List V}{vss:List (List V)}(h:CpL H ys vss)(k:Nat):CpL H (ys.take k) (vss.take k):=⟨by rw[Qax,Qax,h.1],fun i y vs h1 h2=>by
 rw[QcH] at h1 h2
 split at h1
 ·rename_i c
  rw[Qp c] at h2
  exact h.2 i y vs h1 h2
 ·cases h1⟩
theorem CpL.drop {H:Hp}{ys:List V}{vss:List (List V)}(h:CpL H ys vss)(k:Nat):CpL H (ys.drop k) (vss.drop k):=⟨by rw[Qbd,Qbd,h.1],fun i y vs h1 h2=>by
 rw[Qcs] at h1 h2
 exact h.2 _ y vs h1 h2⟩
theorem CpL.append {ys zs:List V}{vss wss:List (List V)}(h:CpL H ys vss)(g:CpL H zs wss):CpL H (ys++zs) (vss++wss):=by
 refine⟨by rw[Qae,Qae,h.1,g.1],fun i y vs h1 h2=> ?_⟩;by_cases c:i<ys.length
 ·rw[Qas c] at h1;rw[Qas (by rw[←h.1];exact c)] at h2;exact h.2 i y vs h1 h2
 ·rw[Qaq (by omega)] at h1;rw[Qaq (by rw[←h.1];omega),←h.1] at h2;exact g.2 _ y vs h1 h2
def Zq5 (n:Int)(ps:List PR)(kd:Str)(i:Int):Bool:=decide (0≤i) && decide (i<if kd= "place" then n else(ps.length:Int))
abbrev Jai:=rI0 fun i j=>V.bl (decide (i<j))
abbrev Jal (K:FJ):=fun xs H Q=>∃p ys,xs=[V.ref p]∧(SqL K H p ys∨SqT K H p ys)∧Q (V.int ys.length) H
def ZsO (K:FJ)(aS:Addr):TS:=ZaL (Zeq (ZbE (tOp rEq (Zag 1) (tC (V.str "side")))) (ZbB (Zc2 (tCB (fun xs H Q=>∃x t b,xs=[x,V.ty "str"]∧Zfw K H x t∧PySem.W.kitOne K t (Value.type "str")=some b∧Q (V.bl b) H) (Zaa (Zag 0) (Zaa (tC (V.ty "str")) Zap))) (tOp (rIn K false) (Zag 0) (tC (V.ref aS))))) ZcK) (sQ1 (tIf (ZbE (tOp rEq (Zag 1) (tC (V.str "place")))) (tOp (ZbO K) (Zag 2) (iQ1 0)) (tCB (Jal K) (Zaa (tOp (ZbO K) (Zag 2) (iQ1 1)) Zap))) 3 (ZbB (Zc2 (Zau Zgo [] E0 (Zaa (Zag 0) (Zaa (iQ1 0) Zap))) (tOp Jai (Zag 0) (Zag 3)))))
theorem Zk6 {K:FJ}{aS:Addr}{kd:Str}{ps:List PR}{L:WL2}{ya yb:List V}(h:ZaS H a pa pb n ps L ya yb)(hk:kd= "pairing" ∨kd= "place")(k:Q (.bl (Zq5 n ps kd i)) H):
  ZsO K aS {nx:=Z,rt:=Q } [some (.int i),some (.str kd),some (.ref a),none] H:=by
 have fin:∀b:Int,Zq5 n ps kd i=(decide (0≤i) && decide (i<b))→(ZbB (Zc2 (Zau Zgo [] E0 (Zaa (Zag 0) (Zaa (tC (V.int 0)) Zap))) (tOp (rI0 fun i j=>V.bl (decide (i<j))) (Zag 0) (Zag 3)))) {nx:=Z,rt:=Q } [some (.int i),some (.str kd),some (.ref a),some (.int b)] H:=fun b e=>by
  rw[e] at k;refine⟨_,rfl,i,0,rfl,_,rfl,?_⟩
  cases hd:decide (0≤i) with
  |false=>rw[hd] at k;exact Zcd k
  |true=>
   rw[hd] at k;exact Zcl ⟨_,rfl,_,rfl,_,_,rfl,rfl,k⟩
 have ns:decide (V.str kd=V.str "side")=false:=QaC fun z=>by
  have z:=V.str.inj z;rcases hk with rfl|rfl
  ·exact absurd z (by decide)
  ·exact absurd z (by decide)
 refine⟨_,rfl,rfl,_,rfl,?_⟩;rw[ns];refine Zcd ?_;refine⟨_,rfl,rfl,_,rfl,?_⟩;rcases hk with rfl|rfl
 ·rw[QaC (show ¬(V.str "pairing" =V.str "place") from fun z=>absurd (V.str.inj z) (by decide))];refine Zcd ⟨_,rfl,a,_,_,_,rfl,rfl,SqT.of h.h,rfl,pa,ya,rfl,.inl (SqL.of h.ha),?_⟩;rw[h.len];exact fin _ (by unfold Zq5;rw[Qn (by decide)])
 ·rw[Qam rfl];refine Zcl ⟨_,rfl,a,_,_,_,rfl,rfl,SqT.of h.h,rfl,?_⟩;exact fin _ (by unfold Zq5;rw[Qp rfl])
theorem ZoS (x:V)(xs:List V):atI (x::xs) 0=some x:=ZaK (xs:=x::xs) (j:=0) (v:=x) rfl
theorem Zqe {K:FJ}:PySem.W.kitOne K (.type "str") (.type "str")=some true:=by rfl
def Bu (d:Addr)(H H':Hp):Prop:=∀c o,H c=some o→c≠d→H' c=some o
theorem Bu.refl (d:Addr)(H:Hp):Bu d H H:=fun _ _ e _=>e
theorem Bu.upd {d:Addr}{H H':Hp}{o:HO}(a:Bu d H H'):Bu d H (L2.upd H' d o):=fun c u e n=>by rw[Zaq n];exact a c u e n
theorem Zam.bu (s:Zam H0 H)(f:H0 d=none)(e:Bu d H H'):Zam H0 H':=fun b o q=>e b o (s b o q) (fun z=>by rw[z,f] at q;cases q)
def Bg (H:Hp)(d:Addr):Prop:=∃n:Int,H d=some (.lst [.int n])
theorem Bg.same (a:Bg H d)(s:Zam H H'):Bg H' d:=let⟨n,e⟩:=a;⟨n,s _ _ e⟩
theorem Bg.ne (a:Bg H d)(h:H p=none):p≠d:=by
 obtain⟨n,e⟩:=a;rintro rfl;rw[h] at e;cases e
theorem Zgp (h0:0<m)(h:m<10^100):m.natAbs.log2<9000:=by
 have h2:m.natAbs<2^400:=by
  have:(10:Int) ^100≤2^400:=by decide +kernel
  omega
 have:=(Nat.log2_lt (n:=m.natAbs) (k:=400) (by omega)).mpr h2;omega
def Zd8 (K:FJ):Sp:=fun vs H Q _=>∃(a:Addr)(ns:List Int)(k:Nat),vs=[.ref a,.int (k:Int)]∧SqL K H a (ns.map V.int)∧Q (.int (ns.getD k 0)) H
def ZsP (K:FJ):TS:=ZaL (Zeq (ZbE (tOp Jai (Zag 1) (tCB (Jal K) (tQ1 0)))) (ZbB (tOp (Zcu K) (Zag 0) (Zag 1))) ZcK) (ZbB (iQ1 0))
theorem ZiV {K:FJ}{k:Nat}(hS:SqL K H a (ns.map V.int))(kk:Q (.int (ns.getD k 0)) H):ZsP K {nx:=Z,rt:=Q } [some (.ref a),some (.int (k:Int))] H:=by
 refine⟨_,rfl,_,rfl,a,_,rfl,.inl hS,_,_,rfl,rfl,_,rfl,Zfx (fun e=> ?_) (fun e=> ?_)⟩
 ·have e:=Qar e;rw[Qaf] at e;have e':k<ns.length:=by omega
  refine⟨_,rfl,_,rfl,a,_,_,_,rfl,rfl,hS,ZaK (by rw[Qao,Qad e'];rfl),?_⟩;rw[Qaz,Qad e'] at kk;exact kk
 ·have e:ns.length≤k:=by simpa using e
  rw[Qaz,QaG (by omega)] at kk;exact kk
def Zdy (K:FJ):Sp:=fun vs H Q _=>∃(a:Addr)(ns:List Int)(k:Nat),vs=[.ref a,.int (k:Int)]∧SqL K H a (ns.map V.int)∧∀n:Int,0≤n→Q (.int n) H
abbrev Jad:=rI0 fun i j=>V.int (i-j)
abbrev Jag:=rI (fun x j=>0<j) fun i j=>V.int (i%j)
abbrev Jak:=Zaa (Zag 0) (Zaa (Zag 1) Zap)
abbrev Jam:=rI ZlK fun i j=>V.int (i*j)
abbrev Jas:=rI ZfB fun i j=>V.int (i/j)
abbrev Jay:=rI0 fun i j=>V.bl (decide (j≤i))
def Zt5 (K:FJ):TS:=ZaL (Zeq (ZbE (tOp Jay (tCB (fun xs H Q=>∃i,xs=[V.int i]∧Q (V.int (if i<0 then -i else i)) H) (Zaa (Zau (Zd8 K) [] E0 Jak) Zap)) (tOp (rI ZtI fun i j=>V.int (i^j.toNat)) (iQ1 10) (iQ1 18)))) (ZbB (tOp Jad (tCB (fun xs H Q=>∃i,xs=[V.int i]∧Q (V.int (if i<0 then -i else i)) H) (Zaa (Zau (Zd8 K) [] E0 Jak) Zap)) (tOp (rI ZtI fun i j=>V.int (i^j.toNat)) (iQ1 10) (iQ1 18)))) ZcK) (sQ1 (tOp Jaa (tOp Jaa (tOp Jaa (tOp Jag (Zau (Zd8 K) [] E0 (Zaa (Zag 0) (Zaa (iQ1 0) Zap))) (iQ1 1000003)) (tOp Jam (iQ1 7919) (Zag 1))) (tOp Jam (iQ1 31) (Zau (Zd8 K) [] E0 Jak))) (iQ1 17)) 2 (sQ1 (tOp Jaa (tOp Jag (Zag 2) (iQ1 2147483629)) (iQ1 11)) 2 (sQ1 (iQ1 0) 3 (ZaL (ZfJ (Zew (Zaa (iQ1 10) Zap)) (Zan 4) (sQ1 (tOp Jag (tOp Jaa (tOp Jaa (tOp Jaa (tOp Jam (Zag 2) (iQ1 48271)) (tOp Jas (Zag 2) (iQ1 40692))) (tOp Jam (tOp Jam (iQ1 19) (Zag 4)) (Zag 4))) (Zag 1)) (iQ1 2147483647)) 2 (ZaW (tOp Jaa (tOp Jam (Zag 3) (iQ1 2147483647)) (tOp Jag (tOp Jam (Zag 2) (iQ1 69621)) (iQ1 2147483629))) (Zan 3)))) (ZbB (Zag 3))))))
theorem Zk7 {K:FJ}{k:Nat}(hS:SqL K H a (ns.map V.int))(kk:∀n:Int,0≤n→Q (.int n) H):Zt5 K {nx:=Z,rt:=Q } [some (.ref a),some (.int (k:Int)),none,none,none] H:=by
 refine⟨_,rfl,_,rfl,a,ns,k,rfl,hS,_,rfl,_,_,rfl,rfl,⟨by decide,by decide,by decide⟩,_,_,rfl,rfl,_,rfl,Zfx (fun e=> ?_) (fun e=> ?_)⟩
 ·have e:=Qar e;refine⟨_,rfl,_,rfl,a,ns,k,rfl,hS,_,rfl,_,_,rfl,rfl,⟨by decide,by decide,by decide⟩,_,_,rfl,rfl,kk _ (by omega)⟩
 ·refine⟨_,rfl,a,ns,0,rfl,hS,_,_,rfl,rfl,(by decide:(0:Int)<1000003),_,rfl,_,_,rfl,rfl,.inl ⟨by decide,by decide⟩,_,_,rfl,rfl,_,rfl,_,rfl,a,ns,k,rfl,hS,_,_,rfl,rfl,.inl ⟨by decide,by decide⟩,_,_,rfl,rfl,_,_,rfl,rfl,?_⟩;refine⟨_,rfl,_,_,rfl,rfl,(by decide:(0:Int)<2147483629),_,_,rfl,rfl,?_⟩;refine⟨10,rfl,by decide,by decide,Zci (n:=10) (fun j σ H'=>∃(x t:Int)(y:Option V),σ=[some (.ref a),some (.int (k:Int)),some (.int x),some (.int t),y]∧0≤t∧H'=H) ⟨_,0,none,rfl,by decide,rfl⟩ ?_ ?_⟩
  ·rintro j σ H' hj ⟨x,t,y,rfl,ht,rfl⟩;refine⟨_,rfl,_,_,rfl,rfl,.inr ⟨by decide,by decide⟩,_,rfl,_,_,rfl,rfl,⟨by decide,QaP ((Nat.log2_lt (n:=40692) (k:=16) (by decide)).mpr (by decide)) (by decide)⟩,_,_,rfl,rfl,_,rfl,_,_,rfl,rfl,.inl ⟨by decide,by decide⟩,_,rfl,_,_,rfl,rfl,.inr ⟨by omega,by omega⟩,_,_,rfl,rfl,_,rfl,_,_,rfl,rfl,_,_,rfl,rfl,(by decide:(0:Int)<2147483647),?_⟩;refine⟨_,rfl,_,_,rfl,rfl,.inr ⟨by decide,by decide⟩,_,rfl,_,_,rfl,rfl,.inr ⟨by decide,by decide⟩,_,_,rfl,rfl,(by decide:(0:Int)<2147483629),_,_,rfl,rfl,?_⟩;exact⟨_,_,_,rfl,by have:=QaX (((x*48271+x/40692+19*(0+(j:Int))*(0+(j:Int))+k) %2147483647)*69621) (show(2147483629:Int)≠0 by decide);omega,rfl⟩
  ·rintro σ H' ⟨x,t,y,rfl,ht,rfl⟩;exact⟨_,rfl,kk t ht⟩
def Zbd:Sp:=fun vs H Q _=>∃(d:Addr)(m:Int),vs=[.ref d,.int m]∧Bg H d∧0<m∧m<10^100∧∀(r:Int)(H':Hp),0≤r→r<m→Bg H' d→Bu d H H'→(∀c,c≠d→H c=none→H' c=none)→Q (.int r) H'
def ZsQ (K:FJ):TS:=sQ1 (tOp Jag (tOp (Zcu K) (Zag 0) (iQ1 0)) (Zag 1)) 2 (ZaL (ZaW (tOp Jas (tOp (Zcu K) (Zag 0) (iQ1 0)) (Zag 1)) (ZrV (Zag 0) (iQ1 0) ZkP)) (ZbB (Zag 2)))
theorem ZiW {K:FJ}(hb:Bg H d)(h0:0<m)(h1:m<10^100)(k:∀(r:Int)(H':Hp),0≤r→r<m→Bg H' d→Bu d H H'→(∀c,c≠d→H c=none→H' c=none)→Q (.int r) H'):ZsQ K {nx:=Z,rt:=Q } [some (.ref d),some (.int m),none] H:=by
 obtain⟨b,hd⟩:=hb;refine⟨_,rfl,d,_,_,_,rfl,rfl,SqL.of hd,rfl,_,rfl,_,_,rfl,rfl,h0,?_⟩;refine⟨_,rfl,d,_,_,_,rfl,rfl,SqL.of hd,rfl,_,rfl,_,_,rfl,rfl,⟨h0,Zgp h0 h1⟩,_,rfl,d,_,_,_,rfl,rfl,hd,rfl,?_⟩;exact⟨_,rfl,k _ _ (QaX _ (by omega)) (QaQ _ h0) ⟨_,Zad⟩ (Bu.upd (Bu.refl _ _)) fun c n e=>by rw[Zaq n];exact e⟩
theorem ZiX (acc:List (Int×List Int))(e:Int×List Int):(ZaV acc e).length≤acc.length+1:=by
 unfold ZaV;split
 ·split
  ·split
   ·rw[Qae,QbY];show acc.length-1+1≤_;omega
   ·rw[Qae];exact Qai _
  ·rw[Qae];exact Qai _
 ·omega
theorem Zk8 (L:List (Int×List Int)):(ZaM L).length≤L.length:=by
 have key:∀(L acc:List (Int×List Int)),(L.foldl ZaV acc).length≤acc.length+L.length:=by
  intro L
  induction L with
  |nil=>intro acc;exact Qai _
  |cons e L ih=>
   intro acc;rw[QbX,QaB]
   have:=ih (ZaV acc e)
   have:=ZiX acc e;omega
 have:=key L [];unfold ZaM;rw[QbM] at this;omega
theorem ZcL {p:List Int→Prop}(h:∀e∈L,p e.2):∀e∈ZaM L,p e.2:=by
 have key:∀(L acc:List (Int×List Int)),(∀e∈L,p e.2)→(∀e∈acc,p e.2)→∀e∈L.foldl ZaV acc,p e.2:=by
  intro L
  induction L with
  |nil=>intro acc _ h;exact h
  |cons x L ih=>
   intro acc hL ha;rw[QbX];refine ih _ (fun e he=>hL e (Qag _ he)) ?_;have hx:=hL x Qah;have snoc:∀e∈acc++ [x],p e.2:=fun e he=>(Qap.mp he).elim (ha e) fun z=>by rw[Qal] at z;subst z;exact hx
   unfold ZaV;split
   ·split
    ·split
     ·intro e he;rcases Qap.mp he with z|z
      ·exact ha e (Qcu _ z)
      ·rw[Qal] at z;subst z;exact hx
     ·exact snoc
    ·exact snoc
   ·exact ha
 exact key L [] h (fun e he=>by simp at he)
abbrev Jah:=tUn (rU fun i=>V.int (-i)) (tC (V.int 1))
abbrev Jaz:=rI0 fun i j=>V.bl (decide (j<i))
def Zqf (K:FJ):TS:=sQ1 (Zc0 Zap) 12 (ZaL (ZfJ (Zc7 K (Zag 7)) (Zcp K 2 (ZaC (Zan 11) (ZaC (Zan 10) ZcN))) (Zeq (ZrU (ZbE (tOp Jaz (Zag 11) (iQ1 0))) (ZrU (ZbE (tOp (ZqI K fun b=> !b) (Zag 12) (Zc0 Zap))) (ZbE (tOp (ZqI K fun b=>b) (tOp (ZbO K) (tOp (Zcu K) (Zag 12) Jah) (iQ1 1)) (Zag 10))))) (ZaW (Zcr (Zaa (tOp Jaa (tOp (ZbO K) (tOp (Zcu K) (Zag 12) Jah) (iQ1 0)) (Zag 11)) (tQ1 10))) (ZrV (Zag 12) Jah ZkP)) (Zeq (ZbE (tOp Jaz (Zag 11) (iQ1 0))) (ZbD (tBM K "list" ZcP (Zag 12) (Zaa (Zcr (Zaa (Zag 11) (tQ1 10))) Zap))) ZcK))) (ZbB (Zag 12)))
theorem ZiY {K:FJ}{x0 x1 x2 x3 x4 x5 x6 x8 x9 x10 x11:Option V}{xs:List V}(hS:H a=some (.lst xs))(g:Wg H xs L)(hL:L.length≤100)
  (k:∀(b:Addr)(ys:List V)(H':Hp),H b=none→H' b=some (.lst ys)→Wg H' ys (ZaM L)→Zam H H'→Q (.ref b) H'):
  Zqf K {nx:=Z,rt:=Q } [x0,x1,x2,x3,x4,x5,x6,some (.ref a),x8,x9,x10,x11,none] H:=by
 refine⟨zL0,fun b fb=> ?_⟩;have s0:=Zam.nw (o:=.lst []) (Zam.refl H) fb;refine⟨_,rfl,a,rfl,⟨xs,SqL.of (s0 _ _ hS)⟩,ZbL (K:=K) (a:=a) (xs:=xs) (fun i σ H'=>∃(m v:Option V)(ys:List V),σ=[x0,x1,x2,x3,x4,x5,x6,some (.ref a),x8,x9,m,v,some (.ref b)]∧H' b=some (.lst ys)∧Wg H' ys (ZaM (L.take i))∧Zam H H') ⟨_,_,[],rfl,Zad,Wg.nil _,s0⟩ (fun i σ H' _ ⟨_,_,_,_,_,_,z⟩=>SqL.of (z _ _ hS)) ?_ ?_⟩
 ·rintro i x σ H1 hx ⟨m,v,ys,rfl,h1b,g1,s1⟩;obtain⟨e,hei,q,wq,rfl,hq,hw⟩:=g.at' hx;have hq1:=s1 _ _ hq;have hw1:=s1 _ _ hw;have hi:i<L.length:=(Qab.mp hei).1;have lys:ys.length≤i:=by have:=Zk8 (L.take i);have:=g1.1;rw[Qax] at*;omega
  have app:0<e.1→(∀l0,(ZaM (L.take i)).getLast?=some l0→l0.2≠e.2)→∀Hx,Zam H1 Hx→Hx b=some (.lst ys)→(ZbD (tBM K "list" ZcP (Zag 12) (Zaa (Zcr (Zaa (Zag 11) (Zaa (Zag 10) Zap))) Zap))) {nx:=fun σ H'=>∃(m v:Option V)(ys:List V),σ=[x0,x1,x2,x3,x4,x5,x6,some (.ref a),x8,x9,m,v,some (.ref b)]∧H' b=some (.lst ys)∧Wg H' ys (ZaM (L.take (i+1)))∧Zam H H',rt:=Q } [x0,x1,x2,x3,x4,x5,x6,some (.ref a),x8,x9,some (.ref wq),some (.int e.1),some (.ref b)] Hx:=fun hpos hlast Hx sx hxb=>by
   refine⟨_,rfl,.inl ⟨rfl,_,SqL.of hxb⟩,_,rfl,_,rfl,zL2,fun p hp=> ?_⟩;have npb:p≠b:=fun z=>by rw[z,hxb] at hp;cases hp
   have h8b:=(Zaq (H:=Hx) (a:=p) (o:=.tup [.int e.1,.ref wq]) (Ne.symm npb)).trans hxb;refine⟨b,_,_,rfl,rfl,h8b,Zba (by omega:ys.length≤1000),?_⟩;have T8:Za7 Hx (upd Hx p (.tup [.int e.1,.ref wq])):=(Za7.refl _).new hp;have T9:Za7 (upd Hx p (.tup [.int e.1,.ref wq])) (upd (upd Hx p (.tup [.int e.1,.ref wq])) b (.lst (ys++ [.ref p]))):=(Za7.refl _).lst h8b;refine⟨_,_,_,rfl,Zad,?_,Zam.ow (Zam.nw (s1.trans sx) hp) fb⟩;rw[ZbP hei];unfold ZaV;rw[Qp hpos];have fin:=Wg.snoc (g1.up (sx.tups.trans (T8.trans T9))) ⟨p,wq,rfl,T9 _ _ Zad,T9 _ _ (T8 _ _ (sx _ _ hw1))⟩ (e:=e)
   cases z:(ZaM (L.take i)).getLast? with
   |none=>exact fin
   |some l0=>dsimp only;rw[Qn (hlast l0 z)];exact fin
  refine⟨q,_,rfl,SqT.of hq1,rfl,_,_,rfl,_,_,rfl,rfl,?_⟩;refine⟨_,rfl,_,_,rfl,rfl,_,rfl,Zfx (fun hc=> ?_) (fun hc=> ?_)⟩
  ·have hpos:=Qar hc;refine⟨_,rfl,zL0,fun c0 hc0=> ?_⟩;have sx:=Zam.nw (o:=.lst []) (Zam.refl H1) hc0;have f0:(upd H1 c0 (.lst [])) c0=some (.lst []):=Zad;generalize upd H1 c0 (.lst [])=Hx at sx f0⊢;refine⟨_,_,(g1.up sx.tups).di (SqL.of (sx _ _ h1b)),Zsp (SqL.of f0),Zmh _,Zmh _,Zso _,_,rfl,?_⟩;rw[Zsl]
   cases hlast:(ZaM (L.take i)).getLast? with
   |none=>
    have hnil:ZaM (L.take i)=[]:=by
     cases z:ZaM (L.take i) with
     |nil=>rfl
     |cons y r=>rw[z] at hlast;simp at hlast
    rw[Qam hnil];refine Zcd (Zcd ?_);refine⟨_,rfl,_,_,rfl,rfl,_,rfl,?_⟩;rw[Qam hpos];exact Zcl (app hpos (fun l0 z=>by rw[hlast] at z;cases z) Hx sx (sx _ _ h1b))
   |some l0=>
    have hne:ZaM (L.take i)≠ []:=fun z=>by rw[z] at hlast;cases hlast
    rw[QaC hne];refine Zcl ?_
    have hyn:ys≠ []:=fun z=>by
     have:=g1.1;rw[z] at this;exact hne (Qc4.mp this.symm)
    have hl0:(ZaM (L.take i))[ys.length-1]?=some l0:=by rw[g1.1,←QbN];exact hlast
    obtain⟨y0,hy0,q0,w0,rfl,hq0,hw0⟩:=g1.get hl0;have hyl:ys.getLast?=some (V.ref q0):=by rw[QbN];exact hy0
    have hat:atI ys (-1)=some (V.ref q0):=by
     have:ys=ys.dropLast++ [V.ref q0]:=Zcv hyl;rw[this];exact Zf7 _ _
    refine⟨_,rfl,_,rfl,b,_,_,V.ref q0,rfl,rfl,SqL.of (sx _ _ h1b),hat,q0,_,_,_,rfl,rfl,SqT.of (sx _ _ hq0),rfl,_,rfl,_,_,Zd3 (sx _ _ hw0),Zd3 (sx _ _ hw1),ZfQ _,ZfQ _,(by rw[Zj8];decide),_,rfl,?_⟩;rw[Zmf];refine Zfx (fun hE=> ?_) (fun hE=> ?_)
    ·have hE:=Qar hE;refine⟨_,rfl,_,rfl,b,_,_,V.ref q0,rfl,rfl,SqL.of (sx _ _ h1b),hat,q0,_,_,_,rfl,rfl,SqT.of (sx _ _ hq0),rfl,_,rfl,_,_,rfl,rfl,_,rfl,zL2,fun p hp=> ?_⟩;have npb:p≠b:=fun z=>by rw[z,sx _ _ h1b] at hp;cases hp
     have h8b:=(Zaq (H:=Hx) (a:=p) (o:=.tup [.int (l0.1+e.1),.ref wq]) (Ne.symm npb)).trans (sx _ _ h1b)
     have hix:ixN ys.length (-1)=some (ys.length-1):=by
      have:0<ys.length:=List.length_pos_iff.mpr hyn;unfold ixN;rw[Qn (by decide),Qp (by omega)];congr 1;omega
     refine⟨_,rfl,_,rfl,b,ys,_,ys.length-1,rfl,rfl,h8b,hix,?_⟩;have T8:Za7 H1 (upd Hx p (.tup [.int (l0.1+e.1),.ref wq])):=sx.tups.trans ((Za7.refl _).new hp);have T9:Za7 (upd Hx p (.tup [.int (l0.1+e.1),.ref wq])) (upd (upd Hx p (.tup [.int (l0.1+e.1),.ref wq])) b (.lst (ys.set (ys.length-1) (.ref p)))):=(Za7.refl _).lst h8b;refine⟨_,_,_,rfl,Zad,?_,Zam.ow (Zam.nw (s1.trans sx) hp) fb⟩;rw[ZbP hei];unfold ZaV;rw[Qp hpos,hlast];dsimp only;rw[Qp hE,Zdl hyl];rw[Zdl hyl] at T9;refine Wg.snoc ((g1.pop).up (T8.trans T9)) ⟨p,wq,rfl,?_,T9 _ _ (T8 _ _ hw1)⟩;show _=some (HO.tup [V.int (e.1+l0.1),V.ref wq]);rw[Int.add_comm e.1 l0.1];exact T9 _ _ Zad
    ·have hE:=Qbp (Qcy.mpr hE);refine⟨_,rfl,_,_,rfl,rfl,_,rfl,?_⟩;rw[Qam hpos];refine Zcl (app hpos (fun l1 z=> ?_) Hx sx (sx _ _ h1b));rw[hlast] at z;cases z;exact hE
  ·refine Zcd ?_;refine⟨_,rfl,_,_,rfl,rfl,_,rfl,?_⟩;have hc:=Qbp (Qcy.mpr hc);rw[QaC hc];refine Zcd ⟨_,_,ys,rfl,h1b,?_,s1⟩;rw[ZbP hei];unfold ZaV;rw[Qn hc];exact g1
 ·rintro σ H1 ⟨m,v,ys,rfl,h1b,g1,s1⟩;have hlx:L.take xs.length=L:=by rw[g.1];exact Qa3
  rw[hlx] at g1;exact⟨_,rfl,k b ys H1 fb h1b g1 s1⟩
theorem ZoT (xs:List V):Zf6 xs none (some (-1))=xs.dropLast:=by
 unfold Zf6;show(xs.drop 0).take ((if(-1:Int)<0 then((-1:Int)+(xs.length:Int)).toNat else min (-1:Int).toNat xs.length)-0)=_;rw[Qp (by decide),QeL,QeB,List.dropLast_eq_take];congr 1;omega
theorem Zq6 (h0:0≤r)(h1:r<8):∃z:Nat,atI [V.int 1,V.int 2,V.int 3,V.int 1,V.int 2,V.int 3,V.int 5,V.int 24] r=some (.int (z:Int))∧1≤z∧z≤24:=by
 have hc:r=0∨r=1∨r=2∨r=3∨r=4∨r=5∨r=6∨r=7:=by omega
 rcases hc with rfl|rfl|rfl|rfl|rfl|rfl|rfl|rfl
 ·exact⟨1,rfl,by decide,by decide⟩
 ·exact⟨2,rfl,by decide,by decide⟩
 ·exact⟨3,rfl,by decide,by decide⟩
 ·exact⟨1,rfl,by decide,by decide⟩
 ·exact⟨2,rfl,by decide,by decide⟩
 ·exact⟨3,rfl,by decide,by decide⟩
 ·exact⟨5,rfl,by decide,by decide⟩
 ·exact⟨24,rfl,by decide,by decide⟩
theorem Zq7 (h0:0≤r)(h1:r<4):∃z:Int,atI [V.int 7,V.int 7,V.int 4,V.int (10^(30:Int).toNat)] r=some (.int z)∧0<z∧z<10^100:=by
 have hc:r=0∨r=1∨r=2∨r=3:=by omega
 rcases hc with rfl|rfl|rfl|rfl
 ·exact⟨7,rfl,by decide,by decide⟩
 ·exact⟨7,rfl,by decide,by decide⟩
 ·exact⟨4,rfl,by decide,by decide⟩
 ·exact⟨_,rfl,by decide,by decide⟩
def ZtL (u:List Int):Prop:=∀z∈u,-(10^100)<z∧z<10^100
def WOk (n:Int)(L:WL2):Prop:=∃(wd:Nat)(P:WL2),L=ZaM P∧P.length≤8∧1≤wd∧wd≤24∧(∀e∈P,0≤e.1∧e.2.length=wd∧ZtL e.2)∧tot P=n
abbrev Jaj (K:FJ):=fun xs H_1 Q=>∃p ys,xs=[V.ref p]∧((SqL K H_1 p ys∧∀(l:Addr),H_1 l=none→Q (V.ref l) (upd H_1 l (HO.tup ys)))∨SqT K H_1 p ys∧Q (V.ref p) H_1)
def Zm0 (K:FJ):TS:=(ZaL (ZfJ (Zew (Zaa (Zau Zbd [] E0 (Zaa (Zag 4) (Zaa (iQ1 7) Zap))) Zap)) (Zan 8) (sQ1 (Zc0 (Zaa (Zau (Zdy K) [] E0 (Zaa (Zag 2) (Zaa (tOp Jaa (Zag 3) (Zag 8)) Zap))) Zap)) 9 (sQ1 (tCB (Jaj K) (Zaa (ZbU 1 (Zew (tQ1 5)) (Zan 0) Zes (tOp Jad (Zau Zbd [] E0 (Zaa (Zag 10) (tQ1 7))) (tOp Jas (Zag 7) (iQ1 3)))) Zap)) 10 (sQ1 (Zau Zbd [] E0 (Zaa (Zag 9) (Zaa (tOp Jaa (tOp (ZbO K) (tOp (Zcu K) (Zag 7) Jah) (iQ1 0)) (iQ1 1)) Zap))) 11 (ZaW (tOp Zsh (tSl (Zse K) (Zag 7) ZcC (ZfA Jah)) (Zc0 (Zaa (Zcr (Zaa (Zag 11) (tQ1 10))) (Zaa (Zcr (Zaa (tOp Jad (tOp (ZbO K) (tOp (Zcu K) (Zag 7) Jah) (iQ1 0)) (Zag 11)) (Zaa (tOp (ZbO K) (tOp (Zcu K) (Zag 7) Jah) (iQ1 1)) Zap))) Zap)))) (Zan 7)))))) (Zqf K))
theorem ZhT {K:FJ}{hi:Int}{x1:Option V}{pc:Addr}{wd:Nat}{ys:List V}{P:WL2}(hS:SqL K H0 a (ns.map V.int))(s0:Zam H0 H)(hf:H0 bg=none)(hb:Bg H bg)(hp:H pc=some (.lst ys))(npb:pc≠bg)(g:Wg H ys P)(hl:P.length=1)(ht:tot P=n)(hP:∀e∈P,0≤e.1∧e.2.length=wd∧ZtL e.2)(w1:1≤wd)(w2:wd≤24)(hi0:0<hi)(hi1:hi<10^100)(hn:n<10^99)
  (k:∀(b:Addr)(ys:List V)(L:WL2)(H':Hp),H0 b=none→H' b=some (.lst ys)→Wg H' ys L→WOk n L→Zam H0 H'→Q (.ref b) H'):
  Zm0 K {nx:=Z,rt:=Q } [some (.int n),x1,some (.ref a),some (.int (at0:Int)),some (.ref bg),some (.int (wd:Int)),some (.int hi),some (.ref pc),none,none,none,none,none] H:=by
 refine⟨_,rfl,bg,7,rfl,hb,by decide,by decide,fun r H1 r0 r1 hb1 u1 _=> ?_⟩;have s1:Zam H0 H1:=s0.bu hf u1;have gT:Za7 H H1:=fun b zs e=>u1 b _ e (fun z=>by obtain⟨m,hb⟩:=hb;rw[z,hb] at e;cases e);refine⟨r,rfl,by omega,by omega,Zci (n:=r.toNat) (fun j σ H'=>∃(pc:Addr)(ys:List V)(P:WL2)(x8 x9 x10 x11:Option V),σ=[some (.int n),x1,some (.ref a),some (.int (at0:Int)),some (.ref bg),some (.int (wd:Int)),some (.int hi),some (.ref pc),x8,x9,x10,x11,none]∧H' pc=some (.lst ys)∧Wg H' ys P∧P.length=j+1∧tot P=n∧(∀e∈P,0≤e.1∧e.2.length=wd∧ZtL e.2)∧Zam H0 H') ⟨pc,ys,P,none,none,none,none,rfl,u1 _ _ hp npb,g.up gT,hl,ht,hP,s1⟩ ?_ ?_⟩
 ·clear hp g hl ht hP npb;rintro j σ H2 hj ⟨pc,ys,P,x8,x9,x10,x11,rfl,hp,g,hl,ht,hP,s2⟩;refine⟨_,rfl,_,rfl,_,rfl,_,_,rfl,rfl,a,ns,at0+j,?_,s2.seq hS,fun big hbig=>⟨zL1,fun dr hdr=> ?_⟩⟩
  ·have e:(at0:Int)+(0+(j:Int))=((at0+j:Nat):Int):=by omega
   show [V.ref a,V.int ((at0:Int)+(0+(j:Int)))]=[V.ref a,V.int ((at0+j:Nat):Int)];rw[e]
  have fdr:=s2.free hdr;have s3:=Zam.nw (o:=.lst [.int big]) (Zam.refl H2) hdr;have b3:Bg (upd H2 dr (.lst [.int big])) dr:=⟨big,Zad⟩;generalize upd H2 dr (.lst [.int big])=H3 at s3 b3⊢;refine⟨_,rfl,(wd:Int),rfl,by omega,by omega,?_⟩;rw[QbR];refine Zou (n:=wd) (fun i zs H'=>(∃ms:List Int,zs=ms.map V.int∧ms.length=i∧ZtL ms)∧Bg H' dr∧Zam H2 H') ⟨⟨[],rfl,rfl,fun z hz=>(by cases hz)⟩,b3,s3⟩ (by omega) (fun i zs H' h=>by obtain⟨⟨ms,rfl,e,_⟩,_⟩:=h;rw[Qaf,e];exact Qai _) ?_ ?_
  ·rintro i zs H' pre qc hi' ⟨⟨ms,rfl,e,nm⟩,bb,ss⟩;rcases pre with _|⟨p0,_|⟨p1,pre⟩⟩
   ·cases qc
   ·refine⟨⟨[some _],rfl,rfl⟩,?_⟩;unfold Zes;dsimp only;rw[Qp (rfl:true=true)]
    refine⟨_,rfl,_,rfl,dr,hi,rfl,bb,hi0,hi1,fun r' H'' g0 g1 bb' uu' _=>⟨_,rfl,_,_,rfl,rfl,⟨by decide,Zgp (m:=3) (by decide) (by decide)⟩,_,_,rfl,rfl,⟨ms++ [r'-hi/3],by rw[Qau];rfl,by rw[Qae,e];rfl,fun z hz=>(by
     rcases Qap.mp hz with q|q
     ·exact nm z q
     ·rw[Qal.mp q];omega)⟩,bb',ss.bu hdr uu'⟩⟩
   ·cases qc
  ·rintro zs H4 ⟨⟨ms,rfl,em,nm⟩,b4,s4⟩ D hD;refine⟨D,_,rfl,.inl ⟨SqL.of Zad,fun wq hwq=> ?_⟩⟩;have s5:=Zam.nw (o:=.lst (ms.map V.int)) (Zam.refl H4) hD;generalize upd H4 D (.lst (ms.map V.int))=H5 at s5 hwq⊢;have s6:=Zam.nw (o:=.tup (ms.map V.int)) (Zam.refl H5) hwq;have f6:(upd H5 wq (.tup (ms.map V.int))) wq=some (.tup (ms.map V.int)):=Zad;generalize upd H5 wq (.tup (ms.map V.int))=H6 at s6 f6⊢;have s26:=s4.trans (s5.trans s6);have b6:Bg H6 dr:=b4.same (s5.trans s6);have hyn:P≠ []:=fun z=>by rw[z] at hl;cases hl
   obtain⟨l0,hlast⟩:∃l0,P.getLast?=some l0:=⟨_,Qdj hyn⟩;have hl0:P[ys.length-1]?=some l0:=by rw[g.1,←QbN];exact hlast
   obtain⟨y0,hy0,q0,w0,rfl,hq0,hw0⟩:=g.get hl0;have hyl:ys.getLast?=some (V.ref q0):=by rw[QbN];exact hy0
   have eys:ys=ys.dropLast++ [V.ref q0]:=Zcv hyl;have hat:atI ys (-1)=some (V.ref q0):=by rw[eys];exact Zf7 _ _
   have hm:=hP l0 (Qds hlast)
   have tl:tot P=tot P.dropLast+l0.1:=by
    have e:=congrArg tot (Zcv hlast);rw[ZaZ,ZaD,ZaI] at e;omega
   have tn:0≤tot P.dropLast:=by
    have key:∀M:WL2,(∀e∈M,0≤e.1)→0≤tot M:=by
     intro M
     induction M with
     |nil=>intro _;exact QaL _
     |cons e M ih=>intro h;rw[ZaD];have:=h e Qah;have:=ih fun x hx=>h x (Qag _ hx);omega
    exact key _ fun e he=>(hP e (Qcu _ he)).1
   refine⟨_,rfl,_,rfl,_,rfl,pc,_,_,V.ref q0,rfl,rfl,SqL.of (s26 _ _ hp),hat,q0,_,_,_,rfl,rfl,SqT.of (s26 _ _ hq0),rfl,_,_,rfl,rfl,dr,l0.1+1,rfl,b6,by omega,by omega,fun many H7 m0 m1 b7 u7 _=> ?_⟩;have s27:Zam H2 H7:=s26.bu hdr u7;have f7:H7 wq=some (.tup (ms.map V.int)):=u7 _ _ f6 (fun z=>by obtain⟨m,b6⟩:=b6;rw[z,b6] at f6;cases f6);refine⟨_,rfl,_,rfl,(-1),rfl,pc,ys,rfl,SqL.of (s27 _ _ hp),fun p1 h1=> ?_⟩;rw[ZoT];have s8:=Zam.nw (o:=.lst ys.dropLast) (Zam.refl H7) h1;have f8:(upd H7 p1 (.lst ys.dropLast)) p1=some (.lst ys.dropLast):=Zad;generalize upd H7 p1 (.lst ys.dropLast)=H8 at s8 f8⊢;have s28:=s27.trans s8;refine⟨_,rfl,_,rfl,zL2,fun t1 ht1=> ?_⟩;have s9:=Zam.nw (o:=.tup [.int many,.ref wq]) (Zam.refl H8) ht1;have f9:(upd H8 t1 (.tup [.int many,.ref wq])) t1=some (.tup [.int many,.ref wq]):=Zad;generalize upd H8 t1 (.tup [.int many,.ref wq])=H9 at s9 f9⊢;have s29:=s28.trans s9;refine⟨_,rfl,_,rfl,pc,_,_,V.ref q0,rfl,rfl,SqL.of (s29 _ _ hp),hat,q0,_,_,_,rfl,rfl,SqT.of (s29 _ _ hq0),rfl,_,rfl,_,_,rfl,rfl,_,rfl,_,rfl,pc,_,_,V.ref q0,rfl,rfl,SqL.of (s29 _ _ hp),hat,q0,_,_,_,rfl,rfl,SqT.of (s29 _ _ hq0),rfl,zL2,fun t2 ht2=> ?_⟩;have s10:=Zam.nw (o:=.tup [.int (l0.1-many),.ref w0]) (Zam.refl H9) ht2;have f10:(upd H9 t2 (.tup [.int (l0.1-many),.ref w0])) t2=some (.tup [.int (l0.1-many),.ref w0]):=Zad;generalize upd H9 t2 (.tup [.int (l0.1-many),.ref w0])=H10 at s10 f10⊢;refine⟨zL2,fun p2 h2=> ?_⟩;have s11:=Zam.nw (o:=.lst [.ref t1,.ref t2]) (Zam.refl H10) h2;have f11:(upd H10 p2 (.lst [.ref t1,.ref t2])) p2=some (.lst [.ref t1,.ref t2]):=Zad;generalize upd H10 p2 (.lst [.ref t1,.ref t2])=H11 at s11 f11⊢;have s811:=s9.trans (s10.trans s11);refine⟨p1,p2,_,_,rfl,rfl,s811 _ _ f8,f11,ZmZ (by rw[QbY,g.1,hl];show j+1-1+2≤1000;omega),fun pc' hpc'=> ?_⟩;have s12:=Zam.nw (o:=.lst (ys.dropLast++ [.ref t1,.ref t2])) (Zam.refl H11) hpc';have f12:(upd H11 pc' (.lst (ys.dropLast++ [.ref t1,.ref t2]))) pc'=some (.lst (ys.dropLast++ [.ref t1,.ref t2])):=Zad;generalize upd H11 pc' (.lst (ys.dropLast++ [.ref t1,.ref t2]))=H12 at s12 f12⊢;have s812:=s811.trans s12;have s212:=s28.trans s812;refine⟨pc',(ys.dropLast++ [.ref t1])++ [.ref t2],(P.dropLast++ [(many,ms)])++ [(l0.1-many,l0.2)],_,_,_,_,rfl,by rw[Qa7];exact f12,?_,?_,?_,?_,s2.trans s212⟩
   ·exact Wg.snoc (Wg.snoc (g.pop.up s212.tups) ⟨t1,wq,rfl,(s10.trans (s11.trans s12)) _ _ f9,(s8.trans s812) _ _ f7⟩) ⟨t2,w0,rfl,(s11.trans s12) _ _ f10,s212 _ _ hw0⟩
   ·rw[Qae,Qae,QbY,hl];rfl
   ·rw[ZaZ,ZaZ,ZaD,ZaI,ZaD,ZaI];show tot P.dropLast+(many+0)+(l0.1-many+0)=n;omega
   ·intro e he;rcases Qap.mp he with he|he
    ·rcases Qap.mp he with he|he
     ·exact hP e (Qcu _ he)
     ·rw[Qal.mp he];exact⟨m0,em,nm⟩
    ·rw[Qal.mp he];exact⟨by show 0≤l0.1-many;omega,hm.2⟩
 ·clear hp g hl ht hP npb;rintro σ H2 ⟨pc,ys,P,x8,x9,x10,x11,rfl,hp,g,hl,ht,hP,s2⟩;exact ZiY hp g (by omega) fun b zs H' e1 e2 e3 s=>k b zs _ H' (s2.free e1) e2 e3 ⟨wd,P,rfl,by omega,w1,w2,hP,ht⟩ (s2.trans s)
def Zgq (K:FJ):Sp:=fun vs H Q _=>∃(n hd:Int)(a:Addr)(ns:List Int)(at0:Nat),vs=[.int n,.int hd,.ref a,.int (at0:Int)]∧SqL K H a (ns.map V.int)∧0≤n∧n<10^99∧∀(b:Addr)(ys:List V)(L:WL2)(H':Hp),H b=none→H' b=some (.lst ys)→Wg H' ys L→WOk n L→Zam H H'→Q (.ref b) H'
def ZsR (K:FJ):TS:=sQ1 (Zc0 (tQ1 1)) 4 (sQ1 (tOp (Zcu K) (Zc0 (Zaa (iQ1 1) (Zaa (iQ1 2) (Zaa (iQ1 3) (Zaa (iQ1 1) (Zaa (iQ1 2) (Zaa (iQ1 3) (Zaa (iQ1 5) (Zaa (iQ1 24) Zap))))))))) (Zau Zbd [] E0 (Zaa (Zag 4) (Zaa (iQ1 8) Zap)))) 5 (sQ1 (tOp (Zcu K) (Zc0 (Zaa (iQ1 7) (Zaa (iQ1 7) (Zaa (iQ1 4) (Zaa (tOp (rI ZtI fun i j=>V.int (i^j.toNat)) (iQ1 10) (iQ1 30)) Zap))))) (Zau Zbd [] E0 (Zaa (Zag 4) (Zaa (iQ1 4) Zap)))) 6 (sQ1 (Zc0 (Zaa (Zcr (Zaa (Zag 0) (Zaa (tCB (Jaj K) (Zaa (ZbU 1 (Zew (tQ1 5)) (Zan 0) Zes (iQ1 1)) Zap)) Zap))) Zap)) 7 (Zm0 K))))
theorem ZiZ {K:FJ}(hS:SqL K H a (ns.map V.int))(hn0:0≤n)(hn1:n<10^99)
  (k:∀(b:Addr)(ys:List V)(L:WL2)(H':Hp),H b=none→H' b=some (.lst ys)→Wg H' ys L→WOk n L→Zam H H'→Q (.ref b) H'):
  ZsR K {nx:=Z,rt:=Q } [some (.int n),some (.int hd),some (.ref a),some (.int (at0:Int)),none,none,none,none,none,none,none,none,none] H:=by
 refine⟨_,rfl,zL1,fun bg hbg=> ?_⟩;have s1:=Zam.nw (o:=.lst [.int hd]) (Zam.refl H) hbg;have b1:Bg (upd H bg (.lst [.int hd])) bg:=⟨hd,Zad⟩;generalize upd H bg (.lst [.int hd])=H1 at s1 b1⊢;refine⟨zL8,fun l1 hl1=> ?_⟩;have n1:=b1.ne hl1;have s2:=Zam.nw (o:=.lst [.int 1,.int 2,.int 3,.int 1,.int 2,.int 3,.int 5,.int 24]) (Zam.refl H1) hl1;have f2:(upd H1 l1 (.lst [.int 1,.int 2,.int 3,.int 1,.int 2,.int 3,.int 5,.int 24])) l1=some (.lst [.int 1,.int 2,.int 3,.int 1,.int 2,.int 3,.int 5,.int 24]):=Zad;generalize upd H1 l1 (.lst [.int 1,.int 2,.int 3,.int 1,.int 2,.int 3,.int 5,.int 24])=H2 at s2 f2⊢;refine⟨_,rfl,bg,8,rfl,b1.same s2,by decide,by decide,fun r H3 r0 r1 b3 u3 _=> ?_⟩;obtain⟨wd,e,w1,w2⟩:=Zq6 r0 r1;refine⟨l1,_,_,_,rfl,rfl,SqL.of (u3 _ _ f2 n1),e,?_⟩;have s3:Zam H H3:=(s1.trans s2).bu hbg u3;refine⟨_,_,rfl,rfl,⟨by decide,by decide,by decide⟩,zL4,fun l2 hl2=> ?_⟩;have n2:=b3.ne hl2;have s4:=Zam.nw (o:=.lst [.int 7,.int 7,.int 4,.int (10^(30:Int).toNat)]) (Zam.refl H3) hl2;have f4:(upd H3 l2 (.lst [.int 7,.int 7,.int 4,.int (10^(30:Int).toNat)])) l2=some (.lst [.int 7,.int 7,.int 4,.int (10^(30:Int).toNat)]):=Zad;change Zau Zbd [] E0 _ _ (upd H3 l2 (.lst [.int 7,.int 7,.int 4,.int (10^(30:Int).toNat)])) _;generalize upd H3 l2 (.lst [.int 7,.int 7,.int 4,.int (10^(30:Int).toNat)])=H4 at s4 f4⊢;refine⟨_,rfl,bg,4,rfl,b3.same s4,by decide,by decide,fun r' H5 r0' r1' b5 u5 _=> ?_⟩;obtain⟨hi,e',hi0,hi1⟩:=Zq7 r0' r1';refine⟨l2,_,_,_,rfl,rfl,SqL.of (u5 _ _ f4 n2),e',?_⟩;have s5:Zam H H5:=(s3.trans s4).bu hbg u5;refine⟨_,rfl,_,rfl,(wd:Int),rfl,by omega,by omega,?_⟩;rw[QbR];refine Zou (n:=wd) (fun i zs H'=>zs=(List.replicate i (1:Int)).map V.int∧H'=H5) ⟨rfl,rfl⟩ (by omega) (fun i zs H' h=>by rw[h.1,Qaf,QaT];exact Qai _) ?_ ?_
 ·rintro i zs H' pre qc hi' ⟨rfl,rfl⟩;rcases pre with _|⟨p0,_|⟨p1,pre⟩⟩
  ·cases qc
  ·refine⟨⟨[some _],rfl,rfl⟩,?_⟩;unfold Zes;dsimp only;rw[Qp (rfl:true=true)];exact⟨by rw[Qcd,Qau];rfl,rfl⟩
  ·cases qc
 ·rintro zs H' ⟨rfl,rfl⟩ D hD;refine⟨D,_,rfl,.inl ⟨SqL.of Zad,fun wq hwq=> ?_⟩⟩;have s6:=Zam.nw (o:=.lst ((List.replicate wd (1:Int)).map V.int)) (Zam.refl H') hD;generalize upd H' D (.lst ((List.replicate wd (1:Int)).map V.int))=H6 at s6 hwq⊢;have s7:=Zam.nw (o:=.tup ((List.replicate wd (1:Int)).map V.int)) (Zam.refl H6) hwq;have f7:(upd H6 wq (.tup ((List.replicate wd (1:Int)).map V.int))) wq=some (.tup ((List.replicate wd (1:Int)).map V.int)):=Zad;generalize upd H6 wq (.tup ((List.replicate wd (1:Int)).map V.int))=H7 at s7 f7⊢;refine⟨zL2,fun t ht=> ?_⟩;have s8:=Zam.nw (o:=.tup [.int n,.ref wq]) (Zam.refl H7) ht;have f8:(upd H7 t (.tup [.int n,.ref wq])) t=some (.tup [.int n,.ref wq]):=Zad;generalize upd H7 t (.tup [.int n,.ref wq])=H8 at s8 f8⊢;refine⟨zL1,fun pc hpc=> ?_⟩;have b8:=b5.same (s6.trans (s7.trans s8));have npb:=b8.ne hpc;have s9:=Zam.nw (o:=.lst [.ref t]) (Zam.refl H8) hpc;have f9:(upd H8 pc (.lst [.ref t])) pc=some (.lst [.ref t]):=Zad;generalize upd H8 pc (.lst [.ref t])=H9 at s9 f9⊢;refine ZhT (P:=[(n,List.replicate wd (1:Int))]) hS (s5.trans (s6.trans (s7.trans (s8.trans s9)))) hbg (b8.same s9) f9 npb ((Wg.nil H9).snoc ⟨t,wq,rfl,s9 _ _ f8,(s8.trans s9) _ _ f7⟩) rfl (by rw[ZaD,ZaI];exact QbB _) (fun e he=>by rw[Qal.mp he];exact⟨hn0,QaT,fun z hz=>by rw[(List.mem_replicate.mp hz).2];decide⟩) w1 w2 hi0 hi1 hn1 k
def ZdH (n:Int)(p:PR):Prop:=0≤p.1∧p.1≤p.2.1∧1≤p.2.2.1∧p.2.1+p.2.2.1≤n
def Zi0 (K:FJ):Sp:=fun vs H Q _=>∃(n hd:Int)(a:Addr)(ns:List Int)(at0:Nat),vs=[.int n,.int hd,.ref a,.int (at0:Int)]∧SqL K H a (ns.map V.int)∧1≤n∧∀(p:Addr)(pr:PR)(H':Hp),H p=none→H' p=some (.tup (pV pr))→ZdH n pr→Zam H H'→Q (.ref p) H'
abbrev Jac:=fun xs H Q=>∃i j,xs=[V.int i,V.int j]∧Q (V.int (if j<i then j else i)) H
abbrev Jae:=fun xs H Q=>∃i j,xs=[V.int i,V.int j]∧Q (V.int (if j>i then j else i)) H
def Zko (K:FJ):TS:=(ZaL (Zeq (tOr (ZbE (tOp rEq (Zag 5) (iQ1 2))) (ZbE (tOp rEq (Zag 5) (iQ1 3)))) (ZaW (tOp Jad (Zag 0) (Zag 6)) (Zan 8)) ZcK) (ZbB (Zcr (Zaa (tCB Jac (Zaa (Zag 7) (tQ1 8))) (Zaa (tCB Jae (Zaa (Zag 7) (tQ1 8))) (Zaa (Zag 6) (Zaa (tOp rEq (Zau Zbd [] E0 (Zaa (Zag 4) (Zaa (iQ1 2) Zap))) (iQ1 1)) Zap)))))))
def Zqg (K:FJ):TS:=(sQ1 (tOp Jag (Zau (Zdy K) [] E0 (Zaa (Zag 2) (Zaa (tOp Jaa (Zag 3) (iQ1 1)) Zap))) (tOp Jaa (tOp Jad (Zag 0) (Zag 6)) (iQ1 1))) 7 (sQ1 (tOp Jag (Zau (Zdy K) [] E0 (Zaa (Zag 2) (Zaa (tOp Jaa (Zag 3) (iQ1 2)) Zap))) (tOp Jaa (tOp Jad (Zag 0) (Zag 6)) (iQ1 1))) 8 (ZaL (Zeq (tOr (ZbE (tOp rEq (Zag 5) (iQ1 1))) (ZbE (tOp rEq (Zag 5) (iQ1 4)))) (ZaW (tCB Jac (Zaa (tOp Jad (Zag 0) (Zag 6)) (Zaa (tOp Jaa (tOp Jaa (Zag 7) (iQ1 1)) (tOp Jag (Zag 8) (Zag 6))) Zap))) (Zan 8)) ZcK) (Zko K))))
def ZsS (K:FJ):TS:=sQ1 (Zc0 (tQ1 1)) 4 (sQ1 (Zau Zbd [] E0 (Zaa (Zag 4) (Zaa (iQ1 8) Zap))) 5 (sQ1 (tOp Jaa (iQ1 1) (tOp Jag (Zau (Zdy K) [] E0 (Zaa (Zag 2) (tQ1 3))) (tOp (Zcu K) (Zc0 (Zaa (Zag 0) (Zaa (Zag 0) (Zaa (Zag 0) (Zaa (tCB Jae (Zaa (iQ1 1) (Zaa (tOp Jas (Zag 0) (iQ1 2)) Zap))) (Zaa (tCB Jae (Zaa (iQ1 1) (Zaa (tOp Jas (Zag 0) (iQ1 3)) Zap))) (Zaa (tCB Jac (Zaa (Zag 0) (Zaa (iQ1 4) Zap))) (Zaa (Zag 0) (Zaa (tCB Jac (Zaa (Zag 0) (Zaa (iQ1 2) Zap))) Zap))))))))) (Zag 5)))) 6 (Zqg K)))
theorem ZoU (hn:1≤n)(h0:0≤r)(h1:r<8):∃z:Int,atI [V.int n,V.int n,V.int n,V.int (if n/2>1 then n/2 else 1),V.int (if n/3>1 then n/3 else 1),V.int (if(4:Int)<n then 4 else n),V.int n,V.int (if(2:Int)<n then 2 else n)] r=some (.int z)∧1≤z∧z≤n:=by
 have hc:r=0∨r=1∨r=2∨r=3∨r=4∨r=5∨r=6∨r=7:=by omega
 rcases hc with rfl|rfl|rfl|rfl|rfl|rfl|rfl|rfl
 ·exact⟨_,rfl,hn,QaL _⟩
 ·exact⟨_,rfl,hn,QaL _⟩
 ·exact⟨_,rfl,hn,QaL _⟩
 ·exact⟨_,rfl,by split<;>omega,by split<;>omega⟩
 ·exact⟨_,rfl,by split<;>omega,by split<;>omega⟩
 ·exact⟨_,rfl,by split<;>omega,by split<;>omega⟩
 ·exact⟨_,rfl,hn,QaL _⟩
 ·exact⟨_,rfl,by split<;>omega,by split<;>omega⟩
theorem Zt6 :ZfB i 3:=⟨by decide,Zgp (m:=3) (by decide) (by decide)⟩
theorem ZsT :ZfB i 2:=⟨by decide,Zgp (m:=2) (by decide) (by decide)⟩
theorem Zi1 {K:FJ}{one oth:Int}{x1 x2 x3:Option V}(s0:Zam H0 H)(hf:H0 bg=none)(hb:Bg H bg)(l1:1≤lg)(l2:lg≤n)(o1:0≤one)(o2:one≤n-lg)(p1:0≤oth)(p2:oth≤n-lg)
  (k:∀(p:Addr)(pr:PR)(H':Hp),H0 p=none→H' p=some (.tup (pV pr))→ZdH n pr→Zam H0 H'→Q (.ref p) H'):
  Zko K {nx:=Z,rt:=Q } [some (.int n),x1,x2,x3,some (.ref bg),some (.int wy),some (.int lg),some (.int one),some (.int oth)] H:=by
 have fin:∀oth:Int,0≤oth→oth≤n-lg→(ZbB (Zcr (Zaa (tCB (fun xs H Q=>∃i j,xs=[V.int i,V.int j]∧Q (V.int (if j<i then j else i)) H) (Zaa (Zag 7) (Zaa (Zag 8) Zap))) (Zaa (tCB (fun xs H Q=>∃i j,xs=[V.int i,V.int j]∧Q (V.int (if j>i then j else i)) H) (Zaa (Zag 7) (Zaa (Zag 8) Zap))) (Zaa (Zag 6) (Zaa (tOp rEq (Zau Zbd [] E0 (Zaa (Zag 4) (Zaa (tC (V.int 2)) Zap))) (tC (V.int 1))) Zap)))))) {nx:=Z,rt:=Q } [some (.int n),x1,x2,x3,some (.ref bg),some (.int wy),some (.int lg),some (.int one),some (.int oth)] H:=fun oth p1 p2=>by
  refine⟨_,rfl,_,rfl,_,_,rfl,_,rfl,_,rfl,_,_,rfl,_,rfl,_,rfl,bg,2,rfl,hb,by decide,by decide,fun r H1 _ _ b1 u1 _=>⟨rfl,zL4,fun p hp=> ?_⟩⟩;have s1:Zam H0 H1:=s0.bu hf u1;refine k p (if oth<one then oth else one,if oth>one then oth else one,lg,decide (V.int r=V.int 1)) _ (s1.free hp) Zad ⟨?_,?_,l1,?_⟩ (Zam.nw s1 hp)
  ·show 0≤if oth<one then oth else one;split<;>omega
  ·show(if oth<one then oth else one)≤if oth>one then oth else one;split<;>split<;>omega
  ·show(if oth>one then oth else one)+lg≤n;split<;>omega
 refine⟨_,rfl,rfl,_,rfl,Zfx (fun _=>Zcl ⟨_,rfl,_,rfl,_,_,rfl,rfl,fin _ (by omega) (by omega)⟩) (fun _=>⟨_,rfl,rfl,_,rfl,Zfx (fun _=>⟨_,rfl,_,rfl,_,_,rfl,rfl,fin _ (by omega) (by omega)⟩) (fun _=>fin _ p1 p2)⟩)⟩
theorem Zi2 {K:FJ}{H3:Hp}(hS:SqL K H a (ns.map V.int))(s3:Zam H H3)(hbg:H bg=none)(b3:Bg H3 bg)(l1:1≤lg)(l2:lg≤n)
  (k:∀(p:Addr)(pr:PR)(H':Hp),H p=none→H' p=some (.tup (pV pr))→ZdH n pr→Zam H H'→Q (.ref p) H'):
  Zqg K {nx:=Z,rt:=Q } [some (.int n),some (.int hd),some (.ref a),some (.int (at0:Int)),some (.ref bg),some (.int wy),some (.int lg),none,none] H3:=by
 refine⟨_,rfl,_,rfl,_,_,rfl,rfl,a,ns,at0+1,rfl,s3.seq hS,fun g1 hg1=>⟨_,rfl,_,rfl,_,_,rfl,rfl,_,_,rfl,rfl,_,_,rfl,rfl,(by show 0<n-lg+1;omega),?_⟩⟩;refine⟨_,rfl,_,rfl,_,_,rfl,rfl,a,ns,at0+2,rfl,s3.seq hS,fun g2 hg2=>⟨_,rfl,_,rfl,_,_,rfl,rfl,_,_,rfl,rfl,_,_,rfl,rfl,(by show 0<n-lg+1;omega),?_⟩⟩;have i0:=QaX g1 (show n-lg+1≠0 by omega);have i1:=QaQ g1 (show 0<n-lg+1 by omega);have j0:=QaX g2 (show n-lg+1≠0 by omega);have j1:=QaQ g2 (show 0<n-lg+1 by omega);have q0:=QaX (g2%(n-lg+1)) (show lg≠0 by omega);have fin:∀oth:Int,0≤oth→oth≤n-lg→Zko K {nx:=Z,rt:=Q } [some (.int n),some (.int hd),some (.ref a),some (.int (at0:Int)),some (.ref bg),some (.int wy),some (.int lg),some (.int (g1%(n-lg+1))),some (.int oth)] H3:=fun oth p1 p2=>Zi1 s3 hbg b3 l1 l2 i0 (by omega) p1 p2 k
 have asg:∀D:ZlJ,D={nx:=Zko K {nx:=Z,rt:=Q },rt:=Q }→(ZaW (tCB (fun xs H Q=>∃i j,xs=[V.int i,V.int j]∧Q (V.int (if j<i then j else i)) H) (Zaa (tOp (rI0 fun i j=>V.int (i-j)) (Zag 0) (Zag 6)) (Zaa (tOp (rI0 fun i j=>V.int (i+j)) (tOp (rI0 fun i j=>V.int (i+j)) (Zag 7) (tC (V.int 1))) (tOp (rI (fun x j=>0<j) fun i j=>V.int (i%j)) (Zag 8) (Zag 6))) Zap))) (Zan 8)) D [some (.int n),some (.int hd),some (.ref a),some (.int (at0:Int)),some (.ref bg),some (.int wy),some (.int lg),some (.int (g1%(n-lg+1))),some (.int (g2%(n-lg+1)))] H3:=fun D eD=>by
  subst eD;refine⟨_,rfl,_,rfl,_,_,rfl,rfl,_,rfl,_,_,rfl,rfl,_,rfl,_,rfl,_,_,rfl,rfl,(by show 0<lg;omega),_,_,rfl,rfl,_,_,rfl,fin _ ?_ ?_⟩
  ·split<;>omega
  ·split<;>omega
 refine⟨_,rfl,rfl,_,rfl,Zfx (fun _=>Zcl (asg _ rfl)) (fun _=>⟨_,rfl,rfl,_,rfl,Zfx (fun _=>asg _ rfl) (fun _=>fin _ j0 (by omega))⟩)⟩
theorem Zi3 {K:FJ}(hS:SqL K H a (ns.map V.int))(hn:1≤n)
  (k:∀(p:Addr)(pr:PR)(H':Hp),H p=none→H' p=some (.tup (pV pr))→ZdH n pr→Zam H H'→Q (.ref p) H'):
  ZsS K {nx:=Z,rt:=Q } [some (.int n),some (.int hd),some (.ref a),some (.int (at0:Int)),none,none,none,none,none] H:=by
 refine⟨_,rfl,zL1,fun bg hbg=> ?_⟩;have s1:=Zam.nw (o:=.lst [.int hd]) (Zam.refl H) hbg;have b1:Bg (upd H bg (.lst [.int hd])) bg:=⟨hd,Zad⟩;generalize upd H bg (.lst [.int hd])=H1 at s1 b1⊢;refine⟨_,rfl,bg,8,rfl,b1,by decide,by decide,fun wy H2 r0 r1 b2 u2 _=> ?_⟩;have s2:Zam H H2:=s1.bu hbg u2;refine⟨_,rfl,_,rfl,a,ns,at0,rfl,s2.seq hS,fun g0 hg0=> ?_⟩;obtain⟨z,ez,z1,z2⟩:=ZoU hn r0 r1;refine⟨_,rfl,_,rfl,_,rfl,_,rfl,_,_,rfl,rfl,ZsT,_,_,rfl,_,rfl,_,_,rfl,rfl,Zt6,_,_,rfl,_,rfl,_,_,rfl,_,rfl,_,rfl,_,_,rfl,zL8,fun l hl=>⟨_,rfl,l,_,_,_,rfl,rfl,SqL.of Zad,ez,_,_,rfl,rfl,(by show 0<z;omega),_,_,rfl,rfl,Zi2 (lg:=1+g0%z) hS (Zam.nw s2 hl) hbg (b2.same (Zam.nw (Zam.refl H2) hl)) (by have:=QaX g0 (show z≠0 by omega);omega) (by have:=QaQ g0 (show 0<z by omega);omega) k⟩⟩
def Zi4:Sp:=fun vs H Q _=>∃i:Int,vs=[.int i]∧Q (.bl true) H
def ZuN (K:FJ):TS:=ZbB (Zc2 (tCB (fun xs H Q=>∃x t b,xs=[x,V.ty "int"]∧Zfw K H x t∧PySem.W.kitOne K t (Value.type "int")=some b∧Q (V.bl b) H) (Zaa (Zag 0) (Zaa (tC (V.ty "int")) Zap))) (Ziy (tCB (fun xs H Q=>∃x t b,xs=[x,V.ty "bool"]∧Zfw K H x t∧PySem.W.kitOne K t (Value.type "bool")=some b∧Q (V.bl b) H) (Zaa (Zag 0) (Zaa (tC (V.ty "bool")) Zap)))))
theorem ZhU {K:FJ}(k:Q (.bl true) H):ZuN K {nx:=Z,rt:=Q } [some (.int i)] H:=
 ⟨_,rfl,V.int i,_,_,rfl,.int _,Zsj,_,rfl,Zcl ⟨_,rfl,V.int i,_,_,rfl,.int _,Zsi,_,rfl,k⟩⟩
def ZsU:TS:=ZbB (Zc2 (Zau Zi4 [] E0 (tQ1 0)) (tOp Jay (Zag 0) (Zag 1)))
theorem Zi5 {l:Int}(k:Q (.bl (decide (l≤i))) H):ZsU {nx:=Z,rt:=Q } [some (.int i),some (.int l)] H:=
 ⟨_,rfl,i,rfl,_,rfl,Zcl ⟨_,rfl,_,rfl,_,_,rfl,rfl,k⟩⟩
theorem ZoV (n:Int)(ps:List PR)(L:WL2):PyData.eqv (Zk5 n (ps.map pV) L) (Zk5 n (ps.map pV) L)=true:=SeqAt.eqv_refl _ (Ze6 _ _ _)
theorem ZoW (n:Int)(ps:List PR)(L:WL2):(Zk5 n (ps.map pV) L).depth≤60:=by
 show max 0 (max (PyData.depthAll ((ps.map pV).map dCp)+1) (max (PyData.depthAll (L.map dE)+1) 0))+1≤60
 have:=Zkn (ps.map pV)
 have:=ZiH L;omega
abbrev DR:=Hp→V→Int→List PR→WL2→Option Out→Prop
def foB (p:PR):Bool:=p.2.2.2 && (decide (p.2.1<p.1+p.2.2.1) && !goB p)
def foM (p:PR):Int:=(p.1+p.2.1+p.2.2.1-1+1)/2-p.1
def foP (p:PR):PR:=(p.1,p.1+p.2.1+p.2.2.1-1+1-p.1-foM p,foM p,true)
def Zdb:Sp:=fun vs H Q _=>∃(q:Addr)(p:PR),vs=[.ref q]∧H q=some (.tup (pV p))∧Q (.bl (foB p)) H
def ZoX (K:FJ):TS:=ZaL (Jat K) (ZbB (Zc2 (Zag 4) (Zc2 (tOp Jai (Zag 2) (tOp Jaa (Zag 1) (Zag 3))) (Ziy (Zau ZdG [] E0 (tQ1 0))))))
theorem Zgr {K:FJ}{p:PR}(hq:H q=some (.tup (pV p)))(k:Q (.bl (foB p)) H):ZoX K {nx:=Z,rt:=Q } [some (.ref q),none,none,none,none] H:=by
 obtain⟨l,h,g,t⟩:=p;refine⟨_,rfl,q,_,rfl,SqT.of hq,rfl,_,_,rfl,_,_,rfl,_,_,rfl,_,_,rfl,rfl,?_⟩;refine⟨_,rfl,t,rfl,?_⟩
 cases t with
 |false=>exact Zcd k
 |true=>
  have e:foB (l,h,g,true)=(decide (h<l+g) && !goB (l,h,g,true)):=rfl;rw[e] at k;refine Zcl ⟨_,rfl,_,rfl,_,rfl,_,_,rfl,rfl,_,_,rfl,rfl,_,rfl,?_⟩
  cases hd:decide (h<l+g) with
  |false=>rw[hd] at k;exact Zcd k
  |true=>
   rw[hd] at k;exact Zcl ⟨_,rfl,q,_,rfl,hq,_,rfl,k⟩
def Zgs:Sp:=fun vs H Q _=>∃(q:Addr)(p:PR),vs=[.ref q]∧H q=some (.tup (pV p))∧∀(r:Addr)(H':Hp),H r=none→Zam H H'→H' r=some (.tup (pV (foP p)))→Q (.ref r) H'
def Zq8 (K:FJ):TS:=ZaL (Jat K) (sQ1 (tOp Jad (tOp Jaa (tOp Jaa (Zag 1) (Zag 2)) (Zag 3)) (iQ1 1)) 5 (sQ1 (tOp Jad (tOp Jas (tOp Jaa (Zag 5) (iQ1 1)) (iQ1 2)) (Zag 1)) 6 (ZbB (Zcr (Zaa (Zag 1) (Zaa (tOp Jad (tOp Jad (tOp Jaa (Zag 5) (iQ1 1)) (Zag 1)) (Zag 6)) (Zaa (Zag 6) (Zaa (tC (V.bl true)) Zap))))))))
theorem ZhV {K:FJ}{p:PR}(hq:H q=some (.tup (pV p)))(k:∀(r:Addr)(H':Hp),H r=none→Zam H H'→H' r=some (.tup (pV (foP p)))→Q (.ref r) H'):Zq8 K {nx:=Z,rt:=Q } [some (.ref q),none,none,none,none,none,none] H:=by
 obtain⟨l,h,g,t⟩:=p;refine⟨_,rfl,q,_,rfl,SqT.of hq,rfl,_,_,rfl,_,_,rfl,_,_,rfl,_,_,rfl,rfl,?_⟩;refine⟨_,rfl,_,rfl,_,_,rfl,rfl,_,rfl,_,_,rfl,rfl,_,_,rfl,rfl,?_⟩;refine⟨_,rfl,_,_,rfl,rfl,_,_,rfl,rfl,ZsT,_,rfl,_,_,rfl,rfl,?_⟩;refine⟨_,rfl,_,rfl,_,_,rfl,rfl,_,rfl,_,_,rfl,rfl,_,rfl,_,_,rfl,rfl,_,rfl,zL4,fun r hr=> ?_⟩;exact k r _ hr (Zam.nw (Zam.refl H) hr) Zad
def Zbe:Sp:=fun vs H Q _=>∃(q:Addr)(p:PR),vs=[.ref q]∧H q=some (.tup (pV p))∧Q (.int (p.2.1+p.2.2.1)) H
def ZsV (K:FJ):TS:=ZbB (tOp Jaa (tOp (ZbO K) (Zag 0) (iQ1 1)) (tOp (ZbO K) (Zag 0) (iQ1 2)))
theorem Zi6 {K:FJ}{p:PR}(hq:H q=some (.tup (pV p)))(k:Q (.int (p.2.1+p.2.2.1)) H):ZsV K {nx:=Z,rt:=Q } [some (.ref q)] H:=
 ⟨_,rfl,q,_,_,_,rfl,rfl,SqT.of hq,rfl,_,rfl,q,_,_,_,rfl,rfl,SqT.of hq,rfl,_,_,rfl,rfl,k⟩
def Zbt:Sp:=fun vs H Q _=>∃(q:Addr)(p:PR),vs=[.ref q]∧H q=some (.tup (pV p))∧Q (.int (p.2.1-p.1)) H
abbrev Jap (K:FJ):=tOp (ZbO K) (Zag 0) (tC (V.int 0))
def ZoY (K:FJ):TS:=ZbB (tOp Jad (tOp (ZbO K) (Zag 0) (iQ1 1)) (Jap K))
theorem Zgt {K:FJ}{p:PR}(hq:H q=some (.tup (pV p)))(k:Q (.int (p.2.1-p.1)) H):ZoY K {nx:=Z,rt:=Q } [some (.ref q)] H:=
 ⟨_,rfl,q,_,_,_,rfl,rfl,SqT.of hq,rfl,_,rfl,q,_,_,_,rfl,rfl,SqT.of hq,rfl,_,_,rfl,rfl,k⟩
def itB (p:PR):Bool:=!p.2.2.2 && (decide (p.1<p.2.1) && decide (p.2.1≤p.1+p.2.2.1))
def Zdn:Sp:=fun vs H Q _=>∃(q:Addr)(p:PR),vs=[.ref q]∧H q=some (.tup (pV p))∧Q (.bl (itB p)) H
abbrev Jan:=rI0 fun i j=>V.bl (decide (i≤j))
def ZoZ (K:FJ):TS:=ZaL (Jat K) (ZbB (Zc2 (Ziy (Zag 4)) (Zj2 Jai Jan (Zag 1) (Zag 2) (tOp Jaa (Zag 1) (Zag 3)))))
theorem Zgu {K:FJ}{p:PR}(hq:H q=some (.tup (pV p)))(k:Q (.bl (itB p)) H):ZoZ K {nx:=Z,rt:=Q } [some (.ref q),none,none,none,none] H:=by
 obtain⟨l,h,g,t⟩:=p;refine⟨_,rfl,q,_,rfl,SqT.of hq,rfl,_,_,rfl,_,_,rfl,_,_,rfl,_,_,rfl,rfl,?_⟩;refine⟨_,rfl,t,rfl,_,rfl,?_⟩;have e:itB (l,h,g,t)=(!t && (decide (l<h) && decide (h≤l+g))):=rfl;rw[e] at k
 cases t with
 |true=>exact Zcd k
 |false=>
  refine Zcl ⟨_,rfl,_,rfl,_,_,rfl,rfl,_,rfl,?_⟩
  cases hd:decide (l<h) with
  |false=>rw[hd] at k;exact Zcd k
  |true=>rw[hd] at k;exact Zcl ⟨_,rfl,_,rfl,_,_,rfl,rfl,_,_,rfl,rfl,k⟩
theorem Zqh {p:PR}(h:itB p=true):p.1<p.2.1:=by
 unfold itB at h;simp only[QaK,Qcf] at h;exact h.2.1
def Zq9:Sp:=fun vs H Q _=>∃(a b:Nat),vs=[.int (a:Int),.int (b:Int)]∧Q (.int (Nat.gcd a b:Nat)) H
def ZuB (K:FJ):TS:=ZaL (Zer (fun σ H_1 Q=>Zag 1 σ H_1 fun x H'=>∃k,Zr9 K x H' k∧Q k H') (Zuw 0 1 (Zaa (Zag 1) (Zaa (tOp Jag (Zag 0) (Zag 1)) Zap)))) (ZbB (Zag 0))
theorem Zm1 {K:FJ}{a b:Nat}(k:Q (.int (Nat.gcd a b:Nat)) H):ZuB K {nx:=Z,rt:=Q } [some (.int (a:Int)),some (.int (b:Int))] H:=by
 unfold ZuB ZaL;refine Zj1 (fun σ H'=>∃x y:Nat,σ=[some (.int (x:Int)),some (.int (y:Int))]∧Nat.gcd x y=Nat.gcd a b∧H'=H) (fun σ _=>match σ with| [_,some (.int y)]=>y.toNat|_=>0) ⟨a,b,rfl,rfl,rfl⟩ ?_ ?_
 ·rintro σ H' ⟨x,y,rfl,e,rfl⟩;refine⟨_,rfl,((y:Int) !=0),rfl,?_⟩;by_cases hy:y=0
  ·rw[show((y:Int) !=0)=false by simp[hy]];refine Zcd ⟨_,rfl,?_⟩;rw[hy,Nat.gcd_zero_right] at e;rw[e];exact k
  ·rw[show((y:Int) !=0)=true by simp[hy]];refine Zcl ⟨_,rfl,_,rfl,_,rfl,_,_,rfl,rfl,(by show(0:Int)<y;omega),_,_,rfl,⟨y,x%y,rfl,?_,rfl⟩,?_⟩
   ·rw[←e,QeX x y,Nat.gcd_rec y x,QeX]
   ·show((x:Int) %(y:Int)).toNat<(y:Int).toNat
    have:=QaQ (x:Int) (show(0:Int)<y by omega)
    have:=QaX (x:Int) (show(y:Int)≠0 by omega);omega
 ·rintro σ H' Q1 Q2 hq ⟨v,h1,c,h2,h3⟩;exact⟨v,h1,c,h2,hq _ _ h3⟩
def mnI (i j:Int):Int:=if j<i then j else i
def mxI (i j:Int):Int:=if j>i then j else i
def mjB (p q:PR):Bool:=itB p && (itB q && decide ((p.2.1-p.1)+(q.2.1-q.1)≤mnI (p.2.1+p.2.2.1) (q.2.1+q.2.2.1)-mxI p.1 q.1))
def joP (p q:PR):PR:=(mnI p.1 q.1,mnI p.1 q.1+(Nat.gcd (p.2.1-p.1).toNat (q.2.1-q.1).toNat:Nat),mxI (p.2.1+p.2.2.1) (q.2.1+q.2.2.1)-mnI p.1 q.1-(Nat.gcd (p.2.1-p.1).toNat (q.2.1-q.1).toNat:Nat),false)
def Zdc:Sp:=fun vs H Q _=>∃(a b:Addr)(p q:PR),vs=[.ref a,.ref b]∧H a=some (.tup (pV p))∧H b=some (.tup (pV q))∧Q (.bl (mjB p q)) H
abbrev Jau:=Zau Zbe [] E0 (Zaa (Zag 0) Zap)
abbrev Jaw (K:FJ):=tOp (ZbO K) (Zag 1) (tC (V.int 0))
abbrev JaA:=Zau Zbe [] E0 (Zaa (Zag 1) Zap)
def Zo0 (K:FJ):TS:=ZaL (Zeq (tOr (Zn8 (tB (Zau Zdn [] E0 (tQ1 0)))) (Zn8 (tB (Zau Zdn [] E0 (tQ1 1))))) (ZbB (tC (V.bl false))) ZcK) (sQ1 (tOp Jad (tCB Jac (Zaa Jau (Zaa JaA Zap))) (tCB Jae (Zaa (Jap K) (Zaa (Jaw K) Zap)))) 2 (ZbB (tOp Jay (Zag 2) (tOp Jaa (Zau Zbt [] E0 (tQ1 0)) (Zau Zbt [] E0 (tQ1 1))))))
theorem Zgv {K:FJ}{b:Addr}{p q:PR}(ha:H a=some (.tup (pV p)))(hb:H b=some (.tup (pV q)))(k:Q (.bl (mjB p q)) H):Zo0 K {nx:=Z,rt:=Q } [some (.ref a),some (.ref b),none] H:=by
 refine⟨_,rfl,a,p,rfl,ha,_,rfl,?_⟩;unfold mjB at k
 cases h1:itB p with
 |false=>rw[h1] at k;exact Zcl (Zcl k)
 |true=>
  rw[h1] at k;refine Zcd ⟨_,rfl,b,q,rfl,hb,_,rfl,?_⟩
  cases h2:itB q with
  |false=>rw[h2] at k;exact Zcl k
  |true=>
   rw[h2] at k;refine Zcd ⟨_,rfl,a,p,rfl,ha,_,rfl,b,q,rfl,hb,_,_,rfl,_,rfl,a,_,_,_,rfl,rfl,SqT.of ha,rfl,_,rfl,b,_,_,_,rfl,rfl,SqT.of hb,rfl,_,_,rfl,_,_,rfl,rfl,?_⟩;exact⟨_,rfl,_,rfl,a,p,rfl,ha,_,rfl,b,q,rfl,hb,_,_,rfl,rfl,_,_,rfl,rfl,k⟩
def Zgw:Sp:=fun vs H Q _=>∃(a b:Addr)(p q:PR),vs=[.ref a,.ref b]∧H a=some (.tup (pV p))∧H b=some (.tup (pV q))∧mjB p q=true∧∀(r:Addr)(H':Hp),H r=none→Zam H H'→H' r=some (.tup (pV (joP p q)))→Q (.ref r) H'
theorem ZsW {p q:PR}(h:mjB p q=true):p.1<p.2.1∧q.1<q.2.1:=by
 unfold mjB at h;simp only[QaK] at h;exact⟨Zqh h.1,Zqh h.2.1⟩
def Zra (K:FJ):TS:=sQ1 (Zau Zq9 [] E0 (Zaa (Zau Zbt [] E0 (tQ1 0)) (Zaa (Zau Zbt [] E0 (tQ1 1)) Zap))) 2 (sQ1 (tCB Jac (Zaa (Jap K) (Zaa (Jaw K) Zap))) 3 (sQ1 (tCB Jae (Zaa Jau (Zaa JaA Zap))) 4 (ZbB (Zcr (Zaa (Zag 3) (Zaa (tOp Jaa (Zag 3) (Zag 2)) (Zaa (tOp Jad (tOp Jad (Zag 4) (Zag 3)) (Zag 2)) (Zaa (tC (V.bl false)) Zap))))))))
theorem ZhW {K:FJ}{b:Addr}{p q:PR}(ha:H a=some (.tup (pV p)))(hb:H b=some (.tup (pV q)))(m:mjB p q=true)(k:∀(r:Addr)(H':Hp),H r=none→Zam H H'→H' r=some (.tup (pV (joP p q)))→Q (.ref r) H'):Zra K {nx:=Z,rt:=Q } [some (.ref a),some (.ref b),none,none,none] H:=by
 obtain⟨h1,h2⟩:=ZsW m;have e1:p.2.1-p.1=((p.2.1-p.1).toNat:Int):=by omega
 have e2:q.2.1-q.1=((q.2.1-q.1).toNat:Int):=by omega
 refine⟨_,rfl,a,p,rfl,ha,_,rfl,b,q,rfl,hb,(p.2.1-p.1).toNat,(q.2.1-q.1).toNat,?_,?_⟩
 ·show [V.int (p.2.1-p.1),V.int (q.2.1-q.1)]=_;rw[←e1,←e2]
 refine⟨_,rfl,a,_,_,_,rfl,rfl,SqT.of ha,rfl,_,rfl,b,_,_,_,rfl,rfl,SqT.of hb,rfl,_,_,rfl,?_⟩;refine⟨_,rfl,a,p,rfl,ha,_,rfl,b,q,rfl,hb,_,_,rfl,?_⟩;refine⟨_,rfl,_,rfl,_,rfl,_,_,rfl,rfl,_,rfl,_,rfl,_,_,rfl,rfl,_,rfl,_,_,rfl,rfl,zL4,fun r hr=> ?_⟩;exact k r _ hr (Zam.nw (Zam.refl H) hr) Zad
theorem Zo1 {α:Type}(xs ys z:List α){k:Nat}(h:j<k)(hk:k≤xs.length):(xs.take k++ []++ys).take j++z++(xs.take k++ []++ys).drop (j+1)=xs.take j++z++((xs.take k).drop (j+1)++ys):=by
 rw[Qa5,Qdn (by rw[Qax];omega),List.take_take,Qci (by omega),Qdo (by rw[Qax];omega)]
theorem Zk9 (acc:List (Int×List Int))(e:Int×List Int):(ZaV acc e).length≤acc.length+1:=by
 unfold ZaV;split
 ·split
  ·split
   ·rw[Qae,QbY,QaJ];omega
   ·rw[Qae,QaJ];exact Qai _
  ·rw[Qae,QaJ];exact Qai _
 ·omega
theorem Zb7 (L:List (Int×List Int)):(ZaM L).length≤L.length:=by
 have key:∀(L acc:List (Int×List Int)),(L.foldl ZaV acc).length≤acc.length+L.length:=by
  intro L
  induction L with
  |nil=>intro acc;exact Qai _
  |cons e L ih=>
   intro acc;rw[QbX,QaB]
   have:=ih (ZaV acc e)
   have:=Zk9 acc e;omega
 have:=key L [];unfold ZaM;simpa using this
def Ly (H:Hp)(zs:List V)(L:WL)(bg:Int):Prop:=zs.length=L.length∧∀i e,L[i]?=some e→∃p wq,zs[i]?=some (V.ref p)∧H p=some (.tup [.int (bg+tot (L.take i)),.int (bg+tot (L.take (i+1))),.ref wq])∧H wq=some (.tup (e.2.map V.int))
theorem Ly.up {zs:List V}{L:WL}{bg:Int}(h:Ly H zs L bg)(t:Za7 H H'):Ly H' zs L bg:=⟨h.1,fun i e he=>by
 obtain⟨p,wq,a,b,c⟩:=h.2 i e he
 exact⟨p,wq,a,t _ _ b,t _ _ c⟩⟩
def Zcy (K:FJ):Sp:=fun vs H Q _=>∃(a:Addr)(xs:List V)(L:List (Int×List Int)),vs=[.ref a]∧SqL K H a xs∧Wg H xs L∧L.length≤1000∧(∀e∈L,0≤e.1)∧∀(b:Addr)(ys:List V)(H':Hp),H b=none→H' b=some (.lst ys)→Wg H' ys (ZaM L)→Zam H H'→Q (.ref b) H'
abbrev Jaq:=ZaC (Zan 2) (ZaC (Zan 3) ZcN)
def Zrb (K:FJ):TS:=sQ1 (Zc0 Zap) 1 (ZaL (ZfJ (Zc7 K (Zag 0)) (Zcp K 2 Jaq) (ZaL (Zeq (ZbE (tOp rEq (Zag 2) (iQ1 0))) Zr6 ZcK) (Zeq (ZrU (fun σ H_1 Q=>Zag 1 σ H_1 fun x H'=>∃k,Zr9 K x H' k∧Q k H') (ZbE (tOp (ZqI K fun b=>b) (tOp (ZbO K) (tOp (Zcu K) (Zag 1) Jah) (iQ1 1)) (Zag 3)))) (ZaW (Zcr (Zaa (tOp Jaa (tOp (ZbO K) (tOp (Zcu K) (Zag 1) Jah) (iQ1 0)) (Zag 2)) (tQ1 3))) (ZrV (Zag 1) Jah ZkP)) (ZbD (tBM K "list" ZcP (Zag 1) (Zaa (Zcr (Zaa (Zag 2) (tQ1 3))) Zap)))))) (ZbB (Zag 1)))
theorem ZhX {K:FJ}{xs:List V}(hS:SqL K H a xs)(g:Wg H xs L)(hL:L.length≤1000)(hnn:∀e∈L,0≤e.1)(k:∀(b:Addr)(ys:List V)(H':Hp),H b=none→H' b=some (.lst ys)→Wg H' ys (ZaM L)→Zam H H'→Q (.ref b) H'):Zrb K {nx:=Z,rt:=Q } [some (.ref a),none,none,none] H:=by
 refine⟨zL0,fun b fb=> ?_⟩;refine⟨_,rfl,a,rfl,⟨xs,(Zam.nw (Zam.refl H) fb).seq hS⟩,ZbL (K:=K) (a:=a) (xs:=xs) (fun i σ H'=>∃(m v:Option V)(ys:List V),σ=[some (.ref a),some (.ref b),m,v]∧H' b=some (.lst ys)∧Wg H' ys (ZaM (L.take i))∧Zam H H') ⟨_,_,[],rfl,Zad,Wg.nil _,Zam.nw (Zam.refl H) fb⟩ (fun i σ H' _ ⟨_,_,_,_,_,_,z⟩=>z.seq hS) ?_ ?_⟩
 ·rintro i x σ H1 hx ⟨m,v,ys,rfl,h1b,g1,s1⟩;obtain⟨e,hei,q,wq,rfl,hq,hw⟩:=g.at' hx;have hq1:=s1 _ _ hq;have hw1:=s1 _ _ hw;have hi:i<L.length:=(Qab.mp hei).1;have hge:=hnn e (Qav hei);have lys:ys.length≤i:=by have:=Zb7 (L.take i);have:=g1.1;rw[Qax] at*;omega
  refine⟨q,_,rfl,SqT.of hq1,rfl,_,_,rfl,_,_,rfl,rfl,?_⟩;refine⟨_,rfl,rfl,_,rfl,Zfx (fun hc=> ?_) (fun hc=> ?_)⟩
  ·have hc:=Qar hc;have hz:e.1=0:=V.int.inj hc;refine⟨_,_,ys,rfl,h1b,?_,s1⟩;rw[ZbP hei];unfold ZaV;rw[Qn (by omega)];exact g1
  ·have hc:=Qbp (Qcy.mpr hc)
   have hpos:0<e.1:=by
    have:e.1≠0:=fun z=>hc (by rw[z]);omega
   refine⟨_,rfl,_,.inl ⟨_,SqL.of h1b,rfl⟩,?_⟩
   cases hlast:(ZaM (L.take i)).getLast? with
   |none=>
    have hnil:ZaM (L.take i)=[]:=by
     cases z:ZaM (L.take i) with
     |nil=>rfl
     |cons y r=>rw[z] at hlast;simp at hlast
    have hy0:ys=[]:=Qc4.mp (by rw[g1.1,hnil];rfl);have hyE:(!ys.isEmpty)=false:=by rw[hy0];rfl
    rw[hyE];refine Zcd (Zcd ?_);refine⟨_,rfl,.inl ⟨rfl,_,SqL.of h1b⟩,_,rfl,_,rfl,zL2,fun p hp=> ?_⟩;have npb:p≠b:=fun z=>by rw[z,h1b] at hp;cases hp
    have h8b:=(Zaq (H:=H1) (a:=p) (o:=.tup [.int e.1,.ref wq]) (Ne.symm npb)).trans h1b;refine⟨b,_,_,rfl,rfl,h8b,QaF (by have:=lys;omega:ys.length≤1000) (by decide),?_⟩;have T8:Za7 H1 (upd H1 p (.tup [.int e.1,.ref wq])):=(Za7.refl _).new hp;have T9:Za7 (upd H1 p (.tup [.int e.1,.ref wq])) (upd (upd H1 p (.tup [.int e.1,.ref wq])) b (.lst (ys++ [.ref p]))):=(Za7.refl _).lst h8b;refine⟨_,_,_,rfl,Zad,?_,Zam.ow (Zam.nw s1 hp) fb⟩;rw[ZbP hei];unfold ZaV;rw[Qp hpos];rw[hlast];dsimp only;exact Wg.snoc (g1.up (T8.trans T9)) ⟨p,wq,rfl,T9 _ _ Zad,T9 _ _ (T8 _ _ hw1)⟩
   |some l0=>
    have hne:ZaM (L.take i)≠ []:=fun z=>by rw[z] at hlast;cases hlast
    have hyn:ys≠ []:=fun z=>by
     have:=g1.1;rw[z] at this;exact hne (Qc4.mp this.symm)
    have hyE:(!ys.isEmpty)=true:=by cases ys with|nil=>exact absurd rfl hyn|cons y r=>rfl
    rw[hyE];refine Zcl ?_;have hl0:(ZaM (L.take i))[ys.length-1]?=some l0:=by rw[g1.1,←QbN];exact hlast
    obtain⟨y0,hy0,q0,w0,rfl,hq0,hw0⟩:=g1.get hl0;have hyl:ys.getLast?=some (V.ref q0):=by rw[QbN];exact hy0
    have hat:atI ys (-1)=some (V.ref q0):=by
     have:ys=ys.dropLast++ [V.ref q0]:=Zcv hyl;rw[this];exact Zf7 _ _
    refine⟨_,rfl,_,rfl,b,_,_,V.ref q0,rfl,rfl,SqL.of h1b,hat,q0,_,_,_,rfl,rfl,SqT.of hq0,rfl,_,rfl,_,_,Zd3 hw0,Zd3 hw1,ZfQ _,ZfQ _,(by rw[Zj8];decide),_,rfl,?_⟩;rw[Zmf];refine Zfx (fun hE=> ?_) (fun hE=> ?_)
    ·have hE:=Qar hE;refine⟨_,rfl,_,rfl,b,_,_,V.ref q0,rfl,rfl,SqL.of h1b,hat,q0,_,_,_,rfl,rfl,SqT.of hq0,rfl,_,rfl,_,_,rfl,rfl,_,rfl,zL2,fun p hp=> ?_⟩;have npb:p≠b:=fun z=>by rw[z,h1b] at hp;cases hp
     have h8b:=(Zaq (H:=H1) (a:=p) (o:=.tup [.int (l0.1+e.1),.ref wq]) (Ne.symm npb)).trans h1b
     have hix:ixN ys.length (-1)=some (ys.length-1):=by
      have:0<ys.length:=List.length_pos_iff.mpr hyn;unfold ixN;rw[Qn (by decide),Qp (by omega)];congr 1;omega
     refine⟨_,rfl,_,rfl,b,ys,_,ys.length-1,rfl,rfl,h8b,hix,?_⟩;have T8:Za7 H1 (upd H1 p (.tup [.int (l0.1+e.1),.ref wq])):=(Za7.refl _).new hp;have T9:Za7 (upd H1 p (.tup [.int (l0.1+e.1),.ref wq])) (upd (upd H1 p (.tup [.int (l0.1+e.1),.ref wq])) b (.lst (ys.set (ys.length-1) (.ref p)))):=(Za7.refl _).lst h8b;refine⟨_,_,_,rfl,Zad,?_,Zam.ow (Zam.nw s1 hp) fb⟩;rw[ZbP hei];unfold ZaV;rw[Qp hpos,hlast];dsimp only;rw[Qp hE,Zdl hyl];refine Wg.snoc ((g1.pop).up (T8.trans ?_)) ⟨p,wq,rfl,?_,?_⟩
     ·rw[Zdl hyl] at T9;exact T9
     ·rw[Zdl hyl] at T9;show _=some (HO.tup [V.int (e.1+l0.1),V.ref wq]);rw[Int.add_comm e.1 l0.1];exact T9 _ _ Zad
     ·rw[Zdl hyl] at T9;exact T9 _ _ (T8 _ _ hw1)
    ·have hE:=Qbp (Qcy.mpr hE);refine⟨_,rfl,.inl ⟨rfl,_,SqL.of h1b⟩,_,rfl,_,rfl,zL2,fun p hp=> ?_⟩;have npb:p≠b:=fun z=>by rw[z,h1b] at hp;cases hp
     have h8b:=(Zaq (H:=H1) (a:=p) (o:=.tup [.int e.1,.ref wq]) (Ne.symm npb)).trans h1b;refine⟨b,_,_,rfl,rfl,h8b,QaF (by have:=lys;omega:ys.length≤1000) (by decide),?_⟩;have T8:Za7 H1 (upd H1 p (.tup [.int e.1,.ref wq])):=(Za7.refl _).new hp;have T9:Za7 (upd H1 p (.tup [.int e.1,.ref wq])) (upd (upd H1 p (.tup [.int e.1,.ref wq])) b (.lst (ys++ [.ref p]))):=(Za7.refl _).lst h8b;refine⟨_,_,_,rfl,Zad,?_,Zam.ow (Zam.nw s1 hp) fb⟩;rw[ZbP hei];unfold ZaV;rw[Qp hpos];rw[hlast];dsimp only;rw[Qn hE];exact Wg.snoc (g1.up (T8.trans T9)) ⟨p,wq,rfl,T9 _ _ Zad,T9 _ _ (T8 _ _ hw1)⟩
 ·rintro σ H1 ⟨m,v,ys,rfl,h1b,g1,s1⟩;have hlx:L.take xs.length=L:=by rw[g.1];exact Qa3
  rw[hlx] at g1;exact⟨_,rfl,k b ys H1 fb h1b g1 s1⟩
def ZhY (K:FJ):Sp:=fun vs H Q _=>∃(a:Addr)(xs:List V)(L:WL)(bg:Int),vs=[.ref a,.int bg]∧SqL K H a xs∧Wg H xs L∧L.length≤1000∧∀(b:Addr)(zs:List V)(H':Hp),H b=none→H' b=some (.lst zs)→Ly H' zs L bg→Zam H H'→Q (.ref b) H'
def Zt7 (K:FJ):TS:=sQ1 (Zc0 Zap) 2 (ZaL (ZfJ (Zc7 K (Zag 0)) (Zcp K 2 (ZaC (Zan 3) (ZaC (Zan 4) ZcN))) (ZaL (ZbD (tBM K "list" ZcP (Zag 2) (Zaa (Zcr (Zaa (Zag 1) (Zaa (tOp Jaa (Zag 1) (Zag 3)) (tQ1 4)))) Zap))) (ZtO 1 (Zag 3) (ipI fun i j=>i+j)))) (ZbB (Zag 2)))
theorem Zla {K:FJ}{xs:List V}{L:WL}{bg:Int}(hS:SqL K H a xs)(g:Wg H xs L)(hL:L.length≤1000)(k:∀(b:Addr)(zs:List V)(H':Hp),H b=none→H' b=some (.lst zs)→Ly H' zs L bg→Zam H H'→Q (.ref b) H'):Zt7 K {nx:=Z,rt:=Q } [some (.ref a),some (.int bg),none,none,none] H:=by
 refine⟨zL0,fun b fb=> ?_⟩;refine⟨_,rfl,a,rfl,⟨xs,(Zam.nw (Zam.refl H) fb).seq hS⟩,ZbL (K:=K) (a:=a) (xs:=xs) (fun i σ H'=>∃(m v:Option V)(zs:List V),σ=[some (.ref a),some (.int (bg+tot (L.take i))),some (.ref b),m,v]∧H' b=some (.lst zs)∧zs.length=i∧(∀j e,j<i→L[j]?=some e→∃p wq,zs[j]?=some (V.ref p)∧H' p=some (.tup [.int (bg+tot (L.take j)),.int (bg+tot (L.take (j+1))),.ref wq])∧H' wq=some (.tup (e.2.map V.int)))∧Zam H H') ⟨_,_,[],by rw[Qct,ZaI,QbB];rfl,Zad,rfl,fun j e hj=>absurd hj (Nat.not_lt_zero _),Zam.nw (Zam.refl H) fb⟩ (fun i σ H' _ ⟨_,_,_,_,_,_,_,z⟩=>z.seq hS) ?_ ?_⟩
 ·rintro i x σ H1 hx ⟨m,v,zs,rfl,h1b,lz,ly,s1⟩;obtain⟨e,hei,q,wq,rfl,hq,hw⟩:=g.at' hx;have hi:i<L.length:=(Qab.mp hei).1;have hw1:=s1 _ _ hw;refine⟨q,_,rfl,SqT.of (s1 _ _ hq),rfl,_,_,rfl,_,_,rfl,rfl,?_⟩;refine⟨_,rfl,.inl ⟨rfl,_,SqL.of h1b⟩,_,rfl,_,rfl,_,rfl,_,_,rfl,rfl,_,rfl,zL3,fun p hp=> ?_⟩;have npb:p≠b:=fun z=>by rw[z,h1b] at hp;cases hp
  have h8b:=(Zaq (H:=H1) (a:=p) (o:=.tup [.int (bg+tot (L.take i)),.int (bg+tot (L.take i)+e.1),.ref wq]) (Ne.symm npb)).trans h1b;refine⟨b,_,_,rfl,rfl,h8b,QaF (by omega:zs.length≤1000) (by decide),?_⟩;have T8:Za7 H1 (upd H1 p (.tup [.int (bg+tot (L.take i)),.int (bg+tot (L.take i)+e.1),.ref wq])):=(Za7.refl _).new hp;have T9:Za7 (upd H1 p (.tup [.int (bg+tot (L.take i)),.int (bg+tot (L.take i)+e.1),.ref wq])) (upd (upd H1 p (.tup [.int (bg+tot (L.take i)),.int (bg+tot (L.take i)+e.1),.ref wq])) b (.lst (zs++ [.ref p]))):=(Za7.refl _).lst h8b;have T:=T8.trans T9;have ets:bg+tot (L.take (i+1))=bg+tot (L.take i)+e.1:=by rw[ZcQ hei];omega
  refine⟨_,rfl,_,rfl,_,_,rfl,rfl,some (.int e.1),some (.ref wq),_,?_,Zad,by rw[Qae,lz];rfl,fun j d hj hd=> ?_,Zam.ow (Zam.nw s1 hp) fb⟩
  ·rw[ets];rfl
  ·by_cases hji:j<i
   ·obtain⟨p',w',a1,a2,a3⟩:=ly j d hji hd;exact⟨p',w',by rw[Qas (by omega)];exact a1,T _ _ a2,T _ _ a3⟩
   ·have e0:j=i:=by omega
    subst e0;rw[hei] at hd;cases hd;refine⟨p,wq,by rw[Qaq (by omega),lz,QcJ];rfl,?_,T _ _ hw1⟩;rw[ets];exact T9 _ _ Zad
 ·rintro σ H1 ⟨m,v,zs,rfl,h1b,lz,ly,s1⟩;have hxl:=g.1;exact⟨_,rfl,k b zs H1 fb h1b ⟨by omega,fun i e he=>ly i e (by have:=(Qab.mp he).1;omega) he⟩ s1⟩
def Zev (K:FJ):Sp:=fun vs H Q _=>∃(a:Addr)(xs:List V)(L:WL)(bg en:Int),vs=[.ref a,.int bg,.int en]∧SqL K H a xs∧Wg H xs L∧L.length≤1000∧L2.Pos L∧bg≤en∧∀(b:Addr)(ys:List V)(H':Hp),H b=none→H' b=some (.lst ys)→Wg H' ys (ZaM (Zcf bg en 0 L))→Zam H H'→Q (.ref b) H'
abbrev Jav:=ZaC (Zan 5) (ZaC (Zan 6) ZcN)
def ZsX (K:FJ):TS:=sQ1 (Zc0 Zap) 3 (ZaL (ZfJ (Zc7 K (Zau (ZhY K) [] E0 (Zaa (Zag 0) (Zaa (iQ1 0) Zap)))) (Zcp K 3 (ZaC (Zan 4) Jav)) (Zeq (ZrU (ZbE (tOp Jai (Zag 4) (Zag 2))) (ZbE (tOp Jai (Zag 1) (Zag 5)))) (ZbD (tBM K "list" ZcP (Zag 3) (Zaa (Zcr (Zaa (tOp Jad (tCB Jac (Zaa (Zag 5) (tQ1 2))) (tCB Jae (Zaa (Zag 4) (tQ1 1)))) (tQ1 6))) Zap))) ZcK)) (ZbB (Zau (Zcy K) [] E0 (tQ1 3))))
theorem Zlb {K:FJ}{xs:List V}{L:WL}{bg en:Int}(hS:SqL K H a xs)(g:Wg H xs L)(hL:L.length≤1000)(hpos:L2.Pos L)(hbe:bg≤en)(k:∀(b:Addr)(ys:List V)(H':Hp),H b=none→H' b=some (.lst ys)→Wg H' ys (ZaM (Zcf bg en 0 L))→Zam H H'→Q (.ref b) H'):ZsX K {nx:=Z,rt:=Q } [some (.ref a),some (.int bg),some (.int en),none,none,none,none] H:=by
 refine⟨zL0,fun c fc=> ?_⟩;have s1:Zam H (upd H c (.lst [])):=Zam.nw (Zam.refl H) fc;have hc1:(upd H c (.lst [])) c=some (.lst []):=Zad;generalize upd H c (.lst [])=H1 at s1 hc1⊢;refine⟨_,rfl,a,xs,L,0,rfl,s1.seq hS,g.up s1.tups,hL,fun b zs H2 fb hb ly s2=> ?_⟩;have s02:=s1.trans s2;refine⟨b,rfl,⟨zs,SqL.of hb⟩,ZbL (K:=K) (a:=b) (xs:=zs) (fun i σ H'=>∃(x4 x5 x6:Option V)(ys:List V),σ=[some (.ref a),some (.int bg),some (.int en),some (.ref c),x4,x5,x6]∧H' c=some (.lst ys)∧H' b=some (.lst zs)∧Wg H' ys (Zcf bg en 0 (L.take i))∧Za7 H2 H'∧Zam H H') ⟨_,_,_,[],rfl,s2 _ _ hc1,hb,Wg.nil _,Za7.refl _,s02⟩ (fun i σ H' _ ⟨_,_,_,_,_,_,z,_⟩=>SqL.of z) ?_ ?_⟩
 ·rintro i x σ H3 hx ⟨x4,x5,x6,ys,rfl,h3c,h3b,g3,T3,s3⟩;have hi:i<L.length:=by rw[←ly.1];exact(Qab.mp hx).1
  have hei:=Qad hi;obtain⟨p,wq,a1,a2,a3⟩:=ly.2 i _ hei;rw[hx] at a1;cases a1
  have lys:ys.length≤1000:=by
   rw[g3.1]
   have:=ZcR bg en (L.take i) 0;rw[Qax] at this;omega
  have ets:(0:Int)+tot (L.take (i+1))=0+tot (L.take i)+(L[i]).1:=by rw[ZcQ hei];omega
  have esn:Zcf bg en 0 (L.take (i+1))=Zcf bg en 0 (L.take i)++Zce bg en (0+tot (L.take i)) (L[i]).1 (L[i]).2:=by rw[ZaJ hei,ZhE]
  rw[ets] at a2;refine⟨p,_,rfl,SqT.of (T3 _ _ a2),rfl,_,_,rfl,_,_,rfl,_,_,rfl,rfl,?_⟩;refine⟨_,rfl,_,rfl,_,_,rfl,rfl,_,rfl,Zfx (fun c1=> ?_) (fun c1=> ?_)⟩
  ·have c1:=Qar c1;refine⟨_,rfl,_,rfl,_,_,rfl,rfl,_,rfl,Zfx (fun c2=> ?_) (fun c2=> ?_)⟩
   ·have c2:=Qar c2;refine⟨_,rfl,.inl ⟨rfl,_,SqL.of h3c⟩,_,rfl,_,rfl,_,_,rfl,_,rfl,_,rfl,_,_,rfl,_,_,rfl,rfl,_,rfl,zL2,fun p' hp'=> ?_⟩;have npc:p'≠c:=fun z=>by rw[z,h3c] at hp';cases hp'
    have npb:p'≠b:=fun z=>by rw[z,h3b] at hp';cases hp'
    have nbc:b≠c:=fun z=>by rw[z,hc1] at fb;cases fb
    have h8c:=(Zaq (H:=H3) (a:=p') (o:=.tup [.int (mn (0+tot (L.take i)+(L[i]).1) en-mx (0+tot (L.take i)) bg),.ref wq]) (Ne.symm npc)).trans h3c;refine⟨c,ys,_,rfl,rfl,h8c,QaF lys (by decide),?_⟩;have T8:Za7 H3 (upd H3 p' (.tup [.int (mn (0+tot (L.take i)+(L[i]).1) en-mx (0+tot (L.take i)) bg),.ref wq])):=(Za7.refl _).new hp';have T9:Za7 (upd H3 p' (.tup [.int (mn (0+tot (L.take i)+(L[i]).1) en-mx (0+tot (L.take i)) bg),.ref wq])) (upd (upd H3 p' (.tup [.int (mn (0+tot (L.take i)+(L[i]).1) en-mx (0+tot (L.take i)) bg),.ref wq])) c (.lst (ys++ [.ref p']))):=(Za7.refl _).lst h8c;refine⟨_,_,_,_,rfl,Zad,?_,?_,(T3.trans T8).trans T9,Zam.ow (Zam.nw s3 hp') fc⟩
    ·rw[Zaq nbc,Zaq (Ne.symm npb)];exact h3b
    ·rw[esn];unfold Zce;rw[Qp (show 0+tot (L.take i)<en∧bg<0+tot (L.take i)+(L[i]).1 from⟨c1,c2⟩)];exact Wg.snoc (g3.up (T8.trans T9)) ⟨p',wq,rfl,T9 _ _ Zad,T9 _ _ (T8 _ _ (T3 _ _ a3))⟩
   ·have c2:=Qbp (Qcy.mpr c2);refine⟨_,_,_,ys,rfl,h3c,h3b,?_,T3,s3⟩;rw[esn];unfold Zce;rw[Qn fun z=>c2 z.2,Qa5];exact g3
  ·have c1:=Qbp (Qcy.mpr c1);refine Zcd ⟨_,_,_,ys,rfl,h3c,h3b,?_,T3,s3⟩;rw[esn];unfold Zce;rw[Qn fun z=>c1 z.1,Qa5];exact g3
 ·rintro σ H3 ⟨x4,x5,x6,ys,rfl,h3c,h3b,g3,T3,s3⟩;have hlx:L.take zs.length=L:=by rw[ly.1];exact Qa3
  rw[hlx] at g3;refine⟨_,rfl,c,ys,_,rfl,SqL.of h3c,g3,QaW (ZcR bg en L 0) hL,Zmk hbe hpos,fun b' ys' H4 fb' hb' g4 s4=> ?_⟩;exact k b' ys' H4 (s3.free fb') hb' g4 (s3.trans s4)
def Ze7 (K:FJ):Sp:=fun vs H Q _=>∃(a:Addr)(xs:List V)(W:List (Int×List Int)),vs=[.ref a]∧SqL K H a xs∧Wg H xs W∧W.length≤60∧∀(l:Addr)(ps:List V)(ws:List (List Int×Int))(H':Hp),H l=none→H' l=some (.lst ps)→PrL H' ps ws→Zbs W ws→Zam H H'→Q (.ref l) H'
def ZsY (K:FJ):TS:=sQ1 Zmv 1 (ZaL (ZfJ (Zc7 K (Zag 0)) (Zcp K 2 Jaq) (ZoA (Zag 1) (Zag 3) (tOp Jaa (Zmw (Zag 1) (Zag 3) (iQ1 0)) (Zag 2)))) (ZbB (tCB (fun xs H Q=>∃v d ks,xs=[V.ref v]∧H v=some (HO.ext (ZhP v d))∧H d=some (HO.dT (List.map (fun k=>(List.map Sum.inl k.fst,V.int k.snd)) ks))∧ks.length<64∧∀(l:Addr)(ps:List V)(ws:List (List Int×Int))(H':Hp),H l=none→(∀(b:Addr)(o:HO),H b=some o→H' b=some o)→H' l=some (HO.lst ps)→PrL H' ps ws→ws.Perm ks→List.Pairwise (fun x y=>Zb9 y.fst x.fst=false) ws→Q (V.ref l) H') (Zaa (ZiS (Zag 1)) Zap))))
theorem Zi7 {K:FJ}{xs:List V}(ha:SqL K H a xs)(g:Wg H xs W)(hl:W.length≤60)(k:∀(l:Addr)(ps:List V)(ws:List (List Int×Int))(H':Hp),H l=none→H' l=some (.lst ps)→PrL H' ps ws→Zbs W ws→Zam H H'→Q (.ref l) H'):ZsY K {nx:=Z,rt:=Q } [some (.ref a),none,none,none] H:=by
 refine fun d fd0=> ?_;have s1:=Zam.nw (o:=.dT []) (Zam.refl H) fd0;have hd1:(upd H d (.dT [])) d=some (.dT (([]:List (List Int×Int)).map emb)):=Zad;generalize upd H d (.dT [])=H1 at s1 hd1⊢;refine⟨_,rfl,a,rfl,⟨_,s1.seq ha⟩,ZbL (K:=K) (a:=a) (xs:=xs) (fun i σ H'=>∃(x2 x3:Option V)(ks:List (List Int×Int)),σ=[some (.ref a),some (.ref d),x2,x3]∧H' d=some (.dT (ks.map emb))∧DIs (W.take i) ks∧Zam H H') ⟨_,_,[],rfl,hd1,DIs.nil,s1⟩ (fun i σ H' _ h=>by obtain⟨_,_,_,_,_,_,z⟩:=h;exact z.seq ha) ?_ ?_⟩
 ·rintro i x σ H2 hx ⟨x2,x3,ks,rfl,hd2,D2,s2⟩;obtain⟨e,he,q,wq,rfl,hq,hw⟩:=(g.up s2.tups).at' hx;have hw':H2 wq=some (.tup ((e.2.map Sum.inl).map kV)):=by rw[Qbc];exact hw
  have kl:ks.length≤1000:=by have:=D2.len;rw[Qax] at this;omega
  refine⟨q,_,rfl,SqT.of hq,rfl,_,_,rfl,_,_,rfl,rfl,?_⟩;refine⟨_,rfl,d,rfl,.inr ⟨_,.inl hd2⟩,_,rfl,_,ZfT.t (k:=e.2.map Sum.inl) hd2 hw',_,rfl,ZfV ks e.2,e.1,ZmP ks e.2,rfl,_,rfl,_,rfl,d,_,rfl,ZlL.t (k:=e.2.map Sum.inl) hd2 hw' (QaF (by rw[Qaf];exact kl:(ks.map emb).length≤1000) (by decide)),?_⟩;refine⟨_,_,ZmN ks e.2 (ZfV ks e.2+e.1),rfl,?_,?_,Zam.ow s2 fd0⟩
  ·rw[Zad];exact congrArg (fun z=>some (HO.dT z)) (ZmO ks e.2 (ZfV ks e.2+e.1))
  ·rw[ZaJ he];exact D2.put e
 ·rintro σ H2 ⟨x2,x3,ks,rfl,hd2,D2,s2⟩;rw[Qbx (by rw[g.1];exact Qai _)] at D2;have kl:=D2.len;refine⟨_,rfl,d,_,rfl,hd2,fun v hv=>⟨v,d,ks,rfl,Zad,?_,by omega,fun l ps ws H' f1 old h2 pr pm sr=> ?_⟩⟩
  ·rw[Zaq (Zar hd2 hv)];exact hd2
  ·have s3:=Zam.nw (o:=.ext (ZhP v d)) s2 hv;have s4:Zam H H':=s3.trans fun b o q=>old b o q;exact k l ps ws H' (s3.free f1) h2 pr (Zkl D2 pm sr) s4
def paF (b e:Int)(L:WL2):WL2:=Zbh (e-b) (ZbH b L)
theorem ZfW {L:WL2}(h:ZbG L)(h0:0≤b)(hbe:b≤e):ZaM (Zcf b e 0 L)=paF b e L:=Zgf h h0 hbe
theorem Zi8 {L:WL2}(h:ZbG L)(h0:0≤b)(hbe:b≤e):(paF b e L).length≤L.length:=by
 rw[←ZfW h h0 hbe];exact QaW (Zb7 _) (ZcR b e L 0)
theorem Zi9 {p:List Int→Prop}{L:WL2}(h:ZbG L)(h0:0≤b)(hbe:b≤e)(a:∀d∈L,p d.2):∀d∈paF b e L,p d.2:=by
 rw[←ZfW h h0 hbe];exact ZcL (Zgg a)
def ZeA (ps:List PR)(e:Int):Bool:=ps.all fun p=>decide (p.2.1+p.2.2.1≤e)
theorem CpL.at' {ys:List V}{ps:List PR}{i:Nat}{x:V}(h:CpL H ys (ps.map pV))(hx:ys[i]?=some x):∃(q:Addr)(p:PR),ps[i]?=some p∧x= .ref q∧H q=some (.tup (pV p)):=by
 have il:i<ps.length:=by have:=(Qab.mp hx).1;rw[h.1,Qaf] at this;exact this
 obtain⟨q,rfl,hq⟩:=h.2 i x (pV ps[i]) hx (by rw[Qao,Qad il];rfl);exact⟨q,ps[i],Qad il,rfl,hq⟩
theorem Zm2 {K:FJ}{σ:L2.St}{i:Nat}{ya:List V}{ps:List PR}(hi:σ[i]?=some (some (.ref a)))(hj:σ[j]?=some (some (.int e)))(ha:H a=some (.lst ya))(ca:CpL H ya (ps.map pV))(hl:ps.length≤400)(k:∀H',Zam H H'→Q (.bl (ZeA ps e)) H'):
  (tCB (fun xs H_1 Q=>∃p bs,xs=[V.ref p]∧SqL K H_1 p (List.map V.bl bs)∧Q (V.bl (bs.all id)) H_1) (Zaa (ZbU 1 (Zc7 K (Zag i)) (Zan 0) Zes (tOp (rI0 fun i j=>V.bl (decide (i≤j))) (Zau Zbe [] E0 (Zaa (Zag 0) Zap)) (Zag (j+1)))) Zap)) σ H Q:=by
 have yl:ya.length=ps.length:=by rw[ca.1,Qaf]
 refine⟨_,hi,a,rfl,⟨_,SqL.of ha⟩,ZkS (K:=K) (a:=a) (xs:=ya) (fun m ys H'=>ys=((ps.take m).map fun p=>decide (p.2.1+p.2.2.1≤e)).map V.bl∧H=H') ⟨rfl,rfl⟩ (by omega) (fun n ys H' h=>by rw[h.1,Qaf,Qaf,Qax];exact QdH _ _) (fun n ys H' _ h=>by rw[←h.2];exact SqL.of ha) ?_ ?_⟩
 ·rintro m x ys H' pre hpl hx ⟨rfl,rfl⟩;obtain⟨q,p,ep,rfl,hq⟩:=ca.at' hx;rcases pre with _|⟨q0,_|⟨q1,pre⟩⟩
  ·cases hpl
  ·refine⟨⟨[some _],rfl,rfl⟩,?_⟩;unfold Zes;dsimp only;rw[Qp (rfl:true=true)];refine⟨_,rfl,q,p,rfl,hq,_,(by show σ[j]?=some _;exact hj),_,_,rfl,rfl,?_,rfl⟩;rw[ZaJ ep,Qau,Qau];rfl
  ·cases hpl
 ·rintro ys H' ⟨rfl,rfl⟩ D hD;refine⟨D,_,rfl,SqL.of Zad,?_⟩
  have e1:(((ps.take ya.length).map fun p=>decide (p.2.1+p.2.2.1≤e)).all id)=ZeA ps e:=by
   rw[yl,Qa3,List.all_map];rfl
  rw[e1];exact k _ (Zam.nw (Zam.refl H) hD)
def ZdX:Sp:=fun vs H Q _=>∃(a:Addr)(ya:List V)(ps:List PR)(e:Int),vs=[.ref a,.int e]∧H a=some (.lst ya)∧CpL H ya (ps.map pV)∧ps.length≤400∧∀H',Zam H H'→Q (.bl (ZeA ps e)) H'
def Zrc (K:FJ):TS:=ZbB (tCB (fun xs H_1 Q=>∃p bs,xs=[V.ref p]∧SqL K H_1 p (List.map V.bl bs)∧Q (V.bl (bs.all id)) H_1) (Zaa (ZbU 1 (Zc7 K (Zag 0)) (Zan 0) Zes (tOp Jan Jau (Zag 2))) Zap))
theorem ZhZ {K:FJ}{ya:List V}{ps:List PR}(ha:H a=some (.lst ya))(ca:CpL H ya (ps.map pV))(hl:ps.length≤400)(k:∀H',Zam H H'→Q (.bl (ZeA ps e)) H'):Zrc K {nx:=Z,rt:=Q } [some (.ref a),some (.int e)] H:=
 Zm2 (K:=K) (i:=0) (j:=1) rfl rfl ha ca hl k
end L2
namespace Toy
open PySem L2 PyProof.Rows
variable {L R W:Wl}{e:Int}{u v:List Int}
theorem atW_lenC:∀{A:Wl} {n:Nat} {p:Int},(∀e∈A,e.2.length=n)→p<tot A→0≤p→(atW A p).length=n
 | [],n,p,h,h1,h0=>by rw[ZaI] at h1;omega
 | (a,u)::A,n,p,h,h1,h0=>by
  by_cases z:p<a
  ·rw[atW_lt z];exact h (a,u) Qah
  ·rw[atW_ge (by omega)];rw[ZaD] at h1;have h1:p<a+tot A:=h1;exact atW_lenC (fun e he=>h e (Qag _ he)) (by omega) (by omega)
def nS (en t p:Int)(i:Nat):Wl→Int→Int
 | [],_=>0
 |e::L,lo=>(if L2.mx lo en<lo+e.1 then co e.2 i*((lo+e.1-1-p)/t-(L2.mx lo en-1-p)/t) else 0)+nS en t p i L (lo+e.1)
theorem Zm3 {en t p:Int}{i:Nat}:∀{L:Wl} {lo:Int},(∀e∈L,0<e.1)→en≤lo→nS en t p i L lo=GG t (p-en+t) i L (lo-en)
 | [],lo,_,_=>rfl
 | (m,w)::L,lo,pos,h=>by
  have pm:0<m:=pos (m,w) Qah;show(if L2.mx lo en<lo+m then co w i*((lo+m-1-p)/t-(L2.mx lo en-1-p)/t) else 0)+nS en t p i L (lo+m)=co w i*((lo-en+m+t-1-(p-en+t))/t-(lo-en+t-1-(p-en+t))/t)+GG t (p-en+t) i L (lo-en+m);have em:L2.mx lo en=lo:=by unfold L2.mx;rw[Qn (by omega)]
  rw[em,Qp (by omega),Zm3 (fun e he=>pos e (Qag _ he)) (by omega),show lo+m-en=lo-en+m by omega,show lo-en+m+t-1-(p-en+t)=lo+m-1-p by omega,show lo-en+t-1-(p-en+t)=lo-1-p by omega]
theorem Zja {en t p:Int}{i:Nat}:∀{L:Wl} {lo:Int},(∀e∈L,0<e.1)→lo≤en→nS en t p i L lo=GG t (p-en+t) i (ZbH (en-lo) L) 0
 | [],lo,_,_=>rfl
 | (m,w)::L,lo,pos,h=>by
  have pm:0<m:=pos (m,w) Qah;have pr:∀e∈L,0<e.1:=fun e he=>pos e (Qag _ he);by_cases c:lo=en
  ·rw[Zm3 pos (by omega),show en-lo=0 by omega,show lo-en=0 by omega];show _=GG t (p-en+t) i (if(0:Int)≤0 then(m,w)::L else _) 0;rw[Qp (QaL _)]
  ·have em:L2.mx lo en=en:=by unfold L2.mx;rw[Qp (by omega)]
   show(if L2.mx lo en<lo+m then co w i*((lo+m-1-p)/t-(L2.mx lo en-1-p)/t) else 0)+nS en t p i L (lo+m)=GG t (p-en+t) i (if en-lo≤0 then(m,w)::L else if en-lo<m then(m-(en-lo),w)::L else ZbH (en-lo-m) L) 0;rw[em,Qn (show ¬en-lo≤0 by omega)];by_cases d:en-lo<m
   ·rw[Qp d,Qp (by omega),Zm3 pr (by omega)];show _=co w i*((0+(m-(en-lo))+t-1-(p-en+t))/t-(0+t-1-(p-en+t))/t)+GG t (p-en+t) i L (0+(m-(en-lo)));rw[show 0+(m-(en-lo))+t-1-(p-en+t)=lo+m-1-p by omega,show 0+t-1-(p-en+t)=en-1-p by omega,show 0+(m-(en-lo))=lo+m-en by omega]
   ·rw[Qn d,Qn (by omega),QbS,Zja pr (by omega),show en-(lo+m)=en-lo-m by omega]
def plusW (us vs:List Int):List Int:=List.zipWith (fun a b=>a+b) us vs
structure PutOf (A C:Wl)(bg:Int)(R:Wl):Prop where
 nrm:ZbG R
 sum:tot R=tot A
 at':∀p,0≤p→p<tot A→atW R p=if bg≤p∧p<bg+tot C then plusW (atW A p) (atW C (p-bg)) else atW A p
 len:R.length≤900
structure HeapOf (n:Nat)(S:Sl)(c0 c1:Int)(R:Wl)(m:Nat):Prop where
 nrm:ZbG R
 sum:tot R=c1-c0
 wid:∀e∈R,e.2.length=n
 at':∀p,c0≤p→p<c1→∀i,co (atW R (p-c0)) i=FF S p i
 len:R.length≤m
theorem Zkp (h:u.length=v.length)(i:Nat):co (plusW u v) i=co u i+co v i:=by
 unfold plusW;exact Zgi i h
theorem Zh0 (h:u.length=v.length):(plusW u v).length=u.length:=by
 unfold plusW;rw[Qb1,h];exact QdR _
theorem tot_revC (L:Wl):tot L.reverse=tot L:=by unfold tot;rw[List.map_reverse,List.sum_reverse]
theorem Zkq:∀{A:Wl} {y:Int},(∀e∈A,0<e.1)→0≤y→y<tot A→atW A.reverse y=atW A (tot A-1-y)
 | [],y,_,h0,h1=>by rw[ZaI] at h1;omega
 | (a,u)::A,y,pos,h0,h1=>by
  have pa:0<a:=pos (a,u) Qah;have pr:∀e∈A,0<e.1:=fun e he=>pos e (Qag _ he);have p0:∀e∈A.reverse,0≤e.1:=fun e he=>Qa9 (pr e (Qeo.mp he));rw[ZaD] at h1⊢;have h1:y<a+tot A:=h1;show atW ((a,u)::A).reverse y=atW ((a,u)::A) (a+tot A-1-y);rw[Qd2];by_cases c:y<tot A
  ·rw[Zcw p0 h0 (by rw[tot_revC];exact c),Zkq pr h0 c,atW_ge (by omega)];congr 1;omega
  ·rw[ZbV p0 (by rw[tot_revC];omega),tot_revC,atW_lt (by omega),atW_lt (by omega)]
def Zrd (L:Wl)(low t e:Int)(tn:Bool)(x:Int)(i:Nat):Int:=
 co (atW L x) i+(if tn=true then(if e≤low+tot L-1-x∧low+tot L-1-x<tot L then co (atW L (low+tot L-1-x)) i else 0) else(if e-t≤x then nS e t x i L 0 else 0))
structure IsCut (L:Wl)(low t e:Int)(tn:Bool)(wd:Nat)(R:Wl):Prop where
 nrm:ZbG R
 sum:tot R=e
 wid:∀d∈R,d.2.length=wd
 at':∀x,0≤x→x<e→∀i,co (atW R x) i=Zrd L low t e tn x i
theorem Zgx {n:Nat}(nR:ZbG R)(h:∀p,0≤p→p<tot R→(atW R p).length=n):∀e∈R,e.2.length=n:=fun e he=>by
 have key:∀{M:Wl},(∀e∈M,0<e.1)→∀{e:Int×List Int},e∈M→∃p,0≤p∧p<tot M∧atW M p=e.2:=by
  intro M
  induction M with
  |nil=>intro _ e h;cases h
  |cons x M ih=>
   intro pos e h;have x0:=pos x Qah;have hM:=fun z hz=>pos z (Qag x hz);have t0:=tot_pos0 (M:=M) fun z hz=>Qa9 (hM z hz);rcases Qaw.mp h with z|z
   ·refine⟨0,QaL _,by rw[ZaD];omega,?_⟩;rw[z,show x=(x.1,x.2) from rfl,atW_lt (by exact x0)]
   ·obtain⟨p,p0,p1,pe⟩:=ih hM z;refine⟨p+x.1,by omega,by rw[ZaD];omega,?_⟩;rw[show x=(x.1,x.2) from rfl,atW_ge (by show x.1≤p+x.1;omega),show p+x.1-x.1=p by omega];exact pe
 obtain⟨p,p0,p1,pe⟩:=key (fun d hd=>nR.pos d hd) he;rw[←pe];exact h p p0 p1
theorem Zqi {t p:Int}(ht:0<t)(hp:0≤p)(hpt:p<t)(i:Nat):∀{O:Wl} {lo:Int},(∀e∈O,0<e.1)→0≤lo→lo+tot O≤t→GG t p i O lo=if lo≤p∧p<lo+tot O then co (atW O (p-lo)) i else 0
 | [],lo,_,h0,h1=>by
  rw[ZaI,Qn (by omega)];rfl
 | (m,w)::O,lo,pos,h0,h1=>by
  have pm:0<m:=pos (m,w) Qah;have pr:∀e∈O,0<e.1:=fun e he=>pos e (Qag _ he);have t0:=tot_pos0 (M:=O) fun z hz=>Qa9 (pr z hz);rw[ZaD] at h1⊢;have h1:lo+(m+tot O)≤t:=h1;show co w i*((lo+m+t-1-p)/t-(lo+t-1-p)/t)+GG t p i O (lo+m)=if lo≤p∧p<lo+(m+tot O) then co (atW ((m,w)::O) (p-lo)) i else 0;rw[Zqi ht hp hpt i pr (by omega) (by omega)]
  have dv:∀z:Int,0≤z→z≤t→(z+t-1-p)/t=if p<z then 1 else 0:=fun z z0 z1=>by
   by_cases c:p<z
   ·rw[Qp c,show z+t-1-p=(z-1-p)+t*1 by omega,QbT _ _ (by omega),Qby (by omega) (by omega)];rfl
   ·rw[Qn c,Qby (by omega) (by omega)]
  rw[dv (lo+m) (by omega) (by omega),dv lo h0 (by omega)];by_cases c1:p<lo
  ·rw[Qp (show p<lo+m by omega),Qp c1,Qn (by omega),Qn (by omega)];simp
  ·rw[Qn c1];by_cases c2:p<lo+m
   ·rw[Qp c2,Qn (by omega),Qp (by omega),atW_lt (by omega)];simp
   ·rw[Qn c2];by_cases c3:p<lo+m+tot O
    ·rw[Qp (by omega),Qp (by omega),atW_ge (by omega),show p-lo-m=p-(lo+m) by omega];simp
    ·rw[Qn (by omega),Qn (by omega)];simp
theorem paF_0 (pos:∀d∈L,0<d.1):paF 0 e L=Zbh e L:=by
 unfold paF
 cases L with
 |nil=>show Zbh _ []=Zbh _ [];rfl
 |cons x r=>show Zbh (e-0) (if(0:Int)≤0 then x::r else _)=_;rw[Qp (QaL _),Qde]
theorem paF_n (nL:ZbG L)(e0:0≤e)(e1:e<tot L):paF e (tot L) L=ZbH e L:=by
 unfold paF;have nd:=Zbx (a:=e) nL;rw[←tot_dropF (fun d hd=>nL.pos d hd) e0 (by omega)];exact ZhH fun d hd=>nd.pos d hd
section
variable {low t:Int}{wd:Nat}
theorem cut_turn (nL:ZbG L)(wid:∀d∈L,d.2.length=wd)(l0:0≤low)(e0:0≤e)(e1:e<tot L)(fit:low+(tot L-e)≤e)(h:PutOf (paF 0 e L) (paF e (tot L) L).reverse low R):IsCut L low t e true wd R:=by
 have pos:∀d∈L,0<d.1:=fun d hd=>nL.pos d hd;have eP:=paF_0 (e:=e) pos;have eO:=paF_n nL e0 e1;have nd:=Zbx (a:=e) nL;have pd:∀d∈ZbH e L,0<d.1:=fun d hd=>nd.pos d hd;have tP:tot (Zbh e L)=e:=tot_takeF pos e0 (by omega);have tO:tot (ZbH e L)=tot L-e:=tot_dropF pos e0 (by omega);rw[eP,eO] at h;have hs:tot R=e:=by rw[h.sum,tP]
 have at1:∀x,0≤x→x<e→atW R x=if e≤low+tot L-1-x∧low+tot L-1-x<tot L then plusW (atW L x) (atW L (low+tot L-1-x)) else atW L x:=fun x x0 x1=>by
  rw[h.at' x x0 (by rw[tP];exact x1),tot_revC,tO,ZbJ pos x0 x1];by_cases c:low≤x∧x<low+(tot L-e)
  ·rw[Qp c,Qp (by omega),Zkq pd (by omega) (by rw[tO];omega),tO,ZbK pos e0 (by omega)];congr 2;omega
  ·rw[Qn c,Qn (by omega)]
 have ln:∀x,0≤x→x<tot L→(atW L x).length=wd:=fun x x0 x1=>atW_lenC wid x1 x0;refine⟨h.nrm,hs,Zgx h.nrm fun x x0 x1=> ?_,fun x x0 x1 i=> ?_⟩
 ·rw[hs] at x1;rw[at1 x x0 x1];split
  ·rename_i c;rw[Zh0 (by rw[ln x x0 (by omega),ln _ (by omega) c.2])];exact ln x x0 (by omega)
  ·exact ln x x0 (by omega)
 ·rw[at1 x x0 x1];unfold Zrd;rw[Qp rfl];by_cases c:e≤low+tot L-1-x∧low+tot L-1-x<tot L
  ·rw[Qp c,Qp c,Zkp (by rw[ln x x0 (by omega),ln _ (by omega) c.2])]
  ·rw[Qn c,Qn c,QbB]
theorem Zm4 (nL:ZbG L)(wid:∀d∈L,d.2.length=wd)(e0:0≤e)(e1:e<tot L)(ht:0<t)(te:t≤e)(wW:∀d∈W,d.2.length=wd)(tW:tot W≤t)(h:PutOf (paF 0 e L) W (e-t) R)(hW:∀x,e-t≤x→x<e→∀i,(if x-(e-t)<tot W then co (atW W (x-(e-t))) i else 0)=nS e t x i L 0):IsCut L low t e false wd R:=by
 have pos:∀d∈L,0<d.1:=fun d hd=>nL.pos d hd;have eP:=paF_0 (e:=e) pos;have tP:tot (Zbh e L)=e:=tot_takeF pos e0 (by omega);rw[eP] at h;have hs:tot R=e:=by rw[h.sum,tP]
 have ln:∀x,0≤x→x<tot L→(atW L x).length=wd:=fun x x0 x1=>atW_lenC wid x1 x0
 have at1:∀x,0≤x→x<e→atW R x=if e-t≤x∧x<e-t+tot W then plusW (atW L x) (atW W (x-(e-t))) else atW L x:=fun x x0 x1=>by
  rw[h.at' x x0 (by rw[tP];exact x1),ZbJ pos x0 x1]
 refine⟨h.nrm,hs,Zgx h.nrm fun x x0 x1=> ?_,fun x x0 x1 i=> ?_⟩
 ·rw[hs] at x1;rw[at1 x x0 x1];split
  ·rename_i c;rw[Zh0 (by rw[ln x x0 (by omega),atW_lenC wW (by omega) (by omega)])];exact ln x x0 (by omega)
  ·exact ln x x0 (by omega)
 ·rw[at1 x x0 x1];unfold Zrd;rw[Qn (show ¬(false=true) by decide)];by_cases c:e-t≤x
  ·rw[Qp c,←hW x c x1 i];by_cases d:x-(e-t)<tot W
   ·rw[Qp ⟨c,by omega⟩,Qp d,Zkp (by rw[ln x x0 (by omega),atW_lenC wW (by omega) (by omega)])]
   ·rw[Qn (by omega),Qn d,QbB]
  ·rw[Qn (by omega),Qn c,QbB]
theorem cut_off (nL:ZbG L)(wid:∀d∈L,d.2.length=wd)(e0:0≤e)(e1:e<tot L)(ht:0<t)(te:t≤e)(few:tot L-e≤t)(h:PutOf (paF 0 e L) (paF e (tot L) L) (e-t) R):IsCut L low t e false wd R:=by
 have pos:∀d∈L,0<d.1:=fun d hd=>nL.pos d hd;have eO:=paF_n nL e0 e1;have nd:=Zbx (a:=e) nL;have pd:∀d∈ZbH e L,0<d.1:=fun d hd=>nd.pos d hd;have tO:tot (ZbH e L)=tot L-e:=tot_dropF pos e0 (by omega);rw[eO] at h;refine Zm4 nL wid e0 e1 ht te (Zgx nd fun x x0 x1=> ?_) (by omega) h fun x x0 x1 i=> ?_
 ·rw[ZbK pos e0 x0];exact atW_lenC wid (by omega) (by omega)
 ·rw[Zja pos (by omega),show e-0=e by omega,Zqi ht (by omega) (by omega) i pd (QaL 0) (by omega),show x-e+t-0=x-(e-t) by omega];by_cases c:x-(e-t)<tot (ZbH e L)
  ·rw[Qp c,Qp (by omega)]
  ·rw[Qn c,Qn (by omega)]
theorem cut_wound (nL:ZbG L)(wid:∀d∈L,d.2.length=wd)(e0:0≤e)(e1:e<tot L)(ht:0<t)(te:t≤e){m:Nat}(hw:HeapOf wd (wst t (paF e (tot L) L) 0) 0 t W m)(h:PutOf (paF 0 e L) W (e-t) R):IsCut L low t e false wd R:=by
 have pos:∀d∈L,0<d.1:=fun d hd=>nL.pos d hd;have eO:=paF_n nL e0 e1;have tW:=hw.sum;refine Zm4 nL wid e0 e1 ht te hw.wid (by omega) h fun x x0 x1 i=> ?_;rw[Qp (by omega)]
 have:=hw.at' (x-(e-t)) (by omega) (by omega) i;rw[show x-(e-t)-0=x-(e-t) by omega] at this;rw[this,Zp2 ht (by omega) (by omega),Zja pos (by omega),eO,show e-0=e by omega,show x-e+t=x-(e-t) by omega]
end
end Toy
namespace L2
open PySem PySem.Spec PyProof.Rows
variable {H:Hp}{Q:VK}{Z:L2.St→Hp→Prop}{a pa pb:Addr}{n:Int}{ps:List PR}{L:WL2}
def ZlN (n:Int)(ps:List PR)(kd:Str)(u:V):Prop:=(∃i:Int,u= .int i∧(kd= "pairing" ∨kd= "place")∧Zq5 n ps kd i=true)∨(∃s:Str,u= .str s∧kd= "side" ∧(s= "low" ∨s= "high"))
def Zjb:Sp:=fun vs H Q _=>∃(u:V)(kd:Str)(a pa pb:Addr)(n:Int)(ps:List PR)(L:WL2)(ya yb:List V),vs=[u,.str kd,.ref a]∧ZaS H a pa pb n ps L ya yb∧ZlN n ps kd u∧Q (.bl true) H
theorem Zjc {K:FJ}{aS:Addr}{u:V}{kd:Str}{ya yb:List V}(hS:∀H',SqT K H' aS [.str "low",.str "high"])(h:ZaS H a pa pb n ps L ya yb)(hk:ZlN n ps kd u)(k:Q (.bl true) H):
  ZsO K aS {nx:=Z,rt:=Q } [some u,some (.str kd),some (.ref a),none] H:=by
 rcases hk with⟨i,rfl,hk,hf⟩|⟨s,rfl,rfl,hs⟩
 ·exact Zk6 h hk (by rw[hf];exact k)
 ·refine⟨_,rfl,rfl,_,rfl,?_⟩;rw[Qam rfl];refine Zcl ⟨_,rfl,V.str s,_,_,rfl,.str _,Zqe,_,rfl,Zcl ⟨_,rfl,aS,_,rfl,.inr (hS _),rfl,rfl,?_⟩⟩;rcases hs with rfl|rfl
  ·exact k
  ·exact k
def Ze8 (K:FJ)(fs:List (Str×Addr)):Sp:=fun vs H Q _=>∃(a pa pb q g:Addr)(n:Int)(ps:List PR)(L:WL2)(ya yb:List V)(w:Str)(us:List V)(kds:List Str),vs=[.ref a,.ref q]∧ZaS H a pa pb n ps L ya yb∧H q=some (.tup (.str w::us))∧Zp5 fs w=some g∧(∀H',SqT K H' g (kds.map V.str))∧kds.length=us.length∧1≤us.length∧us.length≤3∧(∀(i:Nat)(kd:Str)(u:V),kds[i]?=some kd→us[i]?=some u→ZlN n ps kd u)∧∀H',Zam H H'→Q (.bl true) H'
def Zo2 (K:FJ)(fs:List (Str×Addr)):TS:=ZaL (Zeq (tOr (Zn8 (tB (tCB (fun xs H Q=>∃x t b,xs=[x,V.ty "tuple"]∧Zfw K H x t∧PySem.W.kitOne K t (Value.type "tuple")=some b∧Q (V.bl b) H) (Zaa (Zag 1) (Zaa (tC (V.ty "tuple")) Zap))))) (tOr (Zn8 fun σ H_1 Q=>Zag 1 σ H_1 fun x H'=>∃k,Zr9 K x H' k∧Q k H') (tOr (Zn8 (tB (tCB (fun xs H Q=>∃x t b,xs=[x,V.ty "str"]∧Zfw K H x t∧PySem.W.kitOne K t (Value.type "str")=some b∧Q (V.bl b) H) (Zaa (tOp (ZbO K) (Zag 1) (tC (V.int 0))) (Zaa (tC (V.ty "str")) Zap))))) (tB (ZmB fs (tOp (ZbO K) (Zag 1) (tC (V.int 0)))))))) (ZbB (tC (V.bl false))) ZcK) (ZaL (ZaW (ZqV fs (tOp (ZbO K) (Zag 1) (tC (V.int 0)))) (Zan 2)) (ZaL (Zeq (ZbE (tOp rNe (tCB (fun xs H Q=>∃p ys,xs=[V.ref p]∧(SqL K H p ys∨SqT K H p ys)∧Q (V.int ys.length) H) (Zaa (Zag 1) Zap)) (tOp (rI0 fun i j=>V.int (i+j)) (tC (V.int 1)) (tCB (fun xs H Q=>∃p ys,xs=[V.ref p]∧(SqL K H p ys∨SqT K H p ys)∧Q (V.int ys.length) H) (Zaa (Zag 2) Zap))))) (ZbB (tC (V.bl false))) ZcK) (ZbB (tCB (fun xs H_1 Q=>∃p bs,xs=[V.ref p]∧SqL K H_1 p (List.map V.bl bs)∧Q (V.bl (bs.all id)) H_1) (Zaa (ZbU 2 (ZqN K (Zaa (tSl (ZqE K) (Zag 1) (ZfA (tC (V.int 1))) ZcC) (Zaa (Zag 2) Zap))) (Zcp K 2 (ZaC (Zan 0) (ZaC (Zan 1) ZcN))) Zes (Zau Zjb [] E0 (Zaa (Zag 0) (Zaa (Zag 1) (Zaa (Zag 2) Zap))))) Zap)))))
theorem Zgy {K:FJ}{fs:List (Str×Addr)}{q g:Addr}{ya yb:List V}{w:Str}{us:List V}{kds:List Str}(h:ZaS H a pa pb n ps L ya yb)(hq:H q=some (.tup (.str w::us)))(hv:Zp5 fs w=some g)(hg:∀H',SqT K H' g (kds.map V.str))(hl:kds.length=us.length)(h1:1≤us.length)(h3:us.length≤3)(hk:∀(i:Nat)(kd:Str)(u:V),kds[i]?=some kd→us[i]?=some u→ZlN n ps kd u)
  (k:∀H',Zam H H'→Q (.bl true) H'):Zo2 K fs {nx:=Z,rt:=Q } [some (.ref a),some (.ref q),none] H:=by
 refine⟨_,rfl,V.ref q,_,_,rfl,Zfw.tup hq,ZpX,_,rfl,Zcd ?_⟩;refine⟨_,rfl,true,.inr (.inl ⟨_,SqT.of hq,rfl⟩),Zcd ?_⟩;refine⟨_,rfl,q,_,_,_,rfl,rfl,SqT.of hq,ZoS _ _,V.str w,_,_,rfl,.str _,Zqe,_,rfl,Zcd ?_⟩;refine⟨_,rfl,q,_,_,_,rfl,rfl,SqT.of hq,ZoS _ _,w,rfl,_,rfl,?_⟩;rw[hv];refine Zcd ?_;refine⟨_,rfl,q,_,_,_,rfl,rfl,SqT.of hq,ZoS _ _,w,g,rfl,hv,?_⟩;refine⟨_,rfl,q,_,rfl,.inr (SqT.of hq),_,rfl,g,_,rfl,.inr (hg _),_,_,rfl,rfl,rfl,_,rfl,?_⟩;rw[QaB,Qaf,hl,Qam (by congr 1;omega)];refine Zcd ?_;refine⟨_,rfl,1,rfl,q,_,rfl,SqT.of hq,?_,fun c hc=> ?_⟩
 ·rintro⟨z,_⟩;rw[show(some (1:Int))=some ((1:Nat):Int) from rfl,HT.sIx_nat,QaB] at z;omega
 have ec:Zf6 (V.str w::us) (some 1) none=us:=ZcT (k:=1) _ (by rw[QaB];omega);rw[ec];have s1:=Zam.nw (o:=.tup us) (Zam.refl H) hc;have f1:(upd H c (.tup us)) c=some (.tup us):=Zad;generalize upd H c (.tup us)=H1 at s1 f1⊢;refine⟨_,rfl,c,g,rfl,⟨_,SqT.of f1⟩,⟨_,hg _⟩,ZpY (K:=K) (a:=c) (b:=g) (xs:=us) (ys:=kds.map V.str) (n:=us.length) (fun m zs H'=>zs=(List.replicate m true).map V.bl∧Zam H1 H') ⟨rfl,Zam.refl _⟩ (by rw[Qaf,hl,QdR]) (by omega) (fun m zs H' h=>by rw[h.1,Qaf,QaT];exact Qai _) (fun m zs H' _ z=>⟨SqT.of (z.2 _ _ f1),hg _⟩) ?_ ?_⟩
 ·rintro m x y zs H2 pre pp qc hx hy ⟨rfl,s2⟩ hpp;rw[Qao] at hy
  cases ek:kds[m]? with
  |none=>rw[ek] at hy;cases hy
  |some kd=>
   rw[ek] at hy;cases hy;have s3:=Zam.nw (o:=.tup [x,.str kd]) s2 hpp;have f3:(upd H2 pp (.tup [x,.str kd])) pp=some (.tup [x,.str kd]):=Zad;change Zcp K 2 _ _ _ (upd H2 pp (.tup [x,.str kd])) _;generalize upd H2 pp (.tup [x,.str kd])=H3 at s3 f3⊢;rcases pre with _|⟨q0,_|⟨q1,_|⟨q2,pre⟩⟩⟩
   ·cases qc
   ·cases qc
   ·refine⟨pp,_,rfl,SqT.of f3,rfl,_,_,rfl,_,_,rfl,rfl,⟨[some _,some _],rfl,rfl⟩,?_⟩;unfold Zes;dsimp only;rw[Qp (rfl:true=true)];refine⟨_,rfl,_,rfl,_,rfl,x,kd,a,pa,pb,n,ps,L,ya,yb,rfl,h.up (s1.trans s3),hk m kd x ek hx,?_,s3⟩;rw[Qcd,Qau];rfl
   ·cases qc
 ·rintro zs H2 ⟨rfl,s2⟩ D hD;refine⟨D,List.replicate us.length true,rfl,SqL.of Zad,?_⟩
  have e:(List.replicate us.length true).all id=true:=by
   rw[List.all_replicate];split<;>rfl
  rw[e];exact k _ (s1.trans (Zam.nw s2 hD))
end L2
namespace HT
open PySem PyProof.Rows
section
variable {prog:Program}{w:World}{A:Around}{E:Value→Shared→Prop}{s:Shared}
theorem tuple_index2 {t:Addr}{a b x:Str}{ta tb tx:Tok}{Q:Value→Shared→Prop}(ht:IsTup s.heap t #[.str a ta,.str b tb])(hx:x=a∨(x≠a∧x=b))
  (h:Q (.int (if x=a then 0 else 1) s.toks) {s with toks:=s.toks+1 }):wpAny (model prog w) A (call (.builtin "tuple.index") [.ref t,.str x tx]) Q E s:=by
 refine QbE F.slot_tuple_index ht.typeIs F.entry_tuple_index ?_ (F.args_tuple_index_2 _ _);unfold Builtin.«tuple.index»;refine Qaa (m:=selfAndSome "tuple.index" "index" 1 3 _) (Qak ?_);refine Qaa (tupleItemsOf_ ht ?_);refine Qaa (m:=pure 0) (Qak ?_);refine Qaa (m:=pure _) (Qak ?_);refine Qaa (m:=forIn _ _ _) ?_;rw[Std.Legacy.Range.forIn_eq_forIn_range']
 have er:List.range' (0:Nat) ([:min #[Value.str a ta,Value.str b tb].size #[Value.str a ta,Value.str b tb].size]:Std.Legacy.Range).size 1=[0,1]:=by
  show List.range' 0 ((2-0+1-1)/1) 1=[0,1];rfl
 show wpAny _ _ (forIn (List.range' (0:Nat) ([:min #[Value.str a ta,Value.str b tb].size #[Value.str a ta,Value.str b tb].size]:Std.Legacy.Range).size 1) _ _) _ _ s;rw[er];rw[QcI];refine Qaa (Qaa (m:=eqBool (.str a ta) (.str x tx)) (eqBool_str ?_));by_cases c:a=x
 ·subst c;rw[show(a==a)=true by simp];rw[Qp rfl] at h;refine Qaa (Qaa (wpAny_mkInt (Qak (Qak (Qak ?_)))));exact Qak ⟨_,rfl,h⟩
 ·rw[show(a==x)=false by simpa using c];rw[Qn (fun z=>c z.symm)] at h
  obtain rfl:x=b:=by
   rcases hx with z|z
   ·exact absurd z.symm c
   ·exact z.2
  refine Qak ?_;show wpAny _ _ (forIn [1] _ _) _ _ s;rw[QcI];refine Qaa (Qaa (m:=eqBool (.str x tb) (.str x tx)) (eqBool_str ?_));rw[show(x==x)=true by simp];refine Qaa (Qaa (wpAny_mkInt (Qak (Qak (Qak ?_)))));exact Qak ⟨_,rfl,h⟩
end
end HT
namespace L2
open PySem PySem.Spec PyProof.Rows
variable {H:Hp}{Q:VK}{Z:L2.St→Hp→Prop}{p l:PR}{s:Str}{q a b:Addr}{g x:Int}
section
variable {X:Cx}
def ZuC (K:FJ):V→List V→Hp→VK→Prop:=fun x vs H Q=>∃(p:Addr)(a b z:Str),x= .ref p∧vs=[.str z]∧SqT K H p [.str a,.str b]∧(z=a∨(z≠a∧z=b))∧Q (.int (if z=a then 0 else 1)) H
theorem Zm5 {K:FJ}(hK:X.K=K:=by rfl):MtR X "tuple.index" (ZuC K):=by
 subst hK;intro qa s σ H x vs v us Q I rx rv h;obtain⟨p,a,b,z,rfl,rfl,hx,hz,q⟩:=h;cases rx;obtain⟨u,rfl,t,rfl⟩:=Zc8 rv;obtain⟨its,r,ht,_⟩:=I.tuple hx;obtain⟨u1,u2,rfl,⟨t1,rfl⟩,⟨t2,rfl⟩⟩:=Zbg.two r;exact HT.tuple_index2 ht hz ⟨.int _,H,I.tok _,⟨s.toks,rfl⟩,q⟩
end
def bgP (p:PR)(s:Str):Int:=if s= "low" then p.1 else p.2.1
def otP (p:PR)(s:Str):Int:=if s= "low" then p.2.1 else p.1
def mlB (p:PR):Bool:=decide (p.1<p.2.1) && (!p.2.2.2 ||decide (p.1+p.2.2.1≤p.2.1))
def mcB (l p:PR)(s:Str):Bool:=mlB l && (decide (l.2.1≤bgP p s) && decide (bgP p s+p.2.2.1≤l.2.1+l.2.2.1))
def goP (l p:PR)(s:Str):Int:=if l.2.2.2=true then l.1+(l.2.1+l.2.2.1)-bgP p s-p.2.2.1 else l.1+(bgP p s-l.1) %(l.2.1-l.1)
def prP (i j g:Int)(t:Bool):PR:=(if j<i then j else i,if j>i then j else i,g,t)
def caP (l p:PR)(s:Str):PR:=prP (goP l p s) (otP p s) p.2.2.1 (p.2.2.2 !=l.2.2.2)
def SdS (s:Str):Prop:=s= "low" ∨s= "high"
def ZeI:Sp:=fun vs H Q _=>∃(i j g:Int)(t:Bool),vs=[.int i,.int j,.int g,.bl t]∧∀(c:Addr)(H':Hp),H c=none→Zam H H'→H' c=some (.tup (pV (prP i j g t)))→Q (.ref c) H'
def Zre:TS:=ZbB (Zcr (Zaa (tCB Jac Jak) (Zaa (tCB Jae Jak) (Zaa (Zag 2) (tQ1 3)))))
theorem Zh1 {i j:Int}{t:Bool}(k:∀(c:Addr)(H':Hp),H c=none→Zam H H'→H' c=some (.tup (pV (prP i j g t)))→Q (.ref c) H'):Zre {nx:=Z,rt:=Q } [some (.int i),some (.int j),some (.int g),some (.bl t)] H:=
 ⟨_,rfl,_,rfl,i,j,rfl,_,rfl,_,rfl,i,j,rfl,_,rfl,_,rfl,zL4,fun c hc=>k c _ hc (Zam.nw (Zam.refl H) hc) Zad⟩
def Zrf:Sp:=fun vs H Q _=>∃(b g l x:Int),vs=[.int b,.int g,.int l,.bl true,.int x]∧b≤x∧x<b+l∧Q (.int (g+l-1-(x-b))) H
def ZuO:TS:=ZaL (Zeq (Zn8 (ZbE (Zj2 Jan Jai (Zag 0) (Zag 4) (tOp Jaa (Zag 0) (Zag 2))))) (ZbB (tC V.non)) ZcK) (sQ1 (tOp Jad (Zag 4) (Zag 0)) 5 (ZbB (tIf (tB (Zag 3)) (tOp Jad (tOp Jad (tOp Jaa (Zag 1) (Zag 2)) (iQ1 1)) (Zag 5)) (tOp Jaa (Zag 1) (Zag 5)))))
theorem Zm6 {b l:Int}(h1:b≤x)(h2:x<b+l)(k:Q (.int (g+l-1-(x-b))) H):ZuO {nx:=Z,rt:=Q } [some (.int b),some (.int g),some (.int l),some (.bl true),some (.int x),none] H:=by
 refine⟨_,rfl,_,rfl,_,_,rfl,rfl,_,rfl,?_⟩;rw[Qam h1];refine Zcl ⟨_,rfl,_,rfl,_,_,rfl,rfl,_,_,rfl,rfl,_,rfl,?_⟩;rw[Qam h2];refine Zcd ⟨_,rfl,_,rfl,_,_,rfl,rfl,?_⟩;exact⟨_,rfl,_,rfl,Zcl ⟨_,rfl,_,rfl,_,_,rfl,rfl,_,_,rfl,rfl,_,rfl,_,_,rfl,rfl,k⟩⟩
def Zjd:Sp:=fun vs H Q _=>∃(q:Addr)(p:PR)(x:Int),vs=[.ref q,.int x]∧H q=some (.tup (pV p))∧p.2.2.2=true∧p.2.1≤x∧x<p.2.1+p.2.2.1∧Q (.int (p.1+p.2.2.1-1-(x-p.2.1))) H
def ZsZ (K:FJ):TS:=ZaL (ZaW (Zag 0) (Zcp K 4 (ZaC (Zan 2) (ZaC (Zan 3) (ZaC (Zan 4) (ZaC (Zan 5) ZcN)))))) (ZbB (Zau Zrf [] E0 (Zaa (Zag 3) (Zaa (Zag 2) (Zaa (Zag 4) (Zaa (Zag 5) (tQ1 1)))))))
theorem Zje {K:FJ}(hq:H q=some (.tup (pV p)))(ht:p.2.2.2=true)(h1:p.2.1≤x)(h2:x<p.2.1+p.2.2.1)(k:Q (.int (p.1+p.2.2.1-1-(x-p.2.1))) H):ZsZ K {nx:=Z,rt:=Q } [some (.ref q),some (.int x),none,none,none,none] H:=by
 obtain⟨l,h,g,t⟩:=p;dsimp only at ht h1 h2 k;subst ht;refine⟨_,rfl,q,_,rfl,SqT.of hq,rfl,_,_,rfl,_,_,rfl,_,_,rfl,_,_,rfl,rfl,?_⟩;exact⟨_,rfl,_,rfl,_,rfl,_,rfl,_,rfl,h,l,g,x,rfl,h1,h2,k⟩
def Zdd:Sp:=fun vs H Q _=>∃(q:Addr)(p:PR),vs=[.ref q]∧H q=some (.tup (pV p))∧Q (.bl (mlB p)) H
def Zo3 (K:FJ):TS:=ZaL (Jat K) (ZbB (Zc2 (tOp Jai (Zag 1) (Zag 2)) (ZtM (Ziy (Zag 4)) (tOp Jay (Zag 2) (tOp Jaa (Zag 1) (Zag 3))))))
theorem Zgz {K:FJ}(hq:H q=some (.tup (pV p)))(k:Q (.bl (mlB p)) H):Zo3 K {nx:=Z,rt:=Q } [some (.ref q),none,none,none,none] H:=by
 obtain⟨l,h,g,t⟩:=p;have e:mlB (l,h,g,t)=(decide (l<h) && (!t ||decide (l+g≤h))):=rfl;rw[e] at k;refine⟨_,rfl,q,_,rfl,SqT.of hq,rfl,_,_,rfl,_,_,rfl,_,_,rfl,_,_,rfl,rfl,?_⟩;refine⟨_,rfl,_,rfl,_,_,rfl,rfl,_,rfl,?_⟩
 cases hd:decide (l<h) with
 |false=>rw[hd] at k;exact Zcd k
 |true=>
  rw[hd] at k;refine Zcl ⟨_,rfl,t,rfl,_,rfl,?_⟩
  cases t with
  |false=>exact Zcl k
  |true=>exact Zcd ⟨_,rfl,_,rfl,_,rfl,_,_,rfl,rfl,_,_,rfl,rfl,k⟩
def Zde:Sp:=fun vs H Q _=>∃(q:Addr)(p:PR)(s:Str),vs=[.ref q,.str s]∧H q=some (.tup (pV p))∧SdS s∧Q (.int (bgP p s)) H
def Zo4 (K:FJ)(aS:Addr):TS:=ZbB (tOp (ZbO K) (Zag 0) (tBM K "tuple" (ZuC K) (tC (V.ref aS)) (tQ1 1)))
theorem ZgA {K:FJ}{aS:Addr}(hS:∀H',SqT K H' aS [.str "low",.str "high"])(dS:∃o,K.lookup aS=some o∧o.cls= .type "tuple" ∧o.dict=none)(hq:H q=some (.tup (pV p)))(hs:SdS s)(k:Q (.int (bgP p s)) H):Zo4 K aS {nx:=Z,rt:=Q } [some (.ref q),some (.str s)] H:=by
 refine⟨_,rfl,.inr (.inl ⟨rfl,dS⟩),_,rfl,aS, "low", "high",s,rfl,rfl,hS _,?_,?_⟩
 ·rcases hs with rfl|rfl
  ·exact .inl rfl
  ·exact .inr ⟨by decide,rfl⟩
 rcases hs with rfl|rfl
 ·exact⟨q,_,_,_,rfl,rfl,SqT.of hq,rfl,k⟩
 ·exact⟨q,_,_,_,rfl,rfl,SqT.of hq,rfl,k⟩
def ZcM:Sp:=fun vs H Q _=>∃(a b:Addr)(l p:PR)(s:Str),vs=[.ref a,.ref b,.str s]∧H a=some (.tup (pV l))∧H b=some (.tup (pV p))∧SdS s∧Q (.bl (mcB l p s)) H
def Zm7 (K:FJ):TS:=sQ1 (Zau Zde [] E0 (Zaa (Zag 1) (tQ1 2))) 3 (ZbB (Zc2 (Zau Zdd [] E0 (tQ1 0)) (Zc2 (tOp Jan (tOp (ZbO K) (Zag 0) (iQ1 1)) (Zag 3)) (tOp Jan (tOp Jaa (Zag 3) (tOp (ZbO K) (Zag 1) (iQ1 2))) Jau))))
theorem ZfE {K:FJ}(ha:H a=some (.tup (pV l)))(hb:H b=some (.tup (pV p)))(hs:SdS s)(k:Q (.bl (mcB l p s)) H):Zm7 K {nx:=Z,rt:=Q } [some (.ref a),some (.ref b),some (.str s),none] H:=by
 unfold mcB at k;refine⟨_,rfl,_,rfl,b,p,s,rfl,hb,hs,?_⟩;refine⟨_,rfl,a,l,rfl,ha,_,rfl,?_⟩
 cases hm:mlB l with
 |false=>rw[hm] at k;exact Zcd k
 |true=>
  rw[hm] at k;refine Zcl ⟨_,rfl,a,_,_,_,rfl,rfl,SqT.of ha,rfl,_,rfl,_,_,rfl,rfl,_,rfl,?_⟩
  cases hd:decide (l.2.1≤bgP p s) with
  |false=>rw[hd] at k;exact Zcd k
  |true=>
   rw[hd] at k;exact Zcl ⟨_,rfl,_,rfl,b,_,_,_,rfl,rfl,SqT.of hb,rfl,_,_,rfl,rfl,_,rfl,a,l,rfl,ha,_,_,rfl,rfl,k⟩
def Ze9:Sp:=fun vs H Q _=>∃(a b:Addr)(l p:PR)(s:Str),vs=[.ref a,.ref b,.str s]∧H a=some (.tup (pV l))∧H b=some (.tup (pV p))∧SdS s∧mcB l p s=true∧1≤p.2.2.1∧∀(c:Addr)(H':Hp),H c=none→Zam H H'→H' c=some (.tup (pV (caP l p s)))→Q (.ref c) H'
def Zo5 (K:FJ):TS:=ZaL (ZaW (Zag 1) (Zcp K 4 (ZaC (Zan 3) (ZaC (Zan 4) Jav)))) (sQ1 (Zau Zde [] E0 (Zaa (Zag 1) (tQ1 2))) 7 (sQ1 (tOp Jad (tOp Jaa (Zag 3) (Zag 4)) (Zag 7)) 8 (ZaL (Zeq (tB (tOp (ZbO K) (Zag 0) (iQ1 3))) (ZbB (Zau ZeI [] E0 (Zaa (Zau Zjd [] E0 (Zaa (Zag 0) (Zaa (tOp Jad (tOp Jaa (Zag 7) (Zag 5)) (iQ1 1)) Zap))) (Zaa (Zag 8) (Zaa (Zag 5) (Zaa (Ziy (Zag 6)) Zap)))))) ZcK) (sQ1 (tOp Jaa (Jap K) (tOp Jag (tOp Jad (Zag 7) (Jap K)) (Zau Zbt [] E0 (tQ1 0)))) 9 (ZbB (Zau ZeI [] E0 (Zaa (Zag 9) (Zaa (Zag 8) (Zaa (Zag 5) (tQ1 6))))))))))
theorem Zdo (h:mcB l p s=true):mlB l=true∧l.2.1≤bgP p s∧bgP p s+p.2.2.1≤l.2.1+l.2.2.1:=by
 unfold mcB at h;simp only[QaK,Qcf] at h;exact h
theorem Zt8 (h:mlB l=true):l.1<l.2.1:=by
 unfold mlB at h;simp only[QaK,Qcf] at h;exact h.1
theorem Zt9 (hs:SdS s):p.1+p.2.1-bgP p s=otP p s:=by
 rcases hs with rfl|rfl
 ·show p.1+p.2.1-p.1=p.2.1;omega
 ·show p.1+p.2.1-p.2.1=p.1;omega
theorem ZgB {K:FJ}(ha:H a=some (.tup (pV l)))(hb:H b=some (.tup (pV p)))(hs:SdS s)(hm:mcB l p s=true)(h1:1≤p.2.2.1)(k:∀(c:Addr)(H':Hp),H c=none→Zam H H'→H' c=some (.tup (pV (caP l p s)))→Q (.ref c) H'):Zo5 K {nx:=Z,rt:=Q } [some (.ref a),some (.ref b),some (.str s),none,none,none,none,none,none,none] H:=by
 obtain⟨m1,m2,m3⟩:=Zdo hm;have lt:=Zt8 m1;have eo:=Zt9 (p:=p) hs;unfold caP goP at k;refine⟨_,rfl,b,_,rfl,SqT.of hb,rfl,_,_,rfl,_,_,rfl,_,_,rfl,_,_,rfl,rfl,?_⟩;refine⟨_,rfl,_,rfl,b,p,s,rfl,hb,hs,?_⟩;refine⟨_,rfl,_,rfl,_,_,rfl,rfl,_,rfl,_,_,rfl,rfl,?_⟩;show(ZaL _ _) _ [some (.ref a),some (.ref b),some (.str s),some (.int p.1),some (.int p.2.1),some (.int p.2.2.1),some (.bl p.2.2.2),some (.int (bgP p s)),some (.int (p.1+p.2.1-bgP p s)),none] H;rw[eo];refine⟨_,rfl,a,_,_,_,rfl,rfl,SqT.of ha,rfl,?_⟩
 cases ht:l.2.2.2 with
 |true=>
  rw[ht,Qp rfl,show(p.2.2.2 !=true)= !p.2.2.2 by cases p.2.2.2<;>rfl] at k;refine⟨_,rfl,Zcl ⟨_,rfl,_,rfl,_,rfl,_,_,rfl,rfl,_,_,rfl,rfl,a,l,_,rfl,ha,ht,(by omega),(by omega),_,rfl,_,rfl,_,rfl,_,rfl,_,_,_,_,rfl,fun c H' hc s' hc'=>k c H' hc s' ?_⟩⟩;rw[show l.1+(l.2.1+l.2.2.1)-bgP p s-p.2.2.1=l.1+l.2.2.1-1-(bgP p s+p.2.2.1-1-l.2.1) by omega];exact hc'
 |false=>
  rw[ht,Qn (by decide),show(p.2.2.2 !=false)=p.2.2.2 by cases p.2.2.2<;>rfl] at k;refine⟨_,rfl,Zcd ?_⟩;refine⟨_,rfl,a,_,_,_,rfl,rfl,SqT.of ha,rfl,_,rfl,_,rfl,a,_,_,_,rfl,rfl,SqT.of ha,rfl,_,_,rfl,rfl,_,rfl,a,l,rfl,ha,_,_,rfl,rfl,(by show 0<l.2.1-l.1;omega),_,_,rfl,rfl,?_⟩;exact⟨_,rfl,_,rfl,_,rfl,_,rfl,_,_,_,_,rfl,k⟩
theorem Zh2 {j k:Nat}:(!decide (V.int (j:Int)=V.int (k:Int)))=decide (j≠k):=by
 by_cases h:j=k
 ·subst h;simp
 ·have:¬(V.int (j:Int)=V.int (k:Int)):=fun z=>h (by have:=V.int.inj z;omega);simp[h,this]
end L2
namespace Toy
open PySem L2 PyProof.Rows
variable {H H':Hp}{d:Addr}{n:Nat}{E:Ev}{S:Sl}{u:List Int}
theorem Zm8 {k:Int}(i:Nat):∀{E:Ev},(∀x∈E,x.1≠k)→RE E k i=0
 | [],_=>rfl
 |x::E,h=>by
  show co x.2 i*eqi x.1 k+RE E k i=0;rw[Zm8 i fun y hy=>h y (Qag _ hy)];unfold eqi;rw[Qn (h x Qah)];simp
theorem Zm9 (E:Ev)(k:Int)(u:List Int)(j:Int)(i:Nat):RE (E++ [(k,u)]) j i=RE E j i+co u i*eqi k j:=by
 rw[Zp0];show RE E j i+(co u i*eqi k j+0)=_;omega
structure DR (H:Hp)(d:Addr)(n:Nat)(E:Ev)(kvs:List (Key×V)):Prop where
 hd:H d=some (.dK kvs)
 keys:∃ks:List Int,kvs.map (·.1)=ks.map Sum.inl∧ks.Nodup∧∀k,k∈ks↔∃x∈E,x.1=k
 vals:∀(k:Int)(v:V),Zc5 kvs (.inl k)=some v→∃(p:Addr)(us:List Int),v= .ref p∧H p=some (.tup (us.map V.int))∧us.length=n∧∀i,co us i=RE E k i
theorem DR.new (h:H d=some (.dK [])):DR H d n [] []:=
 ⟨h,⟨[],rfl,QeK,fun k=>by simp⟩,fun k v e=>by rw[Zoy] at e;cases e⟩
theorem DR.up {kvs:List (Key×V)}(h:DR H d n E kvs)(hd:H' d=some (.dK kvs))(t:Za7 H H'):DR H' d n E kvs:=
 ⟨hd,h.keys,fun k v e=>by
  obtain⟨p,us,a,b,c⟩:=h.vals k v e
  exact⟨p,us,a,t _ _ b,c⟩⟩
theorem DR.none {H:Hp}{d:Addr}{n:Nat}{E:Ev}{kvs:List (Key×V)}(h:DR H d n E kvs){k:Int}(e:Zc5 kvs (.inl k)=none)(i:Nat):RE E k i=0:=by
 obtain⟨ks,hk,_,hm⟩:=h.keys;refine Zm8 i fun x hx z=>Zgl e ?_;rw[hk];exact QaR.mpr ⟨k,(hm k).mpr ⟨x,hx,z⟩,rfl⟩
theorem DR.put {q:Addr}{kvs:List (Key×V)}{k:Int}{us:List Int}(h:DR H d n E kvs)(hq:H' q=some (.tup (us.map V.int)))(hl:us.length=n)(hc:∀i,co us i=RE E k i+co u i)
  (hd:H' d=some (.dK (Zc3 kvs (.inl k) (.ref q)))) (t:Za7 H H'):DR H' d n (E++ [(k,u)]) (Zc3 kvs (.inl k) (.ref q)):=by
 obtain⟨ks,hk,hn,hm⟩:=h.keys;refine⟨hd,?_,fun j v e=> ?_⟩
 ·cases z:Zc5 kvs (Sum.inl k) with
  |none=>
   have hnk:k∉ks:=fun hin=>Zgl z (by rw[hk];exact QaR.mpr ⟨k,hin,rfl⟩);refine⟨ks++ [k],by rw[Zoz _ z,Qau,Qau,hk];rfl,Zmx hn hnk,fun j=> ?_⟩;rw[Qap,Qal,hm];constructor
   ·rintro(⟨x,hx,e⟩|rfl)
    ·exact⟨x,QaY _ hx,e⟩
    ·exact⟨(j,u),QaA _ (Qal.mpr rfl),rfl⟩
   ·rintro⟨x,hx,e⟩;rcases Qap.mp hx with y|y
    ·exact .inl ⟨x,y,e⟩
    ·rw[Qal.mp y] at e;exact .inr e.symm
  |some v=>
   have hin:k∈ks:=by
    have:=ZqU z;rw[hk] at this;obtain⟨j,hj,e⟩:=QaR.mp this;cases e;exact hj
   have ek:(Zc3 kvs (.inl k) (.ref q)).map (·.1)=kvs.map (·.1):=by
    unfold Zc3;rw[Zcx,z,Qp (by rfl),Qbc];refine QaO fun x _=> ?_;show(if x.1=Sum.inl k then(x.1,V.ref q) else x).1=x.1;split<;>rfl
   refine⟨ks,by rw[ek,hk],hn,fun j=> ?_⟩;rw[hm];constructor
   ·rintro⟨x,hx,e⟩;exact⟨x,QaY _ hx,e⟩
   ·rintro⟨x,hx,e⟩;rcases Qap.mp hx with y|y
    ·exact⟨x,y,e⟩
    ·rw[Qal.mp y] at e;have e:k=j:=e;subst e;exact(hm k).mp hin
 ·rw[Zgk] at e;by_cases z:(Sum.inl j:Key)=Sum.inl k
  ·rw[Qp z] at e;cases e;cases z;refine⟨q,us,rfl,hq,hl,fun i=> ?_⟩;rw[Zm9,hc];unfold eqi;rw[Qp rfl,Qc9]
  ·rw[Qn z] at e;obtain⟨p,ws,a,b,c,f⟩:=h.vals j v e;refine⟨p,ws,a,t _ _ b,c,fun i=> ?_⟩;rw[Zm9,f];unfold eqi;rw[Qn (fun y=>z (by rw[y])),Qcz,QbB]
theorem Za7.dk {kvs:List (Key×V)}{o:HO}(t:Za7 H H')(h:H' d=some (.dK kvs)):Za7 H (upd H' d o):=fun b ys hb=>by
 have:=t b ys hb;rw[Zaq (Zob this h (by intro z;cases z))];exact this
theorem DR.get {kvs:List (Key×V)}(h:DR H d n E kvs)(k:Int){r:Addr}(hr:H r=some (.tup ((u.map (· *0)).map V.int)))(hu:u.length=n):
  ∃(p:Addr)(us:List Int),(Zc5 kvs (Sum.inl k)).getD (.ref r)= .ref p∧H p=some (.tup (us.map V.int))∧us.length=n∧∀i,co us i=RE E k i:=by
 cases z:Zc5 kvs (Sum.inl k:Key) with
 |none=>exact⟨r,_,rfl,hr,by rw[Qaf];exact hu,fun i=>by rw[ZeG,h.none z,Qcz]⟩
 |some v=>
  obtain⟨p,us,rfl,a,b,c⟩:=h.vals k v z;exact⟨p,us,rfl,a,b,c⟩
theorem Zfa:∀{l:List Int},l.Pairwise (· ≤ ·)→l.Nodup→l.Pairwise (· < ·)
 | [],_,_=> .nil
 |a::l,h,n=>by
  rw[Qc2] at h⊢;rw[QbV] at n
  exact⟨fun b hb=>by
   have h1:=h.1 b hb
   rcases Int.lt_or_eq_of_le h1 with z|z
   ·exact z
   ·exact absurd (z ▸ hb) n.1,Zfa h.2 n.2⟩
theorem Zrg (xs:List V):Zf6 xs (some 1) none=xs.drop 1:=by
 unfold Zf6 HT.sIx
 cases xs with
 |nil=>rfl
 |cons x xs=>simp
def Stg (H:Hp)(xs:List V)(S:Sl):Prop:=xs.length=S.length∧∀(i:Nat)(x:V)(s:Int×Int×List Int),xs[i]?=some x→S[i]?=some s→∃(p wq:Addr),x= .ref p∧H p=some (.tup [.int s.1,.int s.2.1,.ref wq])∧H wq=some (.tup (s.2.2.map V.int))
theorem Stg.nil (H:Hp):Stg H [] []:=⟨rfl,fun i x s h=>by cases h⟩
theorem Stg.up {xs:List V}(h:Stg H xs S)(t:Za7 H H'):Stg H' xs S:=⟨h.1,fun i x s h1 h2=>by
 obtain⟨p,wq,a,b,c⟩:=h.2 i x s h1 h2
 exact⟨p,wq,a,t _ _ b,t _ _ c⟩⟩
theorem Stg.snoc {xs:List V}{x:V}{s:Int×Int×List Int}(h:Stg H xs S)(hx:∃(p wq:Addr),x= .ref p∧H p=some (.tup [.int s.1,.int s.2.1,.ref wq])∧H wq=some (.tup (s.2.2.map V.int))):Stg H (xs++ [x]) (S++ [s]):=by
 refine⟨by rw[Qae,Qae,h.1];rfl,fun i y r h1 h2=> ?_⟩;by_cases z:i<xs.length
 ·rw[Qas z] at h1;rw[Qas (h.1 ▸ z)] at h2;exact h.2 i y r h1 h2
 ·rw[Qaq (by omega)] at h1;rw[Qaq (by have:=h.1;omega)] at h2;rw[h.1] at h1
  cases w:i-S.length with
  |zero=>rw[w] at h1 h2;cases h1;cases h2;exact hx
  |succ m=>rw[w] at h1;cases h1
theorem Stg.at' {xs:List V}(h:Stg H xs S){i:Nat}{x:V}(hx:xs[i]?=some x):∃s,S[i]?=some s∧∃(p wq:Addr),x= .ref p∧H p=some (.tup [.int s.1,.int s.2.1,.ref wq])∧H wq=some (.tup (s.2.2.map V.int)):=by
 have hi:i<S.length:=by rw[←h.1];exact(Qab.mp hx).1
 exact⟨S[i],by simp[hi],h.2 i x _ hx (by simp[hi])⟩
end Toy
namespace L2
open PySem PySem.Spec PyProof.Rows
variable {ps qs ps':List PR}{n x y e b z:Int}{p ld:PR}{H H' H2:Hp}{wd j m i r:Nat}{L R B rs:WL2}{Q:VK}{Z:L2.St→Hp→Prop}{a pa l pb q C d c dx I ds:Addr}{f:Nat→Nat}{s0:Int×List PR}{W:Nat→Nat→Int}{s k1:Str}{S:List (List Int×Int)}{w:World}{X:Cx}{σ:St}{prog:Program}{A:Around}{g:Nat→Int}{o:Obj}{sp:Sp}{es:List Expr}{ta td:TE}{qg:PySem.Pos}{fp wr:List Addr}{P:Nat→Value→Prop}{E:Value→Shared→Prop}{vs:List (Key×Value)}{tg:Expr}{ns:List Int}
section
variable {K:FJ}
def Zh3:Sp:=fun vs H Q _=>∃(i j l:Int)(t:Bool),vs=[.int i,.int j,.int l,.bl t]∧∀p,H p=none→Q (.ref p) (upd H p (.tup [.int (if j<i then j else i),.int (if j>i then j else i),.int l,.bl t]))
def ZeJ:Sp:=fun vs H Q _=>∃(p:Addr)(low high long:Int)(t:Bool)(u m:Int),vs=[.ref p,.int u,.int m]∧H p=some (.tup [.int low,.int high,.int long,.bl t])∧∀q,H q=none→Q (.ref q) (upd H q (.tup [.int (if high+(if t=true then long-u-m else u)<low+u then high+(if t=true then long-u-m else u) else low+u),.int (if high+(if t=true then long-u-m else u)>low+u then high+(if t=true then long-u-m else u) else low+u),.int m,.bl t]))
def Zfb (K:FJ):Sp:=fun vs H Q _=>∃(a:Addr)(xs:List V)(L:List (Int×List Int)),vs=[.ref a]∧SqL K H a xs∧Wg H xs L∧L.length≤1000∧∀H',Zam H H'→Q (.int (tot L)) H'
def Zkr:Sp:=fun vs H Q _=>∃(a b:Addr)(xs ys:List V)(A C:Toy.Wl)(bg:Int)(wd:Nat),vs=[.ref a,.int bg,.ref b]∧H a=some (.lst xs)∧H b=some (.lst ys)∧Wg H xs A∧Wg H ys C∧ZbG A∧(∀e∈C,0<e.1)∧0≤bg∧bg+tot C≤tot A∧A.length≤200∧C.length≤200∧wd≤24∧(∀e∈A,e.2.length=wd)∧(∀e∈C,e.2.length=wd)∧
 ∀(r:Addr)(zs:List V)(R:Toy.Wl)(H':Hp),H r=none→H' r=some (.lst zs)→Wg H' zs R→Toy.PutOf A C bg R→Zam H H'→Q (.ref r) H'
def Zjf (K:FJ):Sp:=fun vs H Q _=>∃(a:Addr)(xs:List V),vs=[.ref a]∧SqL K H a xs∧∀p,H p=none→Q (.ref p) (upd H p (.lst xs.reverse))
def Zc4 (p:PR)(e:Int):List PR:=if e-p.2.1=0 then [] else [(if p.2.2.2=true then p.1+p.2.2.1-(e-p.2.1) else p.1,p.2.1,e-p.2.1,p.2.2.2)]
def Zjg:Sp:=fun vs H Q _=>∃(q:Addr)(p:PR)(e:Int),vs=[.ref q,.int e]∧H q=some (.tup (pV p))∧mlB p=true∧p.2.1≤e∧e≤p.2.1+p.2.2.1∧∀(c:Addr)(ys:List V)(H':Hp),Zam H H'→H c=none→H' c=some (.lst ys)→CpL H' ys ((Zc4 p e).map pV)→Q (.ref c) H'
abbrev IsC (L:WL2)(p:PR)(e:Int)(wd:Nat)(R:WL2):Prop:=Toy.IsCut L p.1 (p.2.1-p.1) e p.2.2.2 wd R
def Zs0 (n:Int)(ps:List PR)(j:Nat)(p:PR)(e:Int):Bool:=mlB p && (decide (p.2.1+p.2.2.1=n) && (decide (p.2.1≤e) && ZeA (ps.take j++ps.drop (j+1)) e))
def Zjh (ps:List PR)(j:Nat)(p:PR)(e:Int):List PR:=ps.take j++Zc4 p e++ps.drop (j+1)
def Zs1 (K:FJ):TS:=ZaL (ZaW (Zag 0) (Zcp K 4 (ZaC (Zan 2) (ZaC (Zan 3) (ZaC (Zan 4) (ZaC (Zan 5) ZcN)))))) (sQ1 (tOp Jad (Zag 1) (Zag 3)) 6 (ZaL (Zeq (ZbE (tOp rEq (Zag 6) (iQ1 0))) (ZbB (Zc0 Zap)) ZcK) (ZbB (Zc0 (Zaa (Zau ZeJ [] E0 (Zaa (Zag 0) (Zaa (tIf (tB (Zag 5)) (tOp Jad (Zag 4) (Zag 6)) (iQ1 0)) (tQ1 6)))) Zap)))))
end
def LkE (a b l:Int)(t:Bool)(x y:Int):Prop:=a≤x∧x<a+l∧y=if t=true then b+l-1-(x-a) else b+(x-a)
def Lk (p:PR)(x y:Int):Prop:=LkE p.1 p.2.1 p.2.2.1 p.2.2.2 x y
def Lp (ps:List PR)(x y:Int):Prop:=∃p∈ps,Lk p x y∨Lk p y x
def Cn (ps:List PR)(x y:Int):Prop:=ZhR (Lp ps) x y
theorem LkE.flip {a l:Int}{t:Bool}(h:LkE a b l t x y):LkE b a l t y x:=by
 obtain⟨h1,h2,h3⟩:=h;unfold LkE;cases t
 ·simp only[QaI,Qbv] at h3⊢;omega
 ·simp only[QbW] at h3⊢;omega
theorem Zqj {i j g:Int}{t:Bool}:(Lk (prP i j g t) x y∨Lk (prP i j g t) y x)↔(LkE i j g t x y∨LkE i j g t y x):=by
 unfold Lk prP;by_cases c:j<i
 ·simp only[Qp c,Qn (show ¬j>i by omega)];exact⟨fun h=>h.elim (fun h=> .inr h.flip) fun h=> .inl h.flip,fun h=>h.elim (fun h=> .inr h.flip) fun h=> .inl h.flip⟩
 ·by_cases d:j>i
  ·simp only[Qn c,Qp d]
  ·have:i=j:=by omega
   subst this;simp only[Qn c]
theorem Lp.symm {ps:List PR}{x y:Int}(h:Lp ps x y):Lp ps y x:=by
 obtain⟨p,hp,h⟩:=h;exact⟨p,hp,h.symm⟩
theorem Cn.symm {ps:List PR}{x y:Int}(h:Cn ps x y):Cn ps y x:=ZhR.symm (fun _ _=>Lp.symm) h
theorem Cn.trans {ps:List PR}{x y z:Int}(h:Cn ps x y)(k:Cn ps y z):Cn ps x z:=ZhR.trans h k
theorem Cn.of (hp:p∈ps)(h:Lk p x y):Cn ps x y:=.one ⟨p,hp,.inl h⟩
theorem Cn.mono (h:∀p∈ps,∀x y,Lk p x y→Cn qs x y)(c:Cn ps x y):Cn qs x y:=by
 induction c with
 |refl=>exact .refl _
 |step _ r ih=>
  obtain⟨p,hp,r|r⟩:=r
  ·exact ih.trans (h p hp _ _ r)
  ·exact ih.trans (h p hp _ _ r).symm
theorem Cn.sub (h:∀p∈ps,p∈qs)(c:Cn ps x y):Cn qs x y:=c.mono fun p hp _ _ l=> .of (h p hp) l
theorem ZeK {p:PR}(ht:p.2.2.2=false){y:Int}(h0:p.1≤y):∀m:Nat,y+(m:Int)*(p.2.1-p.1)<p.2.1+p.2.2.1→p.1≤p.2.1→Cn [p] y (y+(m:Int)*(p.2.1-p.1))
 |0,_,_=>by rw[show y+((0:Nat):Int)*(p.2.1-p.1)=y by simp];exact .refl _
 |m+1,h1,h2=>by
  have e:((m+1:Nat):Int)*(p.2.1-p.1)=(m:Int)*(p.2.1-p.1)+(p.2.1-p.1):=by rw[QdI,Int.add_mul];simp
  rw[e] at h1⊢;have m0:0≤(m:Int)*(p.2.1-p.1):=Int.mul_nonneg (by omega) (by omega);refine Cn.trans (ZeK ht h0 m (by omega) h2) (.of Qah ⟨by omega,by omega,?_⟩);rw[ht];simp only[QaI,Qbv];omega
theorem ZaU {α:Type}{ps:List α}{k:Nat}{p:α}(h:ps[k]?=some p):p∈ps:=Qav h
theorem Zji {α:Type}{ps C:List α}{k:Nat}{p:α}(hk:ps[k]?=some p){q:α}(h:q∈ps):q=p∨q∈ps.take k++C++ps.drop (k+1):=by
 have e:ps=ps.take k++p::ps.drop (k+1):=by
  obtain⟨hl,e⟩:=Qab.mp hk
  have:=Qcr k ps;rw[Qb5 hl,e] at this;exact this.symm
 rw[e,Qap,Qaw] at h;rcases h with h|rfl|h
 ·exact .inr (by simp[h])
 ·exact .inl rfl
 ·exact .inr (by simp[h])
theorem Zna {α:Type}{ps C:List α}{k:Nat}{q:α}(h:q∈ps.take k++C++ps.drop (k+1)):q∈ps∨q∈C:=by
 rw[Qap,Qap] at h;rcases h with(h|h)|h
 ·exact .inl (Qbf h)
 ·exact .inr h
 ·exact .inl (Qbm h)
theorem Znb {C:List PR}{k:Nat}(hk:ps[k]?=some p)(h1:∀x y,Lk p x y→Cn (ps.take k++C++ps.drop (k+1)) x y)(h2:∀q∈C,∀x y,Lk q x y→Cn ps x y)(x y:Int):Cn (ps.take k++C++ps.drop (k+1)) x y↔Cn ps x y:=by
 refine⟨Cn.mono fun q hq x y l=> ?_,Cn.mono fun q hq x y l=> ?_⟩
 ·rcases Zna hq with hq|hq
  ·exact .of hq l
  ·exact h2 q hq x y l
 ·rcases Zji (C:=C) hk hq with rfl|hq
  ·exact h1 x y l
  ·exact .of hq l
theorem Zua (h:goB p=true)(l:Lk p x y):x=y:=by
 obtain⟨h1,h2,h3⟩:=l;unfold goB at h;rw[QaK] at h;have e:=Qar h.1
 cases ht:p.2.2.2 with
 |false=>rw[ht] at h3;simp only[QaI,Qbv] at h3;omega
 |true=>
  rw[ht] at h3 h
  have:=Qar (show decide (p.2.2.1=1)=true by simpa using h.2);simp only[QbW] at h3;omega
theorem Zrh {k:Nat}(hk:ps[k]?=some p)(h:goB p=true)(x y:Int):Cn (ps.take k++ []++ps.drop (k+1)) x y↔Cn ps x y:=
 Znb hk (fun x y l=>by rw[Zua h l];exact .refl _) (fun q hq=>by cases hq) x y
theorem Zfc (h:foB p=true):p.2.2.2=true∧p.2.1<p.1+p.2.2.1∧¬(p.1=p.2.1∧p.2.2.1=1):=by
 unfold foB at h;rw[QaK,QaK] at h;obtain⟨a,b,c⟩:=h;refine⟨a,Qar b,fun z=> ?_⟩;unfold goB at c;rw[z.1,z.2,Qam rfl] at c;simp at c
theorem Zri {k:Nat}(hk:ps[k]?=some p)(hl:p.1≤p.2.1)(h:foB p=true)(x y:Int):Cn (ps.take k++ [foP p]++ps.drop (k+1)) x y↔Cn ps x y:=by
 obtain⟨f1,f2,f3⟩:=Zfc h;refine Znb hk (fun x y l=> ?_) (fun q hq x y l=> ?_) x y
 ·obtain⟨l1,l2,l3⟩:=l;rw[f1] at l3;simp only[QbW] at l3;have hm:foP p∈ps.take k++ [foP p]++ps.drop (k+1):=by simp
  by_cases c:x<y
  ·refine .of hm ⟨l1,?_,?_⟩
   ·show x<p.1+((p.1+p.2.1+p.2.2.1-1+1)/2-p.1);omega
   ·show y=if true=true then(p.1+p.2.1+p.2.2.1-1+1-p.1-foM p)+foM p-1-(x-p.1) else _;rw[Qp rfl];omega
  ·by_cases d:x=y
   ·rw[d];exact .refl _
   ·refine Cn.symm (.of hm ⟨?_,?_,?_⟩)
    ·show p.1≤y;omega
    ·show y<p.1+((p.1+p.2.1+p.2.2.1-1+1)/2-p.1);omega
    ·show x=if true=true then(p.1+p.2.1+p.2.2.1-1+1-p.1-foM p)+foM p-1-(y-p.1) else _;rw[Qp rfl];omega
 ·rw[Qal] at hq;subst hq;obtain⟨l1,l2,l3⟩:=l;have l1:p.1≤x:=l1;have l2:x<p.1+((p.1+p.2.1+p.2.2.1-1+1)/2-p.1):=l2;have l3:y=if true=true then(p.1+p.2.1+p.2.2.1-1+1-p.1-foM p)+foM p-1-(x-p.1) else _:=l3;rw[Qp rfl] at l3;refine .of (ZaU hk) ⟨l1,by omega,?_⟩;rw[f1,Qp rfl];omega
open PySem (Str)
theorem Zcn (h:mlB p=true):p.1<p.2.1∧(p.2.2.2=true→p.1+p.2.2.1≤p.2.1):=by
 unfold mlB at h;rw[QaK] at h;refine⟨Qar h.1,fun z=> ?_⟩
 have:=h.2;rw[z] at this;exact Qar (by simpa using this)
def bkP (l:PR)(B z:Int):Int:=if l.2.2.2=true then l.1+(l.2.1+l.2.2.1)-1-z else l.1+(B-l.1) %(l.2.1-l.1)+(z-B)
theorem Znc {l:PR}(ml:mlB l=true){B:Int}(b0:l.2.1≤B)(bz:B≤z)(z1:z<l.2.1+l.2.2.1):Cn [l] (bkP l B z) z:=by
 obtain⟨m1,m2⟩:=Zcn ml;unfold bkP
 cases ht:l.2.2.2 with
 |true=>
  rw[Qp rfl];refine .of Qah ⟨by omega,by omega,?_⟩;rw[ht,Qp rfl];omega
 |false=>
  rw[Qn (by decide)];have tp:0<l.2.1-l.1:=by omega
  have e:=Qcb (B-l.1) (l.2.1-l.1);have r0:=QaX (B-l.1) (show l.2.1-l.1≠0 by omega);have r1:=QaQ (B-l.1) tp;have q0:0≤(B-l.1)/(l.2.1-l.1):=QdJ (by omega) (by omega);have em:(((B-l.1)/(l.2.1-l.1)).toNat:Int)*(l.2.1-l.1)=(l.2.1-l.1)*((B-l.1)/(l.2.1-l.1)):=by rw[Qbe q0,QeY]
  have:=ZeK (p:=l) ht (y:=l.1+(B-l.1) %(l.2.1-l.1)+(z-B)) (by omega) ((B-l.1)/(l.2.1-l.1)).toNat (by rw[em];omega) (by omega);rw[em] at this;rw[show l.1+(B-l.1) %(l.2.1-l.1)+(z-B)+(l.2.1-l.1)*((B-l.1)/(l.2.1-l.1))=z by omega] at this;exact this
theorem Znd (hs:SdS s):(Lk p x y∨Lk p y x)↔(LkE (bgP p s) (otP p s) p.2.2.1 p.2.2.2 x y∨LkE (bgP p s) (otP p s) p.2.2.1 p.2.2.2 y x):=by
 unfold Lk bgP otP;rcases hs with rfl|rfl
 ·rw[Qp rfl,Qp rfl]
 ·rw[Qn (by decide),Qn (by decide)];exact⟨fun h=>h.elim (fun h=> .inr h.flip) fun h=> .inl h.flip,fun h=>h.elim (fun h=> .inr h.flip) fun h=> .inl h.flip⟩
theorem Zub {l:PR}(hs:SdS s)(h:mcB l p s=true)(k:LkE (bgP p s) (otP p s) p.2.2.1 p.2.2.2 x y):LkE (goP l p s) (otP p s) p.2.2.1 (p.2.2.2 !=l.2.2.2) (bkP l (bgP p s) x) y:=by
 obtain⟨k1,k2,k3⟩:=k;unfold LkE goP bkP;cases ht:l.2.2.2<;>cases hp:p.2.2.2<;>rw[hp] at k3<;>simp only[QbW,QaI,Qbv,bne_self_eq_false,Bool.bne_true,Bool.bne_false,QeS,QdW] at k3⊢ <;>omega
theorem Zuc {l:PR}(hs:SdS s)(h:mcB l p s=true)(k:LkE (goP l p s) (otP p s) p.2.2.1 (p.2.2.2 !=l.2.2.2) x y):∃z,x=bkP l (bgP p s) z∧LkE (bgP p s) (otP p s) p.2.2.1 p.2.2.2 z y:=by
 obtain⟨k1,k2,k3⟩:=k;refine⟨if l.2.2.2=true then bgP p s+p.2.2.1-1-(x-goP l p s) else bgP p s+(x-goP l p s),?_,?_⟩
 ·unfold goP bkP at*;cases ht:l.2.2.2<;>rw[ht] at k1 k2<;>simp only[QbW,QaI,Qbv] at k1 k2⊢ <;>omega
 ·unfold LkE;cases ht:l.2.2.2<;>cases hp:p.2.2.2<;>rw[ht,hp] at k3<;>simp only[QbW,QaI,Qbv,bne_self_eq_false,Bool.bne_true,Bool.bne_false,QeS,QdW] at k3⊢ <;>omega
theorem Zo6 {k:Nat}{l:PR}(hs:SdS s)(hj:ps[j]?=some l)(hk:ps[k]?=some p)(ne:j≠k)(h:mcB l p s=true)(x y:Int):Cn (ps.take k++ [caP l p s]++ps.drop (k+1)) x y↔Cn ps x y:=by
 obtain⟨ml,b0,b1⟩:=Zdo h
 have lm:l∈ps.take k++ [caP l p s]++ps.drop (k+1):=by
  by_cases c:j<k
  ·refine QaY _ (QaY _ (ZaU (k:=j) ?_));rw[QcH,Qp c];exact hj
  ·refine QaA _ (ZaU (k:=j-(k+1)) ?_);rw[Qcs,show k+1+(j-(k+1))=j by omega];exact hj
 have cm:caP l p s∈ps.take k++ [caP l p s]++ps.drop (k+1):=by simp
 have lead:∀{qs:List PR},l∈qs→∀{z},bgP p s≤z→z<bgP p s+p.2.2.1→Cn qs (bkP l (bgP p s) z) z:=fun hq z z0 z1=>(Znc ml b0 z0 (by omega)).sub fun q hq'=>by rw[Qal.mp hq'];exact hq
 have key:∀{a b:Int},LkE (bgP p s) (otP p s) p.2.2.1 p.2.2.2 a b→Cn (ps.take k++ [caP l p s]++ps.drop (k+1)) a b:=fun{a b} r=>
  (lead lm r.1 r.2.1).symm.trans (.one ⟨_,cm,Zqj.mpr (.inl (Zub hs h r))⟩)
 refine Znb hk (fun x y r=> ?_) (fun q hq x y r=> ?_) x y
 ·rcases(Znd hs).mp (.inl r) with r|r
  ·exact key r
  ·exact(key r).symm
 ·rw[Qal] at hq;subst hq
  have key2:∀{a b:Int},LkE (goP l p s) (otP p s) p.2.2.1 (p.2.2.2 !=l.2.2.2) a b→Cn ps a b:=fun{a b} r=>by
   obtain⟨z,rfl,r2⟩:=Zuc hs h r;exact(lead (ZaU hj) r2.1 r2.2.1).trans (.one ⟨p,ZaU hk,(Znd hs).mpr (.inl r2)⟩)
  rcases Zqj.mp (.inl r) with r|r
  ·exact key2 r
  ·exact(key2 r).symm
theorem ZuD {R:Int→Int→Prop}(sy:∀x y,R x y→R y x)(tr:∀x y z,R x y→R y z→R x z):∀(m s t:Nat)(a b:Int),s+t≤m→0<s→0<t→a+(s:Int)+t≤b→(∀x,a≤x→x+s<b→R x (x+s))→(∀x,a≤x→x+t<b→R x (x+t))→∀x,a≤x→x+(Nat.gcd s t:Nat)<b→R x (x+(Nat.gcd s t:Nat))
 |0,s,t,a,b,hm,hs,_,_,_,_=>by omega
 |m+1,s,t,a,b,hm,hs,ht,hb,hS,hT=>by
  have main:∀(s t:Nat),s+t≤m+1→0<s→s<t→a+(s:Int)+t≤b→(∀x,a≤x→x+s<b→R x (x+s))→(∀x,a≤x→x+t<b→R x (x+t))→∀x,a≤x→x+(Nat.gcd s t:Nat)<b→R x (x+(Nat.gcd s t:Nat)):=fun s t hm hs hst hb hS hT x x0 x1=>by
   have eg:Nat.gcd s (t-s)=Nat.gcd s t:=Nat.gcd_sub_self_right (by omega)
   have ih:=ZuD sy tr m s (t-s) a (b-s) (by omega) hs (by omega) (by omega) (fun x x0 x1=>hS x x0 (by omega)) fun x x0 x1=>by
    have h1:=hT x x0 (by omega);have h2:=hS (x+((t-s:Nat):Int)) (by omega) (by omega);rw[show x+((t-s:Nat):Int)+s=x+t by omega] at h2;exact tr _ _ _ h1 (sy _ _ h2)
   rw[eg] at ih;by_cases c:x+(Nat.gcd s t:Nat)<b-s
   ·exact ih x x0 c
   ·have g1:Nat.gcd s t≤t-s:=by rw[←eg];exact Qep _ (by omega)
    have h1:=hS (x-s) (by omega) (by omega);have h2:=ih (x-s) (by omega) (by omega);have h3:=hS (x-s+(Nat.gcd s t:Nat)) (by omega) (by omega);rw[show x-s+(s:Int)=x by omega] at h1;rw[show x-s+(Nat.gcd s t:Nat)+(s:Int)=x+(Nat.gcd s t:Nat) by omega] at h3;exact tr _ _ _ (sy _ _ h1) (tr _ _ _ h2 h3)
  by_cases c:s<t
  ·exact main s t hm hs c hb hS hT
  ·by_cases d:t<s
   ·rw[QeX];exact main t s (by omega) ht d (by omega) hT hS
   ·have:s=t:=by omega
    subst this;rw[Nat.gcd_self];exact hS
theorem Zbu (h:itB p=true):p.2.2.2=false∧p.1<p.2.1∧p.2.1≤p.1+p.2.2.1:=by
 unfold itB at h;rw[QaK,QaK] at h;exact⟨by simpa using h.1,Qar h.2.1,Qar h.2.2⟩
theorem Zh4 (i j:Int):mnI i j≤i∧mnI i j≤j∧(mnI i j=i∨mnI i j=j):=by unfold mnI;split<;>omega
theorem Zh5 (i j:Int):i≤mxI i j∧j≤mxI i j∧(mxI i j=i∨mxI i j=j):=by unfold mxI;split<;>omega
theorem ZgC {q:PR}(h:mjB p q=true):itB p=true∧itB q=true∧(p.2.1-p.1)+(q.2.1-q.1)≤mnI (p.2.1+p.2.2.1) (q.2.1+q.2.2.1)-mxI p.1 q.1:=by
 unfold mjB at h;rw[QaK,QaK] at h;exact⟨h.1,h.2.1,Qar h.2.2⟩
theorem Zfd (hp:p∈qs)(h:itB p=true)(m:Nat)(x0:p.1≤x)(x1:x+(m:Int)*(p.2.1-p.1)<p.2.1+p.2.2.1):Cn qs x (x+(m:Int)*(p.2.1-p.1)):=
 (ZeK (Zbu h).1 x0 m x1 (by have:=Zbu h;omega)).sub fun q hq=>by rw[Qal.mp hq];exact hp
theorem Zks {s:Int}(hs:0<s){a:Int}(h:x≤a):∃m:Nat,a≤x+(m:Int)*s∧x+(m:Int)*s<a+s:=by
 refine⟨((a-x+s-1)/s).toNat,?_⟩;have e:=Qcb (a-x+s-1) s;have r0:=QaX (a-x+s-1) (show s≠0 by omega);have r1:=QaQ (a-x+s-1) hs;have q0:0≤(a-x+s-1)/s:=QdJ (by omega) (by omega);rw[Qbe q0,QeY];omega
theorem Zud {q:PR}(hp:p∈qs)(hq:q∈qs)(h:mjB p q=true)(l:Lk (joP p q) x y):Cn qs x y:=by
 obtain⟨ip,iq,ov⟩:=ZgC h;obtain⟨p1,p2,p3⟩:=Zbu ip;obtain⟨q1,q2,q3⟩:=Zbu iq;obtain⟨l1,l2,l3⟩:=l;have l1:mnI p.1 q.1≤x:=l1;have l2:x<mnI p.1 q.1+(mxI (p.2.1+p.2.2.1) (q.2.1+q.2.2.1)-mnI p.1 q.1-(Nat.gcd (p.2.1-p.1).toNat (q.2.1-q.1).toNat:Nat)):=l2;have l3:y=if false=true then _ else mnI p.1 q.1+(Nat.gcd (p.2.1-p.1).toNat (q.2.1-q.1).toNat:Nat)+(x-mnI p.1 q.1):=l3;rw[Qn (by decide)] at l3;generalize eS:(p.2.1-p.1).toNat=s at*;generalize eT:(q.2.1-q.1).toNat=t at*;have gs:Nat.gcd s t≤s:=Nat.gcd_le_left _ (by omega);have gt:Nat.gcd s t≤t:=Qep _ (by omega);obtain⟨n1,n2,n3⟩:=Zh4 p.1 q.1;obtain⟨m1,m2,m3⟩:=Zh5 (p.2.1+p.2.2.1) (q.2.1+q.2.2.1);obtain⟨a1,a2,a3⟩:=Zh5 p.1 q.1;obtain⟨b1,b2,b3⟩:=Zh4 (p.2.1+p.2.2.1) (q.2.1+q.2.2.1);generalize mxI p.1 q.1=a at*;generalize mnI (p.2.1+p.2.2.1) (q.2.1+q.2.2.1)=b at*;generalize mnI p.1 q.1=A at*;generalize mxI (p.2.1+p.2.2.1) (q.2.1+q.2.2.1)=B at*;have g0:0<Nat.gcd s t:=Qek _ (by omega)
 have F:∀z,a≤z→z+(Nat.gcd s t:Nat)<b→Cn qs z (z+(Nat.gcd s t:Nat)):=
  ZuD (R:=Cn qs) (fun _ _=>Cn.symm) (fun _ _ _=>Cn.trans) (s+t) s t a b (Qai _) (by omega) (by omega) (by omega)
   (fun z z0 z1=>by
    have:=Zfd hp ip (x:=z) 1 (by omega) (by omega)
    rwa [show((1:Nat):Int)*(p.2.1-p.1)=s by omega] at this)
   (fun z z0 z1=>by
    have:=Zfd hq iq (x:=z) 1 (by omega) (by omega)
    rwa [show((1:Nat):Int)*(q.2.1-q.1)=t by omega] at this)
 generalize Nat.gcd s t=g at*;have ey:y=x+(g:Int):=by omega
 subst ey
 have up:∀r∈qs,itB r=true→r.1≤x→(g:Int)≤r.2.1-r.1→r.2.1-r.1+g≤b-a→b≤r.2.1+r.2.2.1→r.1≤a→x<a→Cn qs x (x+(g:Int)):=fun r hr ir r0 rg rs rb ra xa=>by
  obtain⟨i1,i2,i3⟩:=Zbu ir;obtain⟨m,e1,e2⟩:=Zks (s:=r.2.1-r.1) (by omega) (show x≤a by omega);have c1:=Zfd hr ir (x:=x) m r0 (by omega);have c2:=Zfd hr ir (x:=x+g) m (by omega) (by omega);have c3:=F _ e1 (by omega);rw[show x+(g:Int)+(m:Int)*(r.2.1-r.1)=x+(m:Int)*(r.2.1-r.1)+g by omega] at c2;exact c1.trans (c3.trans c2.symm)
 have down:∀r∈qs,itB r=true→x+(g:Int)<r.2.1+r.2.2.1→(g:Int)≤r.2.1-r.1→r.2.1-r.1+g≤b-a→r.1≤a→b≤x+(g:Int)→Cn qs x (x+(g:Int)):=fun r hr ir r1 rg rs ra xb=>by
  obtain⟨i1,i2,i3⟩:=Zbu ir;obtain⟨m,e1,e2⟩:=Zks (s:=r.2.1-r.1) (by omega) (show -(x+(g:Int))≤ -b+1 by omega);have c3:=F (x-(m:Int)*(r.2.1-r.1)) (by omega) (by omega);have c1:=Zfd hr ir (x:=x-(m:Int)*(r.2.1-r.1)) m (by omega) (by omega);have c2:=Zfd hr ir (x:=x-(m:Int)*(r.2.1-r.1)+g) m (by omega) (by omega);rw[show x-(m:Int)*(r.2.1-r.1)+(m:Int)*(r.2.1-r.1)=x by omega] at c1;rw[show x-(m:Int)*(r.2.1-r.1)+g+(m:Int)*(r.2.1-r.1)=x+g by omega] at c2;exact c1.symm.trans (c3.trans c2)
 by_cases ca:x<a
 ·rcases n3 with e|e
  ·exact up p hp ip (by omega) (by omega) (by omega) (by omega) (by omega) ca
  ·exact up q hq iq (by omega) (by omega) (by omega) (by omega) (by omega) ca
 ·by_cases cb:x+(g:Int)<b
  ·exact F x (by omega) cb
  ·rcases m3 with e|e
   ·exact down p hp ip (by omega) (by omega) (by omega) (by omega) (by omega)
   ·exact down q hq iq (by omega) (by omega) (by omega) (by omega) (by omega)
theorem Zjj {q:PR}(h:mjB p q=true):itB (joP p q)=true:=by
 obtain⟨ip,iq,ov⟩:=ZgC h;obtain⟨p1,p2,p3⟩:=Zbu ip;obtain⟨q1,q2,q3⟩:=Zbu iq;have g0:0<Nat.gcd (p.2.1-p.1).toNat (q.2.1-q.1).toNat:=Qek _ (by omega);have gs:Nat.gcd (p.2.1-p.1).toNat (q.2.1-q.1).toNat≤(p.2.1-p.1).toNat:=Nat.gcd_le_left _ (by omega);have gt:Nat.gcd (p.2.1-p.1).toNat (q.2.1-q.1).toNat≤(q.2.1-q.1).toNat:=Qep _ (by omega);obtain⟨n1,n2,n3⟩:=Zh4 p.1 q.1;obtain⟨m1,m2,m3⟩:=Zh5 (p.2.1+p.2.2.1) (q.2.1+q.2.2.1);unfold itB joP;simp only[QdW,Bool.true_and,QaK,Qcf];constructor<;>omega
theorem Zs2 {q:PR}(hj:joP p q∈qs)(h:mjB p q=true){r:PR}(hr:r=p∨r=q)(l:Lk r x y):Cn qs x y:=by
 obtain⟨ip,iq,ov⟩:=ZgC h;have ir:itB r=true:=by rcases hr with rfl|rfl<;>assumption
 obtain⟨i1,i2,i3⟩:=Zbu ir;obtain⟨l1,l2,l3⟩:=l;rw[i1,Qn (by decide)] at l3;obtain⟨n1,n2,n3⟩:=Zh4 p.1 q.1;obtain⟨m1,m2,m3⟩:=Zh5 (p.2.1+p.2.2.1) (q.2.1+q.2.2.1)
 have dv:Nat.gcd (p.2.1-p.1).toNat (q.2.1-q.1).toNat∣ (r.2.1-r.1).toNat:=by
  rcases hr with rfl|rfl
  ·exact Nat.gcd_dvd_left _ _
  ·exact Nat.gcd_dvd_right _ _
 obtain⟨c,ec⟩:=dv
 have e:(c:Int)*((joP p q).2.1-(joP p q).1)=r.2.1-r.1:=by
  show(c:Int)*(mnI p.1 q.1+(Nat.gcd (p.2.1-p.1).toNat (q.2.1-q.1).toNat:Nat)-mnI p.1 q.1)=_;rw[show mnI p.1 q.1+(Nat.gcd (p.2.1-p.1).toNat (q.2.1-q.1).toNat:Nat)-mnI p.1 q.1=(Nat.gcd (p.2.1-p.1).toNat (q.2.1-q.1).toNat:Int) by omega,←Int.natCast_mul,Nat.mul_comm,←ec];omega
 have:=Zfd hj (Zjj h) (x:=x) c (show mnI p.1 q.1≤x by rcases hr with rfl|rfl<;>omega) (by
  rw[e]
  show _<mnI p.1 q.1+(Nat.gcd (p.2.1-p.1).toNat (q.2.1-q.1).toNat:Nat)+(mxI (p.2.1+p.2.2.1) (q.2.1+q.2.2.1)-mnI p.1 q.1-(Nat.gcd (p.2.1-p.1).toNat (q.2.1-q.1).toNat:Nat))
  rcases hr with rfl|rfl<;>omega)
 rw[e] at this;rw[l3,show r.2.1+(x-r.1)=x+(r.2.1-r.1) by omega];exact this
theorem Zrj {k:Nat}{q:PR}(hj:ps[j]?=some p)(hk:ps[k]?=some q)(lt:j<k)(h:mjB p q=true)(x y:Int):Cn (ps.take j++ [joP p q]++((ps.take k).drop (j+1)++ps.drop (k+1))) x y↔Cn ps x y:=by
 have sp:(ps.take k).take j++p::(ps.take k).drop (j+1)=ps.take k:=by
  have e:(ps.take k)[j]?=some p:=by rw[QcH,Qp lt];exact hj
  obtain⟨hl,e⟩:=Qab.mp e
  have:=Qcr j (ps.take k);rw[Qb5 hl,e] at this;exact this
 have tt:(ps.take k).take j=ps.take j:=by rw[List.take_take,Qci (by omega)]
 have jm:joP p q∈ps.take j++ [joP p q]++((ps.take k).drop (j+1)++ps.drop (k+1)):=by simp
 refine⟨Cn.mono fun r hr x y l=> ?_,Cn.mono fun r hr x y l=> ?_⟩
 ·rw[Qap,Qap,Qap] at hr;rcases hr with(hr|hr)|hr|hr
  ·exact .of (Qbf hr) l
  ·rw[Qal] at hr;subst hr;exact Zud (ZaU hj) (ZaU hk) h l
  ·exact .of (Qbf (Qbm hr)) l
  ·exact .of (Qbm hr) l
 ·rcases Zji (C:=[]) hk hr with rfl|hr
  ·exact Zs2 jm h (.inr rfl) l
  ·rw[Qa5,Qap,←sp,tt,Qap,Qaw] at hr;rcases hr with(hr|rfl|hr)|hr
   ·exact .of (by simp[hr]) l
   ·exact Zs2 jm h (.inl rfl) l
   ·exact .of (by simp[hr]) l
   ·exact .of (by simp[hr]) l
def phi (p:PR)(e z:Int):Int:=if p.2.2.2=true then p.1+(p.2.1+p.2.2.1)-1-z else e-(p.2.1-p.1)+(z-e) %(p.2.1-p.1)
structure ZrX (n:Int)(ps:List PR)(j:Nat)(p:PR)(e:Int):Prop where
 at':ps[j]?=some p
 ml:mlB p=true
 en:p.2.1+p.2.2.1=n
 lo:p.2.1≤e
 hi:e<n
 l0:0≤p.1
 oth:∀q∈ps.take j++ps.drop (j+1),q.2.1+q.2.2.1≤e
 bnd:∀q∈ps,0≤q.1∧q.1≤q.2.1
theorem Zkt {t:Int}(ht:0<t):(x+t) %t=x%t:=by rw[Int.add_emod_right]
theorem ZrX.led (c:ZrX n ps j p e)(z0:e≤z)(z1:z<n):Cn [p] (phi p e z) z∧0≤phi p e z∧phi p e z<e:=by
 obtain⟨m1,m2⟩:=Zcn c.ml
 have:=c.en;have:=c.lo;have:=c.l0
 cases ht:p.2.2.2 with
 |true=>
  have:=m2 ht;refine⟨?_,by unfold phi;rw[ht,Qp rfl];omega,by unfold phi;rw[ht,Qp rfl];omega⟩;have h:=Znc c.ml (B:=e) (z:=z) (by omega) z0 (by omega);unfold bkP at h;unfold phi;rw[ht,Qp rfl] at h⊢;exact h
 |false=>
  have tp:0<p.2.1-p.1:=by omega
  have r0:=QaX (z-e) (show p.2.1-p.1≠0 by omega);have r1:=QaQ (z-e) tp;have ee:=Qcb (z-e) (p.2.1-p.1);have q0:0≤(z-e)/(p.2.1-p.1):=QdJ (by omega) (by omega)
  have em:(((z-e)/(p.2.1-p.1)).toNat+1:Nat)*(p.2.1-p.1)=(p.2.1-p.1)*((z-e)/(p.2.1-p.1))+(p.2.1-p.1):=by
   rw[QdI,Qbe q0,Int.add_mul,QeY];simp
  refine⟨?_,by unfold phi;rw[ht,Qn (by decide)];omega,by unfold phi;rw[ht,Qn (by decide)];omega⟩;have h:=ZeK (p:=p) ht (y:=phi p e z) (by unfold phi;rw[ht,Qn (by decide)];omega) (((z-e)/(p.2.1-p.1)).toNat+1) (by rw[em];unfold phi;rw[ht,Qn (by decide)];omega) (by omega);rw[em] at h;have e2:phi p e z+((p.2.1-p.1)*((z-e)/(p.2.1-p.1))+(p.2.1-p.1))=z:=by unfold phi;rw[ht,Qn (by decide)];omega
  rw[e2] at h;exact h
theorem Zne (ml:mlB p=true)(lo:p.2.1≤e)(hi:e≤p.2.1+p.2.2.1){q:PR}(hq:q∈Zc4 p e):Lk q x y↔Lk p x y∧y<e:=by
 unfold Zc4 at hq;split at hq
 ·cases hq
 ·rw[Qal] at hq;subst hq;unfold Lk LkE;cases ht:p.2.2.2
  ·simp only[QaI,Qbv];omega
  ·simp only[QbW];omega
theorem Zrk (ml:mlB p=true)(lo:p.2.1≤e)(hi:e≤p.2.1+p.2.2.1)(l:Lk p x y)(hy:y<e):∃q∈Zc4 p e,Lk q x y:=by
 by_cases c:e-p.2.1=0
 ·obtain⟨l1,l2,l3⟩:=l;cases ht:p.2.2.2<;>rw[ht] at l3
  ·simp only[QaI,Qbv] at l3;omega
  ·simp only[QbW] at l3;omega
 ·have hm:∃q,q∈Zc4 p e:=by unfold Zc4;rw[Qn c];exact⟨_,Qah⟩
  obtain⟨q,hq⟩:=hm;exact⟨q,hq,(Zne ml lo hi hq).mpr ⟨l,hy⟩⟩
theorem ZrX.conn (c:ZrX n ps j p e)(hx:x<e)(hy:y<e):Cn (Zjh ps j p e) x y↔Cn ps x y:=by
 obtain⟨m1,m2⟩:=Zcn c.ml;have he:=c.en;have hlo:=c.lo;have hhi:=c.hi;have hi':e≤p.2.1+p.2.2.1:=by omega
 unfold Zjh;constructor
 ·refine Cn.mono fun q hq x y l=> ?_;rcases Zna hq with hq|hq
  ·exact .of hq l
  ·exact .of (ZaU c.at') ((Zne c.ml hlo hi' hq).mp l).1
 ·have key:∀{a b:Int},Cn ps a b→Cn (ps.take j++Zc4 p e++ps.drop (j+1)) (if a<e then a else phi p e a) (if b<e then b else phi p e b):=by
   intro a b h
   induction h with
   |refl=>exact .refl _
   |step _ r ih=>
    refine Cn.trans ih ?_
    have one:∀{a b:Int},∀q∈ps,Lk q a b→Cn (ps.take j++Zc4 p e++ps.drop (j+1)) (if a<e then a else phi p e a) (if b<e then b else phi p e b):=fun{a b} q hq l=>by
     rcases Zji (C:=[]) c.at' hq with rfl|hm
     ·by_cases cb:b<e
      ·obtain⟨q',hq',l'⟩:=Zrk c.ml hlo hi' l cb
       have ca:a<e:=by
        obtain⟨l1,l2,l3⟩:=l;cases ht:q.2.2.2<;>rw[ht] at l3
        ·simp only[QaI,Qbv] at l3;omega
        ·simp only[QbW] at l3;have:=m2 ht;omega
       rw[Qp ca,Qp cb];exact .of (by simp[hq']) l'
      ·have eab:(if a<e then a else phi q e a)=(if b<e then b else phi q e b):=by
        rw[Qn cb];obtain⟨l1,l2,l3⟩:=l;unfold phi;cases ht:q.2.2.2<;>rw[ht] at l3
        ·simp only[QaI,Qbv] at l3⊢;have eb:b-e=(a-e)+(q.2.1-q.1):=by omega
         rw[eb,Zkt (by omega)];by_cases ca:a<e
         ·rw[Qp ca]
          have:(a-e) %(q.2.1-q.1)=a-e+(q.2.1-q.1):=by
           rw[←Zkt (t:=q.2.1-q.1) (by omega)];exact Qdc (by omega) (by omega)
          omega
         ·rw[Qn ca]
        ·simp only[QbW] at l3⊢
         have:=m2 ht;rw[Qp (by omega)];omega
       rw[eab];exact .refl _
     ·rw[Qa5] at hm;obtain⟨l1,l2,l3⟩:=l;have o:=c.oth q hm;have b2:=c.bnd q hq;have ca:a<e:=by omega
      have cb:b<e:=by
       cases ht:q.2.2.2<;>rw[ht] at l3
       ·simp only[QaI,Qbv] at l3;omega
       ·simp only[QbW] at l3;omega
      rw[Qp ca,Qp cb];refine .of ?_ ⟨l1,l2,l3⟩;rw[Qap] at hm;rcases hm with hm|hm<;>simp[hm]
    obtain⟨q,hq,r|r⟩:=r
    ·exact one q hq r
    ·exact(one q hq r).symm
  intro h
  have:=key h;rw[Qp hx,Qp hy] at this;exact this
structure Hm (ps:List PR)(n:Nat)(f:Nat→Nat):Prop where
 c:∀x<n,f x<n∧Cn ps (f x:Nat) (x:Nat)
 le:∀x<n,∀y<n,Cn ps (y:Nat) (x:Nat)→f x≤y
theorem Hm.same {n:Nat}(h:Hm ps n f)(e:∀x y,Cn ps' x y↔Cn ps x y):Hm ps' n f:=
 ⟨fun x hx=>⟨(h.c x hx).1,(e _ _).mpr (h.c x hx).2⟩,fun x hx y hy c=>h.le x hx y hy ((e _ _).mp c)⟩
theorem Hm.eq {n:Nat}(h:Hm ps n f){x y:Nat}(hx:x<n)(hy:y<n)(c:Cn ps (x:Nat) (y:Nat)):f x=f y:=
 Nat.le_antisymm (h.le x hx _ (h.c y hy).1 ((h.c y hy).2.trans c.symm)) (h.le y hy _ (h.c x hx).1 ((h.c x hx).2.trans c))
theorem Hm.ff {n:Nat}(h:Hm ps n f){x:Nat}(hx:x<n):f (f x)=f x:=h.eq (h.c x hx).1 hx (h.c x hx).2
theorem Hm.lt {n:Nat}(h:Hm ps n f){x:Nat}(hx:x<n):f x≤x:=h.le x hx x hx (.refl _)
def sN (n:Nat)(g:Nat→Int):Int:=((List.range n).map g).sum
theorem Zbp (n:Nat)(g:Nat→Int):sN (n+1) g=sN n g+g n:=by unfold sN;rw[QeF,Qau,Qc3];simp
theorem Znf (n:Nat)(g h:Nat→Int):sN n (fun y=>g y+h y)=sN n g+sN n h:=by
 induction n with
 |zero=>rfl
 |succ n ih=>rw[Zbp,Zbp,Zbp,ih];omega
theorem ZcG {n:Nat}{h:Nat→Int}(e:∀y<n,g y=h y):sN n g=sN n h:=by
 induction n with
 |zero=>rfl
 |succ n ih=>rw[Zbp,Zbp,ih fun y hy=>e y (by omega),e n (by omega)]
theorem ZcU (n:Nat):sN n (fun _=>0)=0:=by
 induction n with
 |zero=>rfl
 |succ n ih=>rw[Zbp,ih];rfl
theorem Zng {n a:Nat}(ha:a<n)(v:Int):sN n (fun y=>if y=a then v else 0)=v:=by
 induction n with
 |zero=>omega
 |succ n ih=>
  rw[Zbp];by_cases c:n=a
  ·subst c;rw[ZcG (h:=fun _=>0) fun y hy=>Qn (by omega),ZcU,Qp rfl];omega
  ·rw[ih (by omega),Qn c];omega
theorem Zrl (n m:Nat)(g:Nat→Nat→Int):sN n (fun x=>sN m (g x))=sN m fun y=>sN n fun x=>g x y:=by
 induction n with
 |zero=>rw[show sN 0 (fun x=>sN m (g x))=0 from rfl];exact(ZcU m).symm
 |succ n ih=>
  rw[Zbp,ih,←Znf];exact ZcG fun y _=>(Zbp n fun x=>g x y).symm
theorem Zs3 {n:Nat}(h:n≤m)(z:∀y,n≤y→y<m→g y=0):sN m g=sN n g:=by
 induction m with
 |zero=>rw[show n=0 by omega]
 |succ m ih=>
  by_cases c:n=m+1
  ·rw[c]
  ·rw[Zbp,ih (by omega) fun y h1 h2=>z y h1 (by omega),z m (by omega) (by omega)];omega
def rmW (n wd:Nat)(f:Nat→Nat)(W:Nat→Nat→Int)(r:Nat):List Int:=(List.range wd).map fun i=>sN n fun y=>if f y=r then W y i else 0
def rmL (n wd:Nat)(f:Nat→Nat)(W:Nat→Nat→Int):List (List Int):=((List.range n).filter fun r=>decide (f r=r)).map (rmW n wd f W)
theorem Zs4 {n:Nat}{g:Nat→Nat}{U:Nat→Nat→Int}(e:∀y<n,f y=g y)(w:∀y<n,∀i<wd,W y i=U y i):rmL n wd f W=rmL n wd g U:=by
 have e1:(List.range n).filter (fun r=>decide (f r=r))=(List.range n).filter fun r=>decide (g r=r):=List.filter_congr fun r hr=>by rw[e r (QbD.mp hr)]
 unfold rmL;rw[e1];refine QaO fun r _=>QaO fun i hi=>ZcG fun y hy=> ?_;rw[e y hy,w y hy i (QbD.mp hi)]
theorem Zs5 {n e:Nat}{W':Nat→Nat→Int}{ph:Nat→Nat}(h:Hm ps n f)(he:e≤n)(hc:∀x<e,∀y<e,(Cn ps' (x:Nat) (y:Nat)↔Cn ps (x:Nat) (y:Nat)))(hp:∀y,e≤y→y<n→ph y<e∧Cn ps (ph y:Nat) (y:Nat))
  (hw:∀x<e,∀i<wd,W' x i=W x i+sN n fun y=>if e≤y∧ph y=x then W y i else 0):Hm ps' e f∧rmL e wd f W'=rmL n wd f W:=by
 have fl:∀x<n,f x<e:=fun x hx=>by
  by_cases c:x<e
  ·exact QaF (h.lt hx) c
  ·obtain⟨p1,p2⟩:=hp x (by omega) hx;exact QaF (h.le x hx _ (by omega) p2) p1
 refine⟨⟨fun x hx=>⟨fl x (by omega),(hc _ (fl x (by omega)) x hx).mpr (h.c x (by omega)).2⟩,fun x hx y hy c=>h.le x (by omega) y (by omega) ((hc y hy x hx).mp c)⟩,?_⟩;unfold rmL
 have e1:(List.range n).filter (fun r=>decide (f r=r))=(List.range e).filter fun r=>decide (f r=r):=by
  obtain⟨k,rfl⟩:∃k,n=e+k:=⟨n-e,by omega⟩;have z:((List.range k).map fun x=>e+x).filter (fun r=>decide (f r=r))=[]:=Qeu.mpr ?_
  ·rw[List.range_add,Qcq,z,Qa5]
  intro r hr;obtain⟨i,hi,rfl⟩:=QaR.mp hr;rw[QbD] at hi;intro z
  have:=fl (e+i) (by omega)
  have:=Qar z;omega
 rw[e1];refine QaO fun r hr=>QaO fun i hi=> ?_;have hi:=QbD.mp hi
 have s1:sN n (fun y=>if f y=r then W y i else 0)=sN e (fun y=>if f y=r then W y i else 0)+sN n fun y=>if e≤y∧f y=r then W y i else 0:=by
  rw[show sN e (fun y=>if f y=r then W y i else 0)=sN e fun y=>if y<e∧f y=r then W y i else 0 from ZcG fun y hy=>by simp[hy]];rw[←Zs3 he (g:=fun y=>if y<e∧f y=r then W y i else 0) fun y h1 _=>Qn (by omega),←Znf];refine ZcG fun y hy=> ?_;by_cases c:y<e
  ·simp[c,show ¬e≤y by omega]
  ·simp[c,show e≤y by omega]
 rw[s1]
 have s2:sN e (fun y=>if f y=r then W' y i else 0)=sN e (fun y=>if f y=r then W y i else 0)+sN e fun x=>sN n fun y=>if f x=r∧e≤y∧ph y=x then W y i else 0:=by
  rw[←Znf];refine ZcG fun x hx=> ?_;by_cases c:f x=r
  ·rw[Qp c,Qp c,hw x hx i hi];simp only[c,true_and]
  ·rw[Qn c,Qn c];simp only[c,false_and,Qbv,ZcU];rfl
 rw[s2,Zrl];congr 1;refine ZcG fun y hy=> ?_;by_cases c:e≤y
 ·obtain⟨p1,p2⟩:=hp y c hy;have ef:f (ph y)=f y:=h.eq (by omega) hy p2;rw[ZcG (h:=fun x=>if x=ph y then(if f y=r then W y i else 0) else 0) fun x hx=> ?_,Zng p1]
  ·simp only[c,true_and]
  ·by_cases d:x=ph y
   ·rw[d,Qp rfl,ef];simp[c]
   ·rw[Qn d,Qn (fun z=>d z.2.2.symm)]
 ·simp only[c,false_and,and_false,Qbv,ZcU]
theorem Zrm {n e:Nat}(h:Hm ps n f)(he:e≤n)(hl:∀x y:Nat,e≤x∨e≤y→Cn ps (x:Nat) (y:Nat)→x=y):Hm ps e f∧rmL n wd f W=rmL e wd f W++(List.range' e (n-e)).map fun y=>(List.range wd).map (W y):=by
 have fx:∀x,e≤x→x<n→f x=x:=fun x h1 h2=>hl (f x) x (.inr h1) (h.c x h2).2;have fl:∀x<e,f x<e:=fun x hx=>QaF (h.lt (by omega)) hx;refine⟨⟨fun x hx=>⟨fl x hx,(h.c x (by omega)).2⟩,fun x hx y hy c=>h.le x (by omega) y (by omega) c⟩,?_⟩;obtain⟨k,rfl⟩:∃k,n=e+k:=⟨n-e,by omega⟩;unfold rmL;rw[List.range_add,Qcq,Qau,Nat.add_sub_cancel_left,Qd5];congr 1
 ·refine QaO fun r hr=>QaO fun i hi=> ?_;rw[Qdy,QbD] at hr;refine Zs3 (by omega) fun y h1 h2=>Qn ?_;rw[fx y h1 h2];omega
 ·rw[List.filter_eq_self.mpr fun r hr=> ?_]
  ·refine QaO fun r hr=>QaO fun i hi=> ?_;obtain⟨k',hk,rfl⟩:=QaR.mp hr;rw[QbD] at hk;rw[ZcG (h:=fun y=>if y=e+k' then W (e+k') i else 0) fun y hy=> ?_,Zng (by omega)];by_cases c:e≤y
   ·rw[fx y c hy];by_cases d:y=e+k'
    ·rw[d]
    ·rw[Qn d,Qn d]
   ·have:=fl y (by omega);rw[Qn (by omega),Qn (by omega)]
  ·obtain⟨k',hk,rfl⟩:=QaR.mp hr;rw[QbD] at hk;exact Qam (fx _ (by omega) (by omega))
open Toy (co Zka atW atW_lt atW_ge Zrd IsCut nS ZbJ ZbK tot_takeF tot_dropF atW_lenC paF_0 paF_n)
def Wc (L:WL2)(y i:Nat):Int:=co (atW L (y:Int)) i
theorem Znh (n m:Nat)(g:Nat→Int):sN (n+m) g=sN n g+sN m fun y=>g (n+y):=by
 induction m with
 |zero=>rw[Nat.add_zero];show _=_+0;omega
 |succ m ih=>rw[←Nat.add_assoc,Zbp,ih,Zbp];omega
theorem Zo7 (m:Nat)(v:Int):sN m (fun _=>v)=(m:Int)*v:=by
 induction m with
 |zero=>show(0:Int)=_;simp
 |succ m ih=>rw[Zbp,ih,QdI,Int.add_mul];simp
theorem Zs6 (g:List Int→Int):∀{L:WL2},(∀e∈L,0<e.1)→sN (tot L).toNat (fun y=>g (atW L (y:Int)))=(L.map fun e=>e.1*g e.2).sum
 | [],_=>rfl
 | (m,u)::L,h=>by
  have hm:=h (m,u) Qah;have hm:0<m:=hm;have ht:=Toy.tot_pos0 (M:=L) fun e he=>Qa9 (h e (Qag _ he));have et:(tot ((m,u)::L)).toNat=m.toNat+(tot L).toNat:=by rw[ZaD];show(m+tot L).toNat=_;omega
  rw[et,Znh,QaD,Qbn,←Zs6 g fun e he=>h e (Qag _ he)];congr 1
  ·rw[ZcG (h:=fun _=>g u) fun y hy=>by rw[atW_lt (by omega)],Zo7,Qbe (by omega)]
  ·refine ZcG fun y _=> ?_;rw[atW_ge (by omega)];congr 2;omega
theorem ZdI (W:WL2)(u:List Int):Zca W u=(W.map fun e=>e.1*if e.2=u then 1 else 0).sum:=by
 unfold Zca
 induction W with
 |nil=>rfl
 |cons e W ih=>
  rw[List.filter_cons,QaD,Qbn,←ih];by_cases c:e.2=u
  ·rw[Qp (Qam c),Qp c,QaD,Qbn,Qc9]
  ·rw[Qn (fun z=>c (Qar z)),Qn c,Qcz,QbS]
theorem Zrn (h:∀e∈L,0<e.1)(u:List Int):Zca L u=sN (tot L).toNat fun y=>if atW L (y:Int)=u then 1 else 0:=by
 rw[ZdI,←Zs6 (fun w=>if w=u then 1 else 0) h]
theorem Zku (A B:WL2)(u:List Int):Zca (A++B) u=Zca A u+Zca B u:=by
 unfold Zca;rw[Qcq,Qau,Qc3]
def Zb8 (rs:List (List Int)):WL2:=rs.map fun u=>(1,u)
theorem Zni (rs:List (List Int))(u:List Int):Zca (Zb8 rs) u=(rs.map fun w=>if w=u then(1:Int) else 0).sum:=by
 rw[ZdI];unfold Zb8;rw[Qbc];congr 1;refine QaO fun w _=> ?_;show 1*_=_;rw[Int.one_mul]
def ZbR (S:List (List Int×Int)):WL2:=S.map fun s=>(s.2,s.1)
theorem Zlc {W:WL2}(h:Zbs W S)(u:List Int):Zca (ZbR S) u=Zca W u:=by
 have nd:(S.map (·.1)).Nodup:=h.keys.nodup_iff.mpr (Zda _)
 have key:∀{S:List (List Int×Int)},(S.map (·.1)).Nodup→(∀k∈S,k.2=Zca W k.1)→Zca (ZbR S) u=if u∈S.map (·.1) then Zca W u else 0:=by
  intro S
  induction S with
  |nil=>intro _ _;rfl
  |cons s S ih=>
   intro nd v;rw[QaD,QbV] at nd
   have e:Zca (ZbR (s::S)) u=(if s.1=u then s.2 else 0)+Zca (ZbR S) u:=by
    rw[ZdI,ZdI];show((s.2,s.1)::ZbR S|>.map _).sum=_;rw[QaD,Qbn];by_cases c:s.1=u
    ·simp only[c,QbW,Qc9]
    ·simp only[c,Qbv,Qcz]
   rw[e,ih nd.2 fun k hk=>v k (Qag _ hk),QaD];by_cases c:s.1=u
   ·rw[Qp c,Qn (by rw[←c];exact nd.1),Qp (by rw[c];exact Qah),v s Qah,c];omega
   ·rw[Qn c,QbS];by_cases d:u∈S.map (·.1)
    ·rw[Qp d,Qp (Qag _ d)]
    ·rw[Qn d,Qn fun z=>(Qaw.mp z).elim (fun z=>c z.symm) d]
 rw[key nd h.val];by_cases d:u∈S.map (·.1)
 ·rw[Qp d]
 ·rw[Qn d,Ze4 fun z=>d (h.keys.symm.subset ((Zd6 _ _).mpr z))]
theorem ZgD {W:WL2}(h:∀e∈W,0<e.1)(u:List Int):u∈W.map (·.2)↔0<Zca W u:=by
 constructor
 ·intro m;rw[ZdI]
  induction W with
  |nil=>cases m
  |cons e W ih=>
   rw[QaD,Qbn]
   have nn:∀{W:WL2},(∀e∈W,0<e.1)→0≤(W.map fun e=>e.1*if e.2=u then(1:Int) else 0).sum:=by
    intro W
    induction W with
    |nil=>intro _;exact QaL 0
    |cons e W ih=>
     intro h;rw[QaD,Qbn]
     have:=ih fun x hx=>h x (Qag _ hx)
     have:=h e Qah;split<;>omega
   have e0:=h e Qah;have n0:=nn fun x hx=>h x (Qag _ hx);by_cases c:e.2=u
   ·rw[Qp c];omega
   ·rw[Qn c]
    have:=ih (fun x hx=>h x (Qag _ hx)) (by
     rw[QaD,Qaw] at m
     exact m.resolve_left fun z=>c z.symm)
    omega
 ·intro m;by_cases c:u∈W.map (·.2)
  ·exact c
  ·rw[Ze4 c] at m;omega
theorem Zld {A:WL2}(hA:∀e∈A,0<e.1)(hB:∀e∈B,0<e.1)(e:∀u,Zca A u=Zca B u)(h:Zbs A S):Zbs B S:=by
 refine⟨h.keys.trans ((QdO (Zda _) (Zda _)).mpr fun u=> ?_),h.rise,fun k hk=>by rw[←e];exact h.val k hk⟩;rw[Zd6,Zd6,ZgD hA,ZgD hB,e]
theorem Zh6 {W:WL2}(hW:∀e∈W,0<e.1)(h:Zbs W S):∀e∈ZbR S,0<e.1:=fun e he=>by
 obtain⟨s,hs,rfl⟩:=QaR.mp he;show 0<s.2;rw[h.val s hs,←ZgD hW];exact(Zd6 _ _).mp (h.keys.subset (QcE hs))
theorem Zro {U:List (List Int)}(nd:U.Nodup){w:List Int}(hw:w∈U)(m:Int):(U.map fun u=>m*if w=u then(1:Int) else 0).sum=m:=by
 induction U with
 |nil=>cases hw
 |cons v U ih=>
  rw[QbV] at nd;rw[QaD,Qbn];by_cases c:w=v
  ·subst c;have z:(U.map fun u=>m*if w=u then(1:Int) else 0)=U.map fun _=>(0:Int):=QaO fun u hu=>by rw[Qn (fun z:w=u=>nd.1 (by rw[z];exact hu)),Qcz]
   have z2:(U.map fun _=>(0:Int)).sum=0:=by clear ih nd hw z;induction U with
    |nil=>rfl
    |cons a U ih=>rw[QaD,Qbn,ih];rfl
   rw[Qp rfl,z,z2,Qc9,QbB]
  ·rw[Qn c,ih nd.2 ((Qaw.mp hw).resolve_left c),Qcz,QbS]
theorem Zkv {U:List (List Int)}(nd:U.Nodup):∀{W:WL2},(∀e∈W,e.2∈U)→tot W=(U.map fun u=>Zca W u).sum
 | [],_=>by
  have:(U.map fun u=>Zca [] u)=U.map fun _=>(0:Int):=rfl;rw[this];clear this nd
  induction U with
  |nil=>rfl
  |cons a U ih=>rw[QaD,Qbn,←ih fun e he=>by cases he];rfl
 |e::W,h=>by
  rw[ZaD,Zkv nd fun x hx=>h x (Qag _ hx)]
  have:(U.map fun u=>Zca (e::W) u)=U.map fun u=>e.1*(if e.2=u then(1:Int) else 0)+Zca W u:=QaO fun u _=>by rw[ZdI,ZdI,QaD,Qbn]
  rw[this]
  have ad:∀(U:List (List Int))(f g:List Int→Int),(U.map fun u=>f u+g u).sum=(U.map f).sum+(U.map g).sum:=by
   intro U f g
   induction U with
   |nil=>rfl
   |cons a U ih=>rw[QaD,Qbn,ih,QaD,Qbn,QaD,Qbn];omega
  rw[ad,Zro nd (h e Qah)]
theorem Zfe {W:WL2}(h:Zbs W S):tot (ZbR S)=tot W:=by
 have nd:(S.map (·.1)).Nodup:=h.keys.nodup_iff.mpr (Zda _);rw[Zkv nd (W:=W) fun e he=>h.keys.symm.subset ((Zd6 _ _).mpr (QcE he)),Qbc];unfold tot ZbR;rw[Qbc];congr 1;exact QaO fun s hs=>h.val s hs
open Toy (co Zka atW atW_lt atW_ge Zrd IsCut nS ZbJ ZbK tot_takeF tot_dropF atW_lenC paF_0 paF_n)
theorem Zo8 {t:Int}(ht:0<t):z/t-(z-1)/t=if z%t=0 then 1 else 0:=by
 have e1:=Qcb z t;have r0:=QaX z (show t≠0 by omega);have r1:=QaQ z ht;by_cases c:z%t=0
 ·rw[Qp c]
  have:(z-1)/t=z/t-1:=by
   have e:z-1=(t-1)+t*(z/t-1):=by rw[Int.mul_sub];omega
   rw[e,QbT _ _ (by omega),Qby (by omega) (by omega)];omega
  omega
 ·rw[Qn c]
  have:(z-1)/t=z/t:=by
   have e:z-1=(z%t-1)+t*(z/t):=by omega
   rw[e,QbT _ _ (by omega),Qby (by omega) (by omega)];omega
  omega
theorem Znj {t x a:Int}(ht:0<t):∀m:Nat,sN m (fun y=>if(a+(y:Int)-x) %t=0 then(1:Int) else 0)=(a+m-1-x)/t-(a-1-x)/t
 |0=>by show(0:Int)=_;simp
 |m+1=>by
  rw[Zbp,Znj ht m]
  have:=Zo8 (z:=a+m-x) ht;rw[show a+((m+1:Nat):Int)-1-x=a+m-x by omega,show a+(m:Int)-1-x=a+m-x-1 by omega];omega
theorem Zs7 (n:Nat)(v:Int)(g:Nat→Int):sN n (fun y=>v*g y)=v*sN n g:=by
 induction n with
 |zero=>show(0:Int)=v*0;simp
 |succ n ih=>rw[Zbp,Zbp,ih,QcX]
theorem Zqk {en t x:Int}{i:Nat}(ht:0<t):∀{L:WL2} {lo:Int},(∀e∈L,0<e.1)→nS en t x i L lo=sN (tot L).toNat fun y=>if en≤lo+(y:Int)∧(lo+(y:Int)-x) %t=0 then co (atW L (y:Int)) i else 0
 | [],lo,_=>rfl
 | (m,u)::L,lo,h=>by
  have hm:0<m:=h (m,u) Qah;have hp:=Toy.tot_pos0 (M:=L) fun e he=>Qa9 (h e (Qag _ he));have et:(tot ((m,u)::L)).toNat=m.toNat+(tot L).toNat:=by rw[ZaD];show(m+tot L).toNat=_;omega
  show(if mx lo en<lo+m then co u i*((lo+m-1-x)/t-(mx lo en-1-x)/t) else 0)+nS en t x i L (lo+m)=_;rw[et,Znh,Zqk ht fun e he=>h e (Qag _ he)];congr 1
  ·have body:∀y<m.toNat,(if en≤lo+(y:Int)∧(lo+(y:Int)-x) %t=0 then co (atW ((m,u)::L) (y:Int)) i else 0)=co u i*if en≤lo+(y:Int)∧(lo+(y:Int)-x) %t=0 then 1 else 0:=fun y hy=>by
    rw[atW_lt (by omega)];split<;>simp
   rw[ZcG body,Zs7];by_cases c:mx lo en<lo+m
   ·rw[Qp c];congr 1;have mxe:mx lo en=if en>lo then en else lo:=rfl;obtain⟨k,hk⟩:∃k:Nat,(k:Int)=mx lo en-lo:=⟨(mx lo en-lo).toNat,by rw[mxe];split<;>omega⟩;have kl:k≤m.toNat:=by omega
    obtain⟨d,hd⟩:∃d,m.toNat=k+d:=⟨m.toNat-k,by omega⟩;rw[hd,Znh,ZcG (n:=k) (h:=fun _=>0) fun y hy=>Qn (by rw[mxe] at hk;split at hk<;>omega),ZcU,QbS];rw[ZcG (h:=fun y=>if(mx lo en+(y:Int)-x) %t=0 then(1:Int) else 0) fun y hy=> ?_,Znj ht]
    ·rw[show mx lo en+(d:Int)-1-x=lo+m-1-x by omega]
    ·have e1:lo+((k+y:Nat):Int)-x=mx lo en+(y:Int)-x:=by omega
     rw[e1]
     have:en≤lo+((k+y:Nat):Int):=by rw[mxe] at hk;split at hk<;>omega
     simp only[this,true_and]
   ·rw[Qn c,ZcG (h:=fun _=>0) fun y hy=>Qn ?_,ZcU,Qcz];have mxe:mx lo en=if en>lo then en else lo:=rfl;rw[mxe] at c;split at c<;>omega
  ·refine ZcG fun y _=> ?_;rw[atW_ge (by omega),show((m.toNat+y:Nat):Int)-m=(y:Int) by omega,show lo+((m.toNat+y:Nat):Int)=lo+m+(y:Int) by omega]
theorem Zle {n e:Nat}(c:ZrX (n:Int) ps j p (e:Int))(nL:ZbG L)(tL:tot L=(n:Int))(h:IsC L p (e:Int) wd R):∀x<e,∀i<wd,Wc R x i=Wc L x i+sN n fun y=>if e≤y∧(phi p (e:Int) (y:Int)).toNat=x then Wc L y i else 0:=by
 intro x hx i _;obtain⟨m1,m2⟩:=Zcn c.ml
 have:=c.en;have:=c.lo;have:=c.l0;have:=c.hi;have pos:=ZbG.pos nL;unfold Wc;rw[h.at' (x:Int) (by omega) (by omega) i];unfold Zrd;congr 1
 cases ht:p.2.2.2 with
 |true=>
  have:=m2 ht;rw[Qp rfl,tL];by_cases d:(e:Int)≤p.1+n-1-x∧p.1+n-1-x<n
  ·rw[Qp d,ZcG (h:=fun y=>if y=(p.1+n-1-x).toNat then co (atW L (p.1+n-1-x)) i else 0) fun y hy=> ?_,Zng (by omega)];by_cases q:y=(p.1+n-1-x).toNat
   ·rw[Qp q,Qp ⟨by omega,by unfold phi;rw[ht,Qp rfl];omega⟩];congr 2;omega
   ·rw[Qn q,Qn];rintro⟨z1,z2⟩;unfold phi at z2;rw[ht,Qp rfl] at z2;omega
  ·rw[Qn d,ZcG (h:=fun _=>0) fun y hy=>Qn ?_,ZcU];rintro⟨z1,z2⟩;unfold phi at z2;rw[ht,Qp rfl] at z2;omega
 |false=>
  rw[Qn (by decide)];have tp:0<p.2.1-p.1:=by omega
  by_cases d:(e:Int)-(p.2.1-p.1)≤x
  ·rw[Qp d,Zqk tp pos,tL,QbR];refine ZcG fun y hy=> ?_;rw[QbS]
   have iff:((e:Int)≤(y:Int)∧((y:Int)-x) %(p.2.1-p.1)=0)↔(e≤y∧(phi p (e:Int) (y:Int)).toNat=x):=by
    unfold phi;rw[ht,Qn (by decide)];have r0:=QaX ((y:Int)-e) (show p.2.1-p.1≠0 by omega);have r1:=QaQ ((y:Int)-e) tp;have ee:=Qcb ((y:Int)-e) (p.2.1-p.1)
    have key:((y:Int)-x) %(p.2.1-p.1)=0↔((y:Int)-e) %(p.2.1-p.1)=(x:Int)-e+(p.2.1-p.1):=by
     constructor
     ·intro z
      have:(y:Int)-e=((x:Int)-e+(p.2.1-p.1))+(p.2.1-p.1)*(((y:Int)-x)/(p.2.1-p.1)-1):=by
       have:=Qcb ((y:Int)-x) (p.2.1-p.1);rw[Int.mul_sub];omega
      rw[this,Qcm];exact Qdc (by omega) (by omega)
     ·intro z
      have:(y:Int)-x=0+(p.2.1-p.1)*(((y:Int)-e)/(p.2.1-p.1)+1):=by rw[QcX];omega
      rw[this,Qcm];simp
    rw[key];constructor
    ·rintro⟨z1,z2⟩;exact⟨by omega,by omega⟩
    ·rintro⟨z1,z2⟩;exact⟨by omega,by omega⟩
   by_cases q:e≤y∧(phi p (e:Int) (y:Int)).toNat=x
   ·rw[Qp q,Qp (iff.mpr q)]
   ·rw[Qn q,Qn fun z=>q (iff.mp z)]
  ·rw[Qn d,ZcG (h:=fun _=>0) fun y hy=>Qn ?_,ZcU];rintro⟨z1,z2⟩;unfold phi at z2;rw[ht,Qn (by decide)] at z2;have r0:=QaX ((y:Int)-e) (show p.2.1-p.1≠0 by omega);omega
open PySem (Str)
open Toy (co Zka atW atW_lt atW_ge Zrd IsCut nS ZbJ ZbK tot_takeF tot_dropF atW_lenC paF_0 paF_n)
inductive Dd where
 |gone (k:Nat)
 |folded (k:Nat)
 |joined (j k:Nat)
 |carried (j k:Nat) (s:Str)
 |cut (j:Nat) (e:Int)
 |free (e:Int)
def Can (n:Int)(ps:List PR):Dd→Prop
 | .gone k=>∃p,ps[k]?=some p∧goB p=true
 | .folded k=>∃p,ps[k]?=some p∧foB p=true
 | .joined j k=>∃p q,ps[j]?=some p∧ps[k]?=some q∧j<k∧mjB p q=true
 | .carried j k s=>∃l p,ps[j]?=some l∧ps[k]?=some p∧j≠k∧SdS s∧mcB l p s=true
 | .cut j e=>∃p,ps[j]?=some p∧0≤e∧e<n∧Zs0 n ps j p e=true
 | .free e=>0≤e∧e<n∧ZeA ps e=true
abbrev pAt (ps:List PR)(k:Nat):PR:=ps.getD k (0,0,0,false)
theorem Zbj {k:Nat}(h:ps[k]?=some p):pAt ps k=p:=by unfold pAt;rw[Qaz,h];rfl
def nxt (s:Int×List PR):Dd→Int×List PR
 | .gone k=>(s.1,s.2.take k++ []++s.2.drop (k+1))
 | .folded k=>(s.1,s.2.take k++ [foP (pAt s.2 k)]++s.2.drop (k+1))
 | .joined j k=>(s.1,s.2.take j++ [joP (pAt s.2 j) (pAt s.2 k)]++((s.2.take k).drop (j+1)++s.2.drop (k+1)))
 | .carried j k sd=>(s.1,s.2.take k++ [caP (pAt s.2 j) (pAt s.2 k) sd]++s.2.drop (k+1))
 | .cut j e=>(e,Zjh s.2 j (pAt s.2 j) e)
 | .free e=>(e,s.2)
def Wgt (wd:Nat)(n:Int)(ps:List PR)(L:WL2):Dd→WL2→List (List Int×Int)→Prop
 | .cut j e,R,S=>IsC L (pAt ps j) e wd R∧S=[]
 | .free e,R,S=>R=paF 0 e L∧Zbs (paF e n L) S
 |_,R,S=>R=L∧S=[]
def cnt (n:Int):Dd→Int
 | .free e=>n-e
 |_=>0
structure HlS (n:Int)(ps:List PR)(L:WL2)(wd:Nat):Prop where
 n0:0≤n
 nrm:ZbG L
 sum:tot L=n
 wid:∀d∈L,d.2.length=wd
 prs:∀p∈ps,ZdH n p
theorem Zjk {P:PR→Prop}{C:List PR}{k:Nat}(h:∀p∈ps,P p)(c:∀p∈C,P p):∀p∈ps.take k++C++ps.drop (k+1),P p:=fun p hp=>(Zna hp).elim (h p) (c p)
theorem Zue (h:ZdH n p)(f:foB p=true):ZdH n (foP p):=by
 obtain⟨f1,f2,f3⟩:=Zfc f;obtain⟨a,b,c,d⟩:=h;refine⟨a,?_,?_,?_⟩
 ·show p.1≤p.1+p.2.1+p.2.2.1-1+1-p.1-((p.1+p.2.1+p.2.2.1-1+1)/2-p.1);omega
 ·show 1≤(p.1+p.2.1+p.2.2.1-1+1)/2-p.1;omega
 ·show p.1+p.2.1+p.2.2.1-1+1-p.1-foM p+foM p≤n;omega
theorem Zuf {q:PR}(hp:ZdH n p)(hq:ZdH n q)(h:mjB p q=true):ZdH n (joP p q):=by
 obtain⟨i1,i2,i3⟩:=Zbu (Zjj h);obtain⟨a,b,c,d⟩:=hp;obtain⟨a',b',c',d'⟩:=hq;obtain⟨n1,n2,n3⟩:=Zh4 p.1 q.1;obtain⟨m1,m2,m3⟩:=Zh5 (p.2.1+p.2.2.1) (q.2.1+q.2.2.1);refine⟨?_,by omega,by omega,?_⟩
 ·show 0≤mnI p.1 q.1;omega
 ·show mnI p.1 q.1+(Nat.gcd (p.2.1-p.1).toNat (q.2.1-q.1).toNat:Nat)+(mxI (p.2.1+p.2.2.1) (q.2.1+q.2.2.1)-mnI p.1 q.1-(Nat.gcd (p.2.1-p.1).toNat (q.2.1-q.1).toNat:Nat))≤n;omega
theorem Zug {l:PR}(hl:ZdH n l)(hp:ZdH n p)(hs:SdS s)(h:mcB l p s=true):ZdH n (caP l p s):=by
 obtain⟨ml,b0,b1⟩:=Zdo h;obtain⟨m1,m2⟩:=Zcn ml;obtain⟨a,b,c,d⟩:=hp;obtain⟨a',b',c',d'⟩:=hl
 have g:0≤goP l p s∧goP l p s+p.2.2.1≤n:=by
  unfold goP;cases ht:l.2.2.2
  ·rw[Qn (by decide)];have r0:=QaX (bgP p s-l.1) (show l.2.1-l.1≠0 by omega);have r1:=QaQ (bgP p s-l.1) (show 0<l.2.1-l.1 by omega);omega
  ·rw[Qp rfl];have:=m2 ht;omega
 have o:0≤otP p s∧otP p s+p.2.2.1≤n:=by unfold otP;split<;>omega
 unfold caP prP ZdH;dsimp only;by_cases q:otP p s<goP l p s
 ·rw[Qp q,Qn (by omega)];omega
 ·rw[Qn q];split<;>omega
theorem Zd9 (h:Zs0 n ps j p e=true):mlB p=true∧p.2.1+p.2.2.1=n∧p.2.1≤e∧∀q∈ps.take j++ps.drop (j+1),q.2.1+q.2.2.1≤e:=by
 unfold Zs0 at h;rw[QaK,QaK,QaK] at h;refine⟨h.1,Qar h.2.1,Qar h.2.2.1,fun q hq=> ?_⟩;exact Qar (Qdp.mp h.2.2.2 q hq)
theorem ZfX (h:ZeA ps e=true):∀q∈ps,q.2.1+q.2.2.1≤e:=fun q hq=>Qar (Qdp.mp h q hq)
theorem Zrp (h:ZdH n p)(ml:mlB p=true)(lo:p.2.1≤e)(hi:e≤p.2.1+p.2.2.1):∀q∈Zc4 p e,ZdH e q:=fun q hq=>by
 obtain⟨m1,m2⟩:=Zcn ml;obtain⟨a,b,c,d⟩:=h;unfold Zc4 at hq;split at hq
 ·cases hq
 ·rw[Qal] at hq;subst hq;cases ht:p.2.2.2
  ·unfold ZdH;simp only[QaI,Qbv];omega
  ·have:=m2 ht;unfold ZdH;simp only[QbW];omega
theorem Can.ok {d:Dd}(c:Can n ps d)(h:∀p∈ps,ZdH n p):∀p∈(nxt (n,ps) d).2,ZdH (nxt (n,ps) d).1 p:=by
 cases d with
 |gone k=>exact Zjk h fun p hp=>by cases hp
 |folded k=>
  obtain⟨p,hp,f⟩:=c;refine Zjk h fun q hq=> ?_;rw[Qal.mp hq,Zbj hp];exact Zue (h p (ZaU hp)) f
 |joined j k=>
  obtain⟨p,q,hp,hq,_,f⟩:=c;intro r hr;have hr:r∈ps.take j++ [joP (pAt ps j) (pAt ps k)]++((ps.take k).drop (j+1)++ps.drop (k+1)):=hr;rw[Qap,Qap,Qap] at hr;rcases hr with(hr|hr)|hr|hr
  ·exact h r (Qbf hr)
  ·rw[Qal.mp hr,Zbj hp,Zbj hq];exact Zuf (h p (ZaU hp)) (h q (ZaU hq)) f
  ·exact h r (Qbf (Qbm hr))
  ·exact h r (Qbm hr)
 |carried j k s=>
  obtain⟨l,p,hl,hp,_,hs,f⟩:=c;refine Zjk h fun q hq=> ?_;rw[Qal.mp hq,Zbj hp,Zbj hl];exact Zug (h l (ZaU hl)) (h p (ZaU hp)) hs f
 |cut j e=>
  obtain⟨p,hp,e0,e1,f⟩:=c;obtain⟨f1,f2,f3,f4⟩:=Zd9 f;intro q hq;have hq:q∈ps.take j++Zc4 (pAt ps j) e++ps.drop (j+1):=hq;rw[Zbj hp,Qap,Qap] at hq;have ot:q∈ps.take j++ps.drop (j+1)→q∈ps→ZdH e q:=fun m1 m2=>⟨(h q m2).1,(h q m2).2.1,(h q m2).2.2.1,f4 q m1⟩;rcases hq with(hq|hq)|hq
  ·exact ot (QaY _ hq) (Qbf hq)
  ·exact Zrp (h p (ZaU hp)) f1 f3 (by omega) q hq
  ·exact ot (QaA _ hq) (Qbm hq)
 |free e=>exact fun q hq=>⟨(h q hq).1,(h q hq).2.1,(h q hq).2.2.1,ZfX c.2.2 q hq⟩
theorem ZfY {d:Dd}(h:HlS n ps L wd)(c:Can n ps d)(w:Wgt wd n ps L d R S):HlS (nxt (n,ps) d).1 (nxt (n,ps) d).2 R wd∧(∀e∈ZbR S,0<e.1)∧tot (ZbR S)=cnt n d∧∀f,Hm ps n.toNat f→Hm (nxt (n,ps) d).2 (nxt (n,ps) d).1.toNat f∧
  ∀u,Zca (Zb8 (rmL n.toNat wd f (Wc L))) u=Zca (Zb8 (rmL (nxt (n,ps) d).1.toNat wd f (Wc R))) u+Zca (ZbR S) u:=by
 have pk:=c.ok h.prs
 have same:∀{ps':List PR},(∀p∈ps',ZdH n p)→(∀x y,Cn ps' x y↔Cn ps x y)→R=L∧S=[]→cnt n d=0→HlS n ps' R wd∧(∀e∈ZbR S,0<e.1)∧tot (ZbR S)=cnt n d∧∀f,Hm ps n.toNat f→Hm ps' n.toNat f∧∀u,Zca (Zb8 (rmL n.toNat wd f (Wc L))) u=Zca (Zb8 (rmL n.toNat wd f (Wc R))) u+Zca (ZbR S) u:=by
  rintro ps' pk hc ⟨rfl,rfl⟩ nf;exact⟨⟨h.n0,h.nrm,h.sum,h.wid,pk⟩,(fun e he=>by cases he),(by rw[nf];rfl),fun f hf=>⟨hf.same hc,fun u=>(QbB _).symm⟩⟩
 cases d with
 |gone k=>
  obtain⟨p,hp,f⟩:=c;exact same pk (Zrh hp f) w rfl
 |folded k=>
  obtain⟨p,hp,f⟩:=c;refine same pk (fun x y=> ?_) w rfl;show Cn (ps.take k++ [foP (pAt ps k)]++ps.drop (k+1)) x y↔_;rw[Zbj hp];exact Zri hp (h.prs p (ZaU hp)).2.1 f x y
 |joined j k=>
  obtain⟨p,q,hp,hq,jk,f⟩:=c;refine same pk (fun x y=> ?_) w rfl;show Cn (ps.take j++ [joP (pAt ps j) (pAt ps k)]++((ps.take k).drop (j+1)++ps.drop (k+1))) x y↔_;rw[Zbj hp,Zbj hq];exact Zrj hp hq jk f x y
 |carried j k s=>
  obtain⟨l,p,hl,hp,ne,hs,f⟩:=c;refine same pk (fun x y=> ?_) w rfl;show Cn (ps.take k++ [caP (pAt ps j) (pAt ps k) s]++ps.drop (k+1)) x y↔_;rw[Zbj hp,Zbj hl];exact Zo6 hs hl hp ne f x y
 |cut j e=>
  obtain⟨p,hp,e0,e1,f⟩:=c;obtain⟨f1,f2,f3,f4⟩:=Zd9 f;obtain⟨w1,rfl⟩:=w;rw[Zbj hp] at w1;refine⟨⟨e0,w1.nrm,w1.sum,w1.wid,pk⟩,(fun e he=>by cases he),rfl,fun g hg=> ?_⟩
  have c1:ZrX ((n.toNat:Nat):Int) ps j p ((e.toNat:Nat):Int):=by
   rw[Qbe h.n0,Qbe e0];exact⟨hp,f1,f2,f3,e1,(h.prs p (ZaU hp)).1,f4,fun q hq=>⟨(h.prs q hq).1,(h.prs q hq).2.1⟩⟩
  have cw:=Zle c1 h.nrm (by rw[h.sum,Qbe h.n0]) (R:=R) (wd:=wd) (by rw[Qbe e0];exact w1)
  have key:=Zs5 (ps':=Zjh ps j p ((e.toNat:Nat):Int)) (e:=e.toNat) (wd:=wd) (W:=Wc L) (W':=Wc R) (ph:=fun y=>(phi p ((e.toNat:Nat):Int) (y:Int)).toNat) hg (by omega) (fun x hx y hy=>c1.conn (by omega) (by omega)) (fun y y0 y1=>by
   obtain⟨q1,q2,q3⟩:=c1.led (z:=(y:Int)) (by omega) (by omega)
   refine⟨by omega,?_⟩
   rw[Qbe q2]
   exact q1.sub fun r hr=>by rw[Qal.mp hr];exact ZaU hp) cw
  rw[Qbe e0] at key;show Hm (Zjh ps j (pAt ps j) e) e.toNat g∧_;rw[Zbj hp];refine⟨key.1,fun u=> ?_⟩;show _=Zca (Zb8 (rmL e.toNat wd g (Wc R))) u+0;rw[key.2,QbB]
 |free e=>
  obtain⟨e0,e1,f⟩:=c;obtain⟨rfl,w2⟩:=w;have pos:=ZbG.pos h.nrm;have et:paF 0 e L=Zbh e L:=paF_0 pos;have ed:paF e n L=ZbH e L:=by rw[←h.sum];exact paF_n h.nrm e0 (by rw[h.sum];exact e1)
  have nd:ZbG (ZbH e L):=Zbx h.nrm;have nt:ZbG (Zbh e L):=Zcg h.nrm;rw[ed] at w2;have hd:tot (ZbH e L)=n-e:=by rw[tot_dropF pos e0 (by rw[h.sum];omega),h.sum]
  have ht:tot (Zbh e L)=e:=tot_takeF pos e0 (by rw[h.sum];omega);refine⟨⟨e0,by rw[et];exact nt,by rw[et];exact ht,fun d hd=> ?_,pk⟩,Zh6 (ZbG.pos nd) w2,by rw[Zfe w2,hd];rfl,fun g hg=> ?_⟩
  ·exact Zi9 (p:=fun u=>u.length=wd) h.nrm (by omega) e0 h.wid d hd
  ·have key:=Zrm (e:=e.toNat) (wd:=wd) (W:=Wc L) hg (by omega) (fun x y hxy c=>by
    have:∀{a b:Int},Cn ps a b→a=b∨(a<e∧b<e):=fun{a b} c=>by
     induction c with
     |refl=>exact .inl rfl
     |step _ r ih=>
      obtain⟨q,hq,r⟩:=r
      have o:=ZfX f q hq
      have b2:=h.prs q hq
      have lt:∀{a b:Int},Lk q a b→a<e∧b<e:=fun{a b} l=>by
       obtain⟨l1,l2,l3⟩:=l
       obtain⟨p1,p2,p3,p4⟩:=b2
       cases ht:q.2.2.2<;>rw[ht] at l3
       ·simp only[QaI,Qbv] at l3;omega
       ·simp only[QbW] at l3;omega
      have z:_∧_:=r.elim lt fun r=>(lt r).symm
      rcases ih with rfl|ih
      ·exact .inr z
      ·exact .inr ⟨ih.1,z.2⟩
    rcases this c with z|z
    ·omega
    ·omega)
   refine⟨key.1,fun u=> ?_⟩;show Zca (Zb8 (rmL n.toNat wd g (Wc L))) u=Zca (Zb8 (rmL e.toNat wd g (Wc (paF 0 e L)))) u+Zca (ZbR S) u
   have ea:rmL e.toNat wd g (Wc (paF 0 e L))=rmL e.toNat wd g (Wc L):=Zs4 (fun _ _=>rfl) fun y hy i _=>by
    unfold Wc;rw[et,ZbJ pos (by omega) (by omega)]
   rw[ea,key.2];unfold Zb8;rw[Qau,Zku];congr 1;rw[Zlc w2,Zrn (ZbG.pos nd),hd,show(List.map (fun u=>((1:Int),u)) ((List.range' e.toNat (n.toNat-e.toNat)).map fun y=>(List.range wd).map (Wc L y)))=Zb8 ((List.range' e.toNat (n.toNat-e.toNat)).map fun y=>(List.range wd).map (Wc L y)) from rfl,Zni,Qbc];unfold sN;rw[Qd5,Qbc,show(n-e).toNat=n.toNat-e.toNat by omega];congr 1;refine QaO fun y hy=> ?_;rw[QbD] at hy;show(if(List.range wd).map (Wc L (e.toNat+y))=u then(1:Int) else 0)=if atW (ZbH e L) (y:Int)=u then 1 else 0
   have ev:(List.range wd).map (Wc L (e.toNat+y))=atW (ZbH e L) (y:Int):=by
    rw[ZbK pos e0 (by omega)];have hl:(atW L ((y:Int)+e)).length=wd:=atW_lenC h.wid (by rw[h.sum];omega) (by omega);refine Zka (by rw[Qaf,Qa6,hl]) fun i=> ?_;unfold Wc co;rw[show((e.toNat+y:Nat):Int)=(y:Int)+e by omega];by_cases q:i<wd
    ·rw[Qaz,Qao,QbZ q];rfl
    ·rw[Qaz,Qaz,QaG (by rw[Qaf,Qa6];omega),QaG (by rw[hl];omega)]
   rw[ev]
section
variable {K:FJ}
theorem Zuh {xs:List V}(h:Wg H xs L):Wg H xs.reverse L.reverse:=by
 refine⟨by rw[QcA,QcA,h.1],fun i x e h1 h2=> ?_⟩;have hi:i<xs.length:=by have:=(Qab.mp h1).1;rwa [QcA] at this
 rw[QeG hi] at h1;rw[QeG (by rw[←h.1];exact hi),←h.1] at h2;exact h.2 _ x e h1 h2
theorem Zql (h:mlB p=true):p.1<p.2.1∧(p.2.2.2=true→p.1+p.2.2.1≤p.2.1):=by
 unfold mlB at h;rw[QaK] at h;refine⟨Qar h.1,fun z=> ?_⟩
 have:=h.2;rw[z] at this;exact Qar (by simpa using this)
theorem Zlf (hq:H q=some (.tup (pV p)))(ml:mlB p=true)(lo:p.2.1≤e)(hi:e≤p.2.1+p.2.2.1)(k:∀(c:Addr)(ys:List V)(H':Hp),Zam H H'→H c=none→H' c=some (.lst ys)→CpL H' ys ((Zc4 p e).map pV)→Q (.ref c) H'):Zs1 K {nx:=Z,rt:=Q } [some (.ref q),some (.int e),none,none,none,none,none] H:=by
 obtain⟨m1,m2⟩:=Zql ml;refine⟨_,rfl,q,_,rfl,SqT.of hq,rfl,_,_,rfl,_,_,rfl,_,_,rfl,_,_,rfl,rfl,?_⟩;refine⟨_,rfl,_,rfl,_,_,rfl,rfl,?_⟩;refine⟨_,rfl,rfl,_,rfl,Zfx (fun z=> ?_) (fun z=> ?_)⟩
 ·have z:e-p.2.1=0:=V.int.inj (Qar z);refine⟨zL0,fun c hc=>k c [] _ (Zam.nw (Zam.refl H) hc) hc Zad ?_⟩;unfold Zc4;rw[Qp z];exact CpL.nil _
 ·have z:¬e-p.2.1=0:=fun y=>z (Qam (congrArg V.int y))
  have fin:∀u:Int,(if p.2.2.2=true then u=p.2.2.1-(e-p.2.1) else u=0)→ZeJ [.ref q,.int u,.int (e-p.2.1)] H (fun v H1=>[v].length≤sizeLine∧∀c,H1 c=none→Q (.ref c) (upd H1 c (.lst [v]))) E0:=fun u hu=>by
   refine⟨q,p.1,p.2.1,p.2.2.1,p.2.2.2,u,e-p.2.1,rfl,hq,fun r hr=>⟨zL1,fun c hc=> ?_⟩⟩;have s1:=Zam.nw (o:=.tup (pV (if p.2.2.2=true then p.1+p.2.2.1-(e-p.2.1) else p.1,p.2.1,e-p.2.1,p.2.2.2))) (Zam.refl H) hr
   have eo:(HO.tup [V.int (if p.2.1+(if p.2.2.2=true then p.2.2.1-u-(e-p.2.1) else u)<p.1+u then p.2.1+(if p.2.2.2=true then p.2.2.1-u-(e-p.2.1) else u) else p.1+u),V.int (if p.2.1+(if p.2.2.2=true then p.2.2.1-u-(e-p.2.1) else u)>p.1+u then p.2.1+(if p.2.2.2=true then p.2.2.1-u-(e-p.2.1) else u) else p.1+u),V.int (e-p.2.1),V.bl p.2.2.2])= .tup (pV (if p.2.2.2=true then p.1+p.2.2.1-(e-p.2.1) else p.1,p.2.1,e-p.2.1,p.2.2.2)):=by
    show HO.tup [_,_,_,_]=HO.tup [_,_,_,_]
    cases hb:p.2.2.2 with
    |true=>
     rw[hb] at hu;have m3:=m2 hb;have hu:u=p.2.2.1-(e-p.2.1):=hu;rw[Qp rfl,Qp rfl,Qn (by omega),Qp (by omega),show p.1+u=p.1+p.2.2.1-(e-p.2.1) by omega,show p.2.1+(p.2.2.1-u-(e-p.2.1))=p.2.1 by omega]
    |false=>
     rw[hb] at hu;have hu:u=0:=hu;rw[Qn (show ¬(false=true) by decide),Qn (show ¬(false=true) by decide),Qn (by omega),Qp (by omega),show p.1+u=p.1 by omega,show p.2.1+u=p.2.1 by omega]
   rw[eo] at hc⊢;have f1:(upd H r (.tup (pV (if p.2.2.2=true then p.1+p.2.2.1-(e-p.2.1) else p.1,p.2.1,e-p.2.1,p.2.2.2)))) r=some (.tup (pV (if p.2.2.2=true then p.1+p.2.2.1-(e-p.2.1) else p.1,p.2.1,e-p.2.1,p.2.2.2))):=Zad;generalize upd H r (.tup (pV (if p.2.2.2=true then p.1+p.2.2.1-(e-p.2.1) else p.1,p.2.1,e-p.2.1,p.2.2.2)))=H1 at s1 f1 hc⊢;have s2:=Zam.nw (o:=.lst [.ref r]) (Zam.refl H1) hc;refine k c [.ref r] _ (s1.trans s2) (s1.free hc) Zad ?_;unfold Zc4;rw[Qn z];exact CpL.snoc (CpL.nil _) (s2 _ _ f1)
  refine⟨_,rfl,_,rfl,_,rfl,?_⟩
  cases hb:p.2.2.2 with
  |true=>exact Zcl ⟨_,rfl,_,rfl,_,_,rfl,rfl,_,rfl,fin _ (by rw[hb,Qp rfl])⟩
  |false=>exact Zcd ⟨_,rfl,fin _ (by rw[hb,Qn (show ¬(false=true) by decide)])⟩
theorem Zs8 (i j:Int):decide (V.int i=V.int j)=decide (i=j):=by
 by_cases c:i=j
 ·rw[Qam c,c];exact Qam rfl
 ·rw[QaC c];exact QaC fun z=>c (V.int.inj z)
end
structure KnM (P:Program)(w:World)(K:FJ)(mg:Str→Option Value)(base:Heap)(C:Addr)(m:Str)(k:Nat)(ps:List Str)(sp:Sp):Prop where
 ex:∃(f:Addr)(fd:FuncData),Za6 P w K mg base CX0 k f fd ps sp∧ZtQ K C m f∧ZdA K fd ps []
structure KnC (P:Program)(w:World)(K:FJ)(mg:Str→Option Value)(base:Heap)(x:Str)(C:Addr)(k:Nat)(ps:List Str)(sp:Sp):Prop where
 ex:∃(f:Addr)(fd:FuncData),Za6 P w K mg base CX0 k f fd ps sp∧Mk K C f∧mg x=some (.ref C)∧ZdA K fd ps []
section
variable {m:Str}{k:Nat}{ps:List Str}{o e:Expr}{t:TA}{pos p:PySem.Pos}{Ex:Value→St→Hp→Prop}
theorem Zdp {pl:Sem Bool}(c:Cls X.K C)(G:KnM X.prog X.w X.K X.mg X.base C m k ps sp)(hr:Zdr j X.A)(he:PE X o ta)(ha:PA X (e::es) t)(hle:k≤j:=by decide)
  (hst:starEach (e::es) X.env=(false,eval e X.env)::starEach es X.env:=by rfl) (hpl:(backTo pos (starEach es X.env)).any (·.1)=false:=by rfl)
  (ht:eval (.Call (.Attribute o m qg) (e::es) [] pos) X.env=(do
   let ov←eval o X.env
   standAt qg.atName
   let(f,first) ←holding [ov] (getMethod ov m pl)
   callWith pos f first (backTo pos (starEach (e::es) X.env)) (backToKw pos (keywordEach [] X.env))):=by rfl):
  PE X (.Call (.Attribute o m qg) (e::es) [] pos) (Zf3 C m sp [] E0 ta t):=by
 obtain⟨f,fd,F,hm,hb⟩:=G.ex;exact ZqC he c hm F (hr.mono hle) hb .nil Zos ha hst hpl ht
end
section
variable {m:Str}{k:Nat}{ps:List Str}{o e:Expr}{to:TE}{t:TA}{pos p:PySem.Pos}{f:Str}
def ZuE (K:FJ)(to:TE)(f:Str):TG:=fun v σ H Q=>to σ H fun x H2=>∃a C dx fs,x= .ref a∧H2 a=some (.ins C dx fs)∧Cls K C∧Zcc K C f∧fs.length<1000∧Q σ (upd H2 a (.ins C dx (ZdT f v fs)))
theorem Zs9 (ho:PE X o to):PG X (.Attribute o f pos) (ZuE X.K to f):=by
 intro qa s σ H v u Q I r h;rw[assign_Attribute];refine Qaa (Qbz (thn (ho qa s σ H _ I h) fun ov s1 ⟨x,H1,I1,rx,a,C,dx,fs,ex,ea,c,n,l,q⟩=> ?_));subst ex;obtain rfl:ov=Value.ref a:=rx;refine Qaa (Qdu (Qaa (Qbz ?_)));exact ZfL I1 ea c n l r fun s3 I3=>wpAny_release ⟨σ,_,I3,q⟩
theorem Zo9 {x:Str}(G:KnC X.prog X.w X.K X.mg X.base x C k ps sp)(hr:Zdr j X.A)(hg:Gl X x)(ha:PA X (e::es) t)(hle:k+1≤j:=by decide)(hdb:(x==("__debug__" :Str))=false:=by decide)(he:starEach (e::es) X.env=(false,eval e X.env)::starEach es X.env:=by rfl)(hpl:(backTo pos (starEach es X.env)).any (·.1)=false:=by rfl):PE X (.Call (.Name x p) (e::es) [] pos) (ZqA C sp [] E0 t):=by
 obtain⟨f,fd,F,M,hm,hb⟩:=G.ex;exact ZqD M F (hr.mono hle) hg hm hb .nil Zos ha hdb he hpl
def Zqm (i:Nat)(T:Addr→Sp→Prop)(t:TA):TE:=fun σ H Q=>Zag i σ H fun x H1=>∃f sp,x= .ref f∧T f sp∧t σ H1 fun vs H2=>sp vs H2 Q E0
theorem Zpa {x:Str}{T:Addr→Sp→Prop}(F:∀f sp,T f sp→∃fd,Za6 X.prog X.w X.K X.mg X.base CX0 k f fd ps sp∧PySem.W.keepIn X.K (.ref f)=true∧ZdA X.K fd ps [])(hr:Zdr j X.A)(hv:PE X (.Name x p) (Zag i))(ha:PA X (e::es) t)(hle:k≤j:=by decide)
  (he:starEach (e::es) X.env=(false,eval e X.env)::starEach es X.env:=by rfl) (hpl:(backTo pos (starEach es X.env)).any (·.1)=false:=by rfl):PE X (.Call (.Name x p) (e::es) [] pos) (Zqm i T t):=by
 intro qa s σ H Q I h;refine QbI (thn (hv qa s σ H _ I h) fun u s0 ⟨y,H0,I0,ry,f,sp,ey,hT,h0⟩=> ?_);obtain⟨fd,F,hk,hb⟩:=F f sp hT;subst ey;cases(show u=Value.ref f from ry);refine Qc0 (h₀:=X.base) I0.ok.mod.kin hk (thn (ha pos qa s0 σ H0 _ I0 h0) fun us s1 ⟨vs,H1,I1,r,q⟩=>⟨I1.kIn,?_⟩) he hpl;exact Zl5 F (hr.mono hle) hb .nil Zos I1 r (by rw[Qa5];exact q)
end
section
variable {K:FJ}
def Za2:Sp:=fun vs H Q _=>∃b:Bool,vs=[.bl b]∧b=true∧Q .non H
def ddV:Dd→List V
 | .gone k=>[.str "gone",.int (k:Int)]
 | .folded k=>[.str "folded",.int (k:Int)]
 | .joined j k=>[.str "joined",.int (j:Int),.int (k:Int)]
 | .carried j k s=>[.str "carried",.int (j:Int),.int (k:Int),.str s]
 | .cut j e=>[.str "cut",.int (j:Int),.int e]
 | .free e=>[.str "free",.int e]
structure Sm (n:Int)(ps:List PR)(L:WL2)(wd:Nat):Prop extends HlS n ps L wd where
 n6:n≤60
 pl:ps.length≤60
 w1:1≤wd
 w2:wd≤24
structure ZuF (n:Int)(L:WL2)(p:PR)(e:Int)(wd:Nat):Prop where
 nrm:ZbG L
 sum:tot L=n
 n6:n≤60
 w1:1≤wd
 w2:wd≤24
 wid:∀d∈L,d.2.length=wd
 pr:ZdH n p
 ml:mlB p=true
 en:p.2.1+p.2.2.1=n
 lo:p.2.1≤e
 hi:e<n
def Zjl:Sp:=fun vs H Q _=>∃(a q:Addr)(xs:List V)(n:Int)(L:WL2)(p:PR)(e:Int)(wd:Nat),vs=[.ref a,.ref q,.int e]∧H a=some (.lst xs)∧Wg H xs L∧H q=some (.tup (pV p))∧ZuF n L p e wd∧∀(b:Addr)(ys:List V)(R:WL2)(H':Hp),H b=none→H' b=some (.lst ys)→Wg H' ys R→IsC L p e wd R→Zam H H'→Q (.ref b) H'
def Zh7 (H:Hp)(n:Int)(ps:List PR)(L:WL2)(wd:Nat)(d:Dd)(Q:VK):Prop:=∀(R:WL2)(S:List (List Int×Int))(c a' pa' pb' pc':Addr)(ya' yb' yc':List V)(H':Hp),Wgt wd n ps L d R S→Zam H H'→H pa'=none→H pb'=none→ZhS H' c a' pa' pb' pc' ((nxt (n,ps) d).1,(nxt (n,ps) d).2,R,S) ya' yb' yc'→Q (.ref c) H'
def ZdY (P:Dd→Prop):Sp:=fun vs H Q _=>∃(a pa pb q:Addr)(n:Int)(ps:List PR)(L:WL2)(ya yb:List V)(wd:Nat)(d:Dd),vs=[.ref a,.ref q]∧ZaS H a pa pb n ps L ya yb∧Sm n ps L wd∧H q=some (.tup (ddV d))∧Can n ps d∧P d∧Zh7 H n ps L wd d Q
abbrev Jab (K:FJ):=fun xs H_1 Q=>∃p ys,xs=[V.ref p]∧(SqL K H_1 p ys∨SqT K H_1 p ys)∧∀(l:Addr),H_1 l=none→Q (V.ref l) (upd H_1 l (HO.lst ys))
abbrev Jar (K:FJ):=tOp (Zcu K) (Zag 3) (Zag 5)
abbrev Jax (K:FJ):=tOp (ZbO K) (Zag 1) (tC (V.int 1))
abbrev JaB (K:FJ):=Zaa (tCB (Jab K) (Zaa (Zag 4) Zap)) Zap
abbrev JaC (K:FJ):=ZaW (Zag 0) (Zcp K 3 Jaf)
def Zpb (K:FJ):TS:=ZaL (JaC K) (sQ1 (Jax K) 5 (ZaL (ZbD (Zau Za2 [] E0 (Zaa (Zau ZdG [] E0 (Zaa (Jar K) Zap)) Zap))) (ZbB (Zcr (Zaa (Zcr (Zaa (Zag 2) (Zaa (Zau Za4 [] E0 (Zaa (Zag 3) (Zaa (Zag 5) (Zaa (Zc0 Zap) Zap)))) (JaB K)))) (Zaa (Zc0 Zap) Zap))))))
def Zpc (K:FJ):TS:=ZaL (JaC K) (sQ1 (Jax K) 5 (ZaL (ZbD (Zau Za2 [] E0 (Zaa (Zau Zdb [] E0 (Zaa (Jar K) Zap)) Zap))) (ZbB (Zcr (Zaa (Zcr (Zaa (Zag 2) (Zaa (Zau Za4 [] E0 (Zaa (Zag 3) (Zaa (Zag 5) (Zaa (Zc0 (Zaa (Zau Zgs [] E0 (Zaa (Jar K) Zap)) Zap)) Zap)))) (JaB K)))) (Zaa (Zc0 Zap) Zap))))))
def Zpd (K:FJ):TS:=ZaL (JaC K) (ZaL (ZaW (tSl (ZqE K) (Zag 1) (ZfA (iQ1 1)) ZcC) (Zcp K 2 Jav)) (ZaL (ZbD (Zau Za2 [] E0 (Zaa (Zc2 (tOp Jai (Zag 5) (Zag 6)) (Zau Zdc [] E0 (Zaa (Jar K) (Zaa (tOp (Zcu K) (Zag 3) (Zag 6)) Zap)))) Zap))) (sQ1 (Zau Za4 [] E0 (Zaa (Zag 3) (Zaa (Zag 6) (Zaa (Zc0 Zap) Zap)))) 7 (ZbB (Zcr (Zaa (Zcr (Zaa (Zag 2) (Zaa (Zau Za4 [] E0 (Zaa (Zag 7) (Zaa (Zag 5) (Zaa (Zc0 (Zaa (Zau Zgw [] E0 (Zaa (Jar K) (Zaa (tOp (Zcu K) (Zag 3) (Zag 6)) Zap))) Zap)) Zap)))) (JaB K)))) (Zaa (Zc0 Zap) Zap)))))))
def Znk (K:FJ):TS:=ZaL (JaC K) (ZaL (ZaW (tSl (ZqE K) (Zag 1) (ZfA (iQ1 1)) ZcC) (Zcp K 3 (ZaC (Zan 5) (ZaC (Zan 6) (ZaC (Zan 7) ZcN))))) (ZaL (ZbD (Zau Za2 [] E0 (Zaa (Zc2 (tOp rNe (Zag 5) (Zag 6)) (Zau ZcM [] E0 (Zaa (Jar K) (Zaa (tOp (Zcu K) (Zag 3) (Zag 6)) (tQ1 7))))) Zap))) (ZbB (Zcr (Zaa (Zcr (Zaa (Zag 2) (Zaa (Zau Za4 [] E0 (Zaa (Zag 3) (Zaa (Zag 6) (Zaa (Zc0 (Zaa (Zau Ze9 [] E0 (Zaa (Jar K) (Zaa (tOp (Zcu K) (Zag 3) (Zag 6)) (tQ1 7)))) Zap)) Zap)))) (JaB K)))) (Zaa (Zc0 Zap) Zap))))))
def Zrq (K:FJ):TS:=ZaL (JaC K) (ZaL (ZaW (tSl (ZqE K) (Zag 1) (ZfA (iQ1 1)) ZcC) (Zcp K 2 Jav)) (sQ1 (Jar K) 7 (ZaL (ZbD (Zau Za2 [] E0 (Zaa (Zc2 (Zau Zdd [] E0 (tQ1 7)) (Zc2 (tOp rEq (Zau Zbe [] E0 (tQ1 7)) (Zag 2)) (tOp Jan (tOp (ZbO K) (Zag 7) (iQ1 1)) (Zag 6)))) Zap))) (ZaL (ZbD (Zau Za2 [] E0 (Zaa (Zau ZdX [] E0 (Zaa (Zau Za4 [] E0 (Zaa (Zag 3) (Zaa (Zag 5) (Zaa (Zc0 Zap) Zap)))) (tQ1 6))) Zap))) (ZbB (Zcr (Zaa (Zcr (Zaa (Zag 6) (Zaa (Zau Za4 [] E0 (Zaa (Zag 3) (Zaa (Zag 5) (Zaa (Zau Zjg [] E0 (Zaa (Zag 7) (tQ1 6))) Zap)))) (Zaa (Zau Zjl [] E0 (Zaa (Zag 4) (Zaa (Zag 7) (tQ1 6)))) Zap)))) (Zaa (Zc0 Zap) Zap))))))))
def Zpe (K:FJ):TS:=ZaL (JaC K) (sQ1 (Jax K) 5 (ZaL (ZbD (Zau Za2 [] E0 (Zaa (Zau ZdX [] E0 (Zaa (Zag 3) (tQ1 5))) Zap))) (ZbB (Zcr (Zaa (Zcr (Zaa (Zag 5) (Zaa (tCB (Jab K) (tQ1 3)) (Zaa (Zau (Zev K) [] E0 (Zaa (Zag 4) (Zaa (iQ1 0) (tQ1 5)))) Zap)))) (Zaa (Zau (Ze7 K) [] E0 (Zaa (Zau (Zev K) [] E0 (Zaa (Zag 4) (Zaa (Zag 5) (tQ1 2)))) Zap)) Zap))))))
theorem Zjm (h:ZbG L):(L.length:Int)≤tot L:=by
 have pos:=ZbG.pos h;clear h
 induction L with
 |nil=>exact QaL 0
 |cons e L ih=>
  rw[ZaD,QaB]
  have:=ih fun x hx=>pos x (Qag _ hx)
  have:=pos e Qah;omega
theorem ZdZ {a' pc:Addr}{yd yb:List V}(hd:H2 d=some (.lst yd))(cd:CpL H2 yd (ps.map pV))(wb:Wg H2 yb L)(h1:H2 l=none)(h2:(upd H2 l (.lst yb)) a'=none)(h3:(upd (upd H2 l (.lst yb)) a' (.tup [.int n,.ref d,.ref l])) pc=none)
  (h4:(upd (upd (upd H2 l (.lst yb)) a' (.tup [.int n,.ref d,.ref l])) pc (.lst [])) c=none):Zam H2 (upd (upd (upd (upd H2 l (.lst yb)) a' (.tup [.int n,.ref d,.ref l])) pc (.lst [])) c (.tup [.ref a',.ref pc]))∧
  ZhS (upd (upd (upd (upd H2 l (.lst yb)) a' (.tup [.int n,.ref d,.ref l])) pc (.lst [])) c (.tup [.ref a',.ref pc])) c a' d l pc (n,ps,L,[]) yd yb []:=by
 have s1:=Zam.nw (o:=.lst yb) (Zam.refl H2) h1;have g1:(upd H2 l (.lst yb)) l=some (.lst yb):=Zad;generalize upd H2 l (.lst yb)=H3 at*;have s2:=Zam.nw (o:=.tup [.int n,.ref d,.ref l]) (Zam.refl H3) h2;have g2:(upd H3 a' (.tup [.int n,.ref d,.ref l])) a'=some (.tup [.int n,.ref d,.ref l]):=Zad;generalize upd H3 a' (.tup [.int n,.ref d,.ref l])=H4 at*;have s3:=Zam.nw (o:=.lst []) (Zam.refl H4) h3;have g3:(upd H4 pc (.lst [])) pc=some (.lst []):=Zad;generalize upd H4 pc (.lst [])=H5 at*;have s4:=Zam.nw (o:=.tup [.ref a',.ref pc]) (Zam.refl H5) h4;have s24:=s3.trans s4;have s:=s1.trans (s2.trans s24);exact⟨s,Zad,⟨s24 _ _ g2,s _ _ hd,cd.up s.tups,(s2.trans s24) _ _ g1,wb.up s.tups⟩,s4 _ _ g3,SrL.nil _⟩
theorem ZgE {ya yb:List V}{d:Dd}(h:ZaS H a pa pb n ps L ya yb)(sm:Sm n ps L wd)(hq:H q=some (.tup (ddV d)))(cn:Can n ps d)(e:∃k,d= .gone k)(kk:Zh7 H n ps L wd d Q):Zpb K {nx:=Z,rt:=Q } [some (.ref a),some (.ref q),none,none,none,none] H:=by
 obtain⟨k,rfl⟩:=e;obtain⟨p,ek,hg⟩:=cn;obtain⟨q1,e1,f1⟩:=h.at ek;have kl:k<ya.length:=(Qab.mp e1).1;have pl:=sm.pl;refine⟨_,rfl,a,_,rfl,SqT.of h.h,rfl,_,_,rfl,_,_,rfl,_,_,rfl,rfl,?_⟩;refine⟨_,rfl,q,_,_,_,rfl,rfl,SqT.of hq,rfl,?_⟩;refine⟨_,rfl,_,rfl,pa,_,_,_,rfl,rfl,SqL.of h.ha,ZaK e1,q1,p,rfl,f1,goB p,rfl,hg,?_⟩;refine⟨_,rfl,_,rfl,_,rfl,zL0,fun c0 hc0=> ?_⟩;have s1:=Zam.nw (o:=.lst []) (Zam.refl H) hc0;have g1:(upd H c0 (.lst [])) c0=some (.lst []):=Zad;generalize upd H c0 (.lst [])=H1 at s1 g1⊢;refine⟨pa,c0,k,ya,[],rfl,s1 _ _ h.ha,g1,kl,by rw[h.len];omega,QaS _,fun d H2 s2 df hd2=> ?_⟩;have s02:=s1.trans s2;refine⟨_,rfl,pb,yb,rfl,.inl (SqL.of (s02 _ _ h.hb)),fun l hl2=>⟨zL3,fun a' ha'=>⟨zL0,fun pc hpc=>⟨zL2,fun c hc=> ?_⟩⟩⟩⟩
 have cc:CpL H2 (ya.take k++ []++ya.drop (k+1)) ((ps.take k++ []++ps.drop (k+1)).map pV):=by
  rw[Qa5,Qa5,Qau,QcM,QcN];exact((h.ca.take k).append (h.ca.drop (k+1))).up s02.tups
 obtain⟨s3,t⟩:=ZdZ hd2 cc (h.wb.up s02.tups) hl2 ha' hpc hc;exact kk L [] c a' _ _ pc _ _ _ _ ⟨rfl,rfl⟩ (s02.trans s3) (s1.free df) (s02.free hl2) t
theorem ZgF {ya yb:List V}{d:Dd}(h:ZaS H a pa pb n ps L ya yb)(sm:Sm n ps L wd)(hq:H q=some (.tup (ddV d)))(cn:Can n ps d)(e:∃k,d= .folded k)(kk:Zh7 H n ps L wd d Q):Zpc K {nx:=Z,rt:=Q } [some (.ref a),some (.ref q),none,none,none,none] H:=by
 obtain⟨k,rfl⟩:=e;obtain⟨p,ek,hg⟩:=cn;obtain⟨q1,e1,f1⟩:=h.at ek;have kl:k<ya.length:=(Qab.mp e1).1;have pl:=sm.pl;refine⟨_,rfl,a,_,rfl,SqT.of h.h,rfl,_,_,rfl,_,_,rfl,_,_,rfl,rfl,?_⟩;refine⟨_,rfl,q,_,_,_,rfl,rfl,SqT.of hq,rfl,?_⟩;refine⟨_,rfl,_,rfl,pa,_,_,_,rfl,rfl,SqL.of h.ha,ZaK e1,q1,p,rfl,f1,foB p,rfl,hg,?_⟩;refine⟨_,rfl,_,rfl,_,rfl,_,rfl,_,rfl,pa,_,_,_,rfl,rfl,SqL.of h.ha,ZaK e1,q1,p,rfl,f1,fun fr Hf ef sf ff=>⟨zL1,fun c0 hc0=> ?_⟩⟩;have s1:=Zam.nw (o:=.lst [.ref fr]) sf hc0;have g1:(upd Hf c0 (.lst [.ref fr])) c0=some (.lst [.ref fr]):=Zad;have ff1:=Zam.nw (o:=.lst [.ref fr]) (Zam.refl Hf) hc0 _ _ ff;generalize upd Hf c0 (.lst [.ref fr])=H1 at s1 g1 ff1⊢;refine⟨pa,c0,k,ya,[.ref fr],rfl,s1 _ _ h.ha,g1,kl,by rw[h.len];omega,(by show 1≤4;decide),fun d H2 s2 df hd2=> ?_⟩;have s02:=s1.trans s2;refine⟨_,rfl,pb,yb,rfl,.inl (SqL.of (s02 _ _ h.hb)),fun l hl2=>⟨zL3,fun a' ha'=>⟨zL0,fun pc hpc=>⟨zL2,fun c hc=> ?_⟩⟩⟩⟩
 have cc:CpL H2 (ya.take k++ [.ref fr]++ya.drop (k+1)) ((ps.take k++ [foP (pAt ps k)]++ps.drop (k+1)).map pV):=by
  rw[Zbj ek,Qau,Qau,QcM,QcN];exact(((h.ca.up s02.tups).take k).snoc (s2 _ _ ff1)).append ((h.ca.up s02.tups).drop (k+1))
 obtain⟨s3,t⟩:=ZdZ hd2 cc (h.wb.up s02.tups) hl2 ha' hpc hc;exact kk L [] c a' _ _ pc _ _ _ _ ⟨rfl,rfl⟩ (s02.trans s3) (s1.free df) (s02.free hl2) t
theorem ZgG {ya yb:List V}{d:Dd}(h:ZaS H a pa pb n ps L ya yb)(sm:Sm n ps L wd)(hq:H q=some (.tup (ddV d)))(cn:Can n ps d)(e:∃j k,d= .joined j k)(kk:Zh7 H n ps L wd d Q):Zpd K {nx:=Z,rt:=Q } [some (.ref a),some (.ref q),none,none,none,none,none,none] H:=by
 obtain⟨j,k,rfl⟩:=e;obtain⟨p,r,ej,ek,hjk,hg⟩:=cn;obtain⟨q1,e1,f1⟩:=h.at ej;obtain⟨q2,e2,f2⟩:=h.at ek;have jl:j<ya.length:=(Qab.mp e1).1;have kl:k<ya.length:=(Qab.mp e2).1;have yl:=h.len;have pl:=sm.pl;have hq:H q=some (.tup [.str "joined",.int (j:Int),.int (k:Int)]):=hq;refine⟨_,rfl,a,_,rfl,SqT.of h.h,rfl,_,_,rfl,_,_,rfl,_,_,rfl,rfl,?_⟩;refine⟨_,rfl,1,rfl,q,_,rfl,SqT.of hq,?_,fun c hc=> ?_⟩
 ·rintro⟨z,_⟩;exact absurd (show(1:Nat)=0 from z) (by decide)
 rw[show Zf6 [V.str "joined",V.int (j:Int),V.int (k:Int)] (some 1) none=[V.int (j:Int),V.int (k:Int)] from ZcT (k:=1) _ (by show 1≤3;decide)];have s1:=Zam.nw (o:=.tup [V.int (j:Int),V.int (k:Int)]) (Zam.refl H) hc;have g1:(upd H c (.tup [V.int (j:Int),V.int (k:Int)])) c=some (.tup [V.int (j:Int),V.int (k:Int)]):=Zad;generalize upd H c (.tup [V.int (j:Int),V.int (k:Int)])=H1 at s1 g1⊢;refine⟨c,_,rfl,SqT.of g1,rfl,_,_,rfl,_,_,rfl,rfl,?_⟩;have h1:=h.up s1;refine⟨_,rfl,_,rfl,_,_,rfl,rfl,_,rfl,?_⟩;rw[Qam (by omega)];refine Zcl ⟨_,rfl,_,rfl,pa,_,_,_,rfl,rfl,SqL.of h1.ha,ZaK e1,_,rfl,_,rfl,pa,_,_,_,rfl,rfl,SqL.of h1.ha,ZaK e2,q1,q2,p,r,rfl,s1 _ _ f1,s1 _ _ f2,mjB p r,rfl,hg,?_⟩;refine⟨_,rfl,_,rfl,zL0,fun c0 hc0=> ?_⟩;have s2:=Zam.nw (o:=.lst []) (Zam.refl H1) hc0;have g2:(upd H1 c0 (.lst [])) c0=some (.lst []):=Zad;generalize upd H1 c0 (.lst [])=H2 at s2 g2⊢;refine⟨pa,c0,k,ya,[],rfl,s2 _ _ h1.ha,g2,kl,by omega,QaS _,fun fw H3 s3 fwf hfw=> ?_⟩;have s03:=s1.trans (s2.trans s3);have h3:=h.up s03;refine⟨_,rfl,_,rfl,_,rfl,_,rfl,_,rfl,pa,_,_,_,rfl,rfl,SqL.of h3.ha,ZaK e1,_,rfl,_,rfl,pa,_,_,_,rfl,rfl,SqL.of h3.ha,ZaK e2,q1,q2,p,r,rfl,s03 _ _ f1,s03 _ _ f2,hg,fun fr Hf ef sf ff=>⟨zL1,fun c1 hc1=> ?_⟩⟩;have s4:=Zam.nw (o:=.lst [.ref fr]) (Zam.refl Hf) hc1;have g4:(upd Hf c1 (.lst [.ref fr])) c1=some (.lst [.ref fr]):=Zad;have ff1:=s4 _ _ ff;generalize upd Hf c1 (.lst [.ref fr])=H4 at s4 g4 ff1⊢;have s34:=sf.trans s4;have s04:=s03.trans s34
 have fl:(ya.take k++ []++ya.drop (k+1)).length=ya.length-1:=by
  rw[Qa5,Qae,Qax,Qbd];omega
 refine⟨fw,c1,j,_,[.ref fr],rfl,s34 _ _ hfw,g4,by rw[fl];omega,by rw[fl];omega,(by show 1≤4;decide),fun d H5 s5 df hd5=> ?_⟩;rw[Zo1 ya (ya.drop (k+1)) [.ref fr] hjk (by omega)] at hd5;have s05:=s04.trans s5;refine⟨_,rfl,pb,yb,rfl,.inl (SqL.of (s05 _ _ h.hb)),fun l hl2=>⟨zL3,fun a' ha'=>⟨zL0,fun pc hpc=>⟨zL2,fun c hc=> ?_⟩⟩⟩⟩
 have cc:CpL H5 (ya.take j++ [.ref fr]++((ya.take k).drop (j+1)++ya.drop (k+1))) ((ps.take j++ [joP (pAt ps j) (pAt ps k)]++((ps.take k).drop (j+1)++ps.drop (k+1))).map pV):=by
  rw[Zbj ej,Zbj ek,Qau,Qau,Qau,QcN,QcN,QcM,QcM];have h5:=h.ca.up s05.tups;exact((h5.take j).snoc (s5 _ _ ff1)).append (((h5.take k).drop (j+1)).append (h5.drop (k+1)))
 obtain⟨s6,t⟩:=ZdZ hd5 cc (h.wb.up s05.tups) hl2 ha' hpc hc;exact kk L [] c a' _ _ pc _ _ _ _ ⟨rfl,rfl⟩ (s05.trans s6) (s04.free df) (s05.free hl2) t
theorem ZfF {ya yb:List V}{d:Dd}(h:ZaS H a pa pb n ps L ya yb)(sm:Sm n ps L wd)(hq:H q=some (.tup (ddV d)))(cn:Can n ps d)(e:∃j k s,d= .carried j k s)(kk:Zh7 H n ps L wd d Q):Znk K {nx:=Z,rt:=Q } [some (.ref a),some (.ref q),none,none,none,none,none,none] H:=by
 obtain⟨j,k,s,rfl⟩:=e;obtain⟨p,r,ej,ek,hjk,hs,hg⟩:=cn;obtain⟨q1,e1,f1⟩:=h.at ej;obtain⟨q2,e2,f2⟩:=h.at ek;have kl:k<ya.length:=(Qab.mp e2).1;have yl:=h.len;have pl:=sm.pl;have lg:=(sm.prs r (ZaU ek)).2.2.1;have hq:H q=some (.tup [.str "carried",.int (j:Int),.int (k:Int),.str s]):=hq;refine⟨_,rfl,a,_,rfl,SqT.of h.h,rfl,_,_,rfl,_,_,rfl,_,_,rfl,rfl,?_⟩;refine⟨_,rfl,1,rfl,q,_,rfl,SqT.of hq,?_,fun c hc=> ?_⟩
 ·rintro⟨z,_⟩;exact absurd (show(1:Nat)=0 from z) (by decide)
 rw[show Zf6 [V.str "carried",V.int (j:Int),V.int (k:Int),V.str s] (some 1) none=[V.int (j:Int),V.int (k:Int),V.str s] from ZcT (k:=1) _ (by show 1≤4;decide)];have s1:=Zam.nw (o:=.tup [V.int (j:Int),V.int (k:Int),V.str s]) (Zam.refl H) hc;have g1:(upd H c (.tup [V.int (j:Int),V.int (k:Int),V.str s])) c=some (.tup [V.int (j:Int),V.int (k:Int),V.str s]):=Zad;generalize upd H c (.tup [V.int (j:Int),V.int (k:Int),V.str s])=H1 at s1 g1⊢;refine⟨c,_,rfl,SqT.of g1,rfl,_,_,rfl,_,_,rfl,_,_,rfl,rfl,?_⟩;have h1:=h.up s1;refine⟨_,rfl,_,rfl,rfl,_,rfl,?_⟩;rw[Zh2,Qam hjk];refine Zcl ⟨_,rfl,_,rfl,pa,_,_,_,rfl,rfl,SqL.of h1.ha,ZaK e1,_,rfl,_,rfl,pa,_,_,_,rfl,rfl,SqL.of h1.ha,ZaK e2,_,rfl,q1,q2,p,r,s,rfl,s1 _ _ f1,s1 _ _ f2,hs,mcB p r s,rfl,hg,?_⟩;refine⟨_,rfl,_,rfl,_,rfl,_,rfl,_,rfl,pa,_,_,_,rfl,rfl,SqL.of h1.ha,ZaK e1,_,rfl,_,rfl,pa,_,_,_,rfl,rfl,SqL.of h1.ha,ZaK e2,_,rfl,q1,q2,p,r,s,rfl,s1 _ _ f1,s1 _ _ f2,hs,hg,lg,fun fr Hf ef sf ff=>⟨zL1,fun c0 hc0=> ?_⟩⟩;have s2:=Zam.nw (o:=.lst [.ref fr]) (s1.trans sf) hc0;have g2:(upd Hf c0 (.lst [.ref fr])) c0=some (.lst [.ref fr]):=Zad;have ff1:=Zam.nw (o:=.lst [.ref fr]) (Zam.refl Hf) hc0 _ _ ff;generalize upd Hf c0 (.lst [.ref fr])=H2 at s2 g2 ff1⊢;refine⟨pa,c0,k,ya,[.ref fr],rfl,s2 _ _ h.ha,g2,kl,by omega,(by show 1≤4;decide),fun d H3 s3 df hd3=> ?_⟩;have s03:=s2.trans s3;refine⟨_,rfl,pb,yb,rfl,.inl (SqL.of (s03 _ _ h.hb)),fun l hl2=>⟨zL3,fun a' ha'=>⟨zL0,fun pc hpc=>⟨zL2,fun c hc=> ?_⟩⟩⟩⟩
 have cc:CpL H3 (ya.take k++ [.ref fr]++ya.drop (k+1)) ((ps.take k++ [caP (pAt ps j) (pAt ps k) s]++ps.drop (k+1)).map pV):=by
  rw[Zbj ej,Zbj ek,Qau,Qau,QcM,QcN];exact(((h.ca.up s03.tups).take k).snoc (s3 _ _ ff1)).append ((h.ca.up s03.tups).drop (k+1))
 obtain⟨s4,t⟩:=ZdZ hd3 cc (h.wb.up s03.tups) hl2 ha' hpc hc;exact kk L [] c a' _ _ pc _ _ _ _ ⟨rfl,rfl⟩ (s03.trans s4) (s2.free df) (s03.free hl2) t
theorem Zh8 {ya yb:List V}{d:Dd}(h:ZaS H a pa pb n ps L ya yb)(sm:Sm n ps L wd)(hq:H q=some (.tup (ddV d)))(cn:Can n ps d)(ed:∃j e,d= .cut j e)(kk:Zh7 H n ps L wd d Q):Zrq K {nx:=Z,rt:=Q } [some (.ref a),some (.ref q),none,none,none,none,none,none] H:=by
 obtain⟨j,e,rfl⟩:=ed;obtain⟨p,ej,e0,e1,hg⟩:=cn;obtain⟨q1,y1,f1⟩:=h.at ej;have jl:j<ya.length:=(Qab.mp y1).1;have yl:=h.len;have pl:=sm.pl
 have hc4:ZeA (ps.take j++ps.drop (j+1)) e=true:=by
  unfold Zs0 at hg;rw[QaK,QaK,QaK] at hg;exact hg.2.2.2
 obtain⟨c1,e2,e3,_⟩:=Zd9 hg;have hq:H q=some (.tup [.str "cut",.int (j:Int),.int e]):=hq;refine⟨_,rfl,a,_,rfl,SqT.of h.h,rfl,_,_,rfl,_,_,rfl,_,_,rfl,rfl,?_⟩;refine⟨_,rfl,1,rfl,q,_,rfl,SqT.of hq,?_,fun c hc=> ?_⟩
 ·rintro⟨z,_⟩;exact absurd (show(1:Nat)=0 from z) (by decide)
 rw[show Zf6 [V.str "cut",V.int (j:Int),V.int e] (some 1) none=[V.int (j:Int),V.int e] from ZcT (k:=1) _ (by show 1≤3;decide)];have s1:=Zam.nw (o:=.tup [V.int (j:Int),V.int e]) (Zam.refl H) hc;have g1:(upd H c (.tup [V.int (j:Int),V.int e])) c=some (.tup [V.int (j:Int),V.int e]):=Zad;generalize upd H c (.tup [V.int (j:Int),V.int e])=H1 at s1 g1⊢;refine⟨c,_,rfl,SqT.of g1,rfl,_,_,rfl,_,_,rfl,rfl,?_⟩;have h1:=h.up s1;have f11:=s1 _ _ f1;refine⟨_,rfl,_,rfl,pa,_,_,_,rfl,rfl,SqL.of h1.ha,ZaK y1,?_⟩;refine⟨_,rfl,q1,p,rfl,f11,_,rfl,?_⟩;rw[c1];refine Zcl ⟨_,rfl,q1,p,rfl,f11,_,rfl,rfl,_,rfl,?_⟩;rw[Zs8,Qam e2];refine Zcl ⟨_,rfl,q1,_,_,_,rfl,rfl,SqT.of f11,rfl,_,rfl,_,_,rfl,rfl,_,rfl,Qam e3,?_⟩;refine⟨_,rfl,_,rfl,zL0,fun l hl1=> ?_⟩;have s2:=Zam.nw (o:=.lst []) (Zam.refl H1) hl1;have g2:(upd H1 l (.lst [])) l=some (.lst []):=Zad;generalize upd H1 l (.lst [])=H2 at s2 g2⊢;have s02:=s1.trans s2;refine⟨pa,l,j,ya,[],rfl,s02 _ _ h.ha,g2,jl,by omega,(by show 0≤4;decide),fun d H3 s3 fd hd3=> ?_⟩;have s03:=s02.trans s3
 have cr:CpL H3 (ya.take j++ []++ya.drop (j+1)) ((ps.take j++ps.drop (j+1)).map pV):=by
  rw[Qa5,Qau,QcM,QcN];exact((h.ca.up s03.tups).take j).append ((h.ca.up s03.tups).drop (j+1))
 refine⟨_,rfl,d,_,ps.take j++ps.drop (j+1),e,rfl,hd3,cr,by rw[Qae,Qax,Qbd];omega,fun H4 s4=>⟨_,rfl,hc4,?_⟩⟩;have s04:=s03.trans s4;refine⟨_,rfl,_,rfl,_,rfl,_,rfl,_,rfl,q1,p,e,rfl,s04 _ _ f1,c1,e3,by omega,fun kc ys H5 s5 fk hk ck=> ?_⟩;have s05:=s04.trans s5
 have kl:ys.length≤1:=by
  rw[ck.1,Qaf];unfold Zc4;split<;>simp
 refine⟨pa,kc,j,ya,ys,rfl,s05 _ _ h.ha,hk,jl,by omega,by omega,fun d2 H6 s6 fd2 hd6=> ?_⟩;have s06:=s05.trans s6;refine⟨_,rfl,_,rfl,_,rfl,pb,q1,yb,n,L,p,e,wd,rfl,s06 _ _ h.hb,h.wb.up s06.tups,s06 _ _ f1,⟨sm.nrm,sm.sum,sm.n6,sm.w1,sm.w2,sm.wid,sm.prs p (ZaU ej),c1,e2,e3,e1⟩,fun w zw R H7 f7 h7 g7 ic s7=> ?_⟩;have s07:=s06.trans s7;refine⟨zL3,fun a' ha'=>⟨zL0,fun pc hpc=>⟨zL2,fun c' hc'=> ?_⟩⟩⟩;have s8:=Zam.nw (o:=.tup [.int e,.ref d2,.ref w]) (Zam.refl H7) ha';have g8:(upd H7 a' (.tup [.int e,.ref d2,.ref w])) a'=some (.tup [.int e,.ref d2,.ref w]):=Zad;generalize upd H7 a' (.tup [.int e,.ref d2,.ref w])=H8 at s8 g8 hpc hc'⊢;have s9:=Zam.nw (o:=.lst []) (Zam.refl H8) hpc;have g9:(upd H8 pc (.lst [])) pc=some (.lst []):=Zad;generalize upd H8 pc (.lst [])=H9 at s9 g9 hc'⊢;have sA:=Zam.nw (o:=.tup [.ref a',.ref pc]) (Zam.refl H9) hc';have s7A:=s8.trans (s9.trans sA);have s0A:=s07.trans s7A
 have cc:CpL (upd H9 c' (.tup [.ref a',.ref pc])) (ya.take j++ys++ya.drop (j+1)) ((Zjh ps j (pAt ps j) e).map pV):=by
  unfold Zjh;rw[Zbj ej,Qau,Qau,QcM,QcN];exact(((h.ca.up s0A.tups).take j).append (ck.up (s6.trans (s7.trans s7A)).tups)).append ((h.ca.up s0A.tups).drop (j+1))
 exact kk R [] c' a' d2 w pc _ zw [] _ ⟨by rw[Zbj ej];exact ic,rfl⟩ s0A (s05.free fd2) (s06.free f7) ⟨Zad,⟨(s9.trans sA) _ _ g8,(s7.trans s7A) _ _ hd6,cc,s7A _ _ h7,g7.up s7A.tups⟩,sA _ _ g9,SrL.nil _⟩
theorem ZgH {ya yb:List V}{d:Dd}(h:ZaS H a pa pb n ps L ya yb)(sm:Sm n ps L wd)(hq:H q=some (.tup (ddV d)))(cn:Can n ps d)(ed:∃e,d= .free e)(kk:Zh7 H n ps L wd d Q):Zpe K {nx:=Z,rt:=Q } [some (.ref a),some (.ref q),none,none,none,none] H:=by
 obtain⟨e,rfl⟩:=ed;obtain⟨e0,e1,hg⟩:=cn;have pl:=sm.pl;have nL:=sm.nrm;have ll:(L.length:Int)≤60:=by have:=Zjm nL;have:=sm.sum;have:=sm.n6;omega
 refine⟨_,rfl,a,_,rfl,SqT.of h.h,rfl,_,_,rfl,_,_,rfl,_,_,rfl,rfl,?_⟩;refine⟨_,rfl,q,_,_,_,rfl,rfl,SqT.of hq,rfl,?_⟩;refine⟨_,rfl,_,rfl,pa,ya,ps,e,rfl,h.ha,h.ca,by omega,fun H1 s1=>⟨ZeA ps e,rfl,hg,?_⟩⟩;have h1:=h.up s1;refine⟨_,rfl,_,rfl,pa,ya,rfl,.inl (SqL.of h1.ha),fun l hl2=> ?_⟩;have s2:=Zam.nw (o:=.lst ya) (Zam.refl H1) hl2;have g2:(upd H1 l (.lst ya)) l=some (.lst ya):=Zad;generalize upd H1 l (.lst ya)=H2 at s2 g2⊢;have s02:=s1.trans s2;have h2:=h.up s02;refine⟨_,rfl,_,rfl,pb,yb,L,0,e,rfl,SqL.of h2.hb,h2.wb,by omega,nL.pos,e0,fun b1 z1 H3 f3 hb3 w3 s3=> ?_⟩;rw[ZfW nL (QaL _) e0] at w3;refine⟨zL3,fun a' ha'=> ?_⟩;have s4:=Zam.nw (o:=.tup [.int e,.ref l,.ref b1]) (Zam.refl H3) ha';have g4:(upd H3 a' (.tup [.int e,.ref l,.ref b1])) a'=some (.tup [.int e,.ref l,.ref b1]):=Zad;show(Zaa _ Zap) _ (upd H3 a' (.tup [.int e,.ref l,.ref b1])) _;generalize upd H3 a' (.tup [.int e,.ref l,.ref b1])=H4 at s4 g4⊢;have s24:=s3.trans s4;have s04:=s02.trans s24;have h4:=h.up s04;refine⟨_,rfl,_,rfl,_,rfl,pb,yb,L,e,n,rfl,SqL.of h4.hb,h4.wb,by omega,nL.pos,by omega,fun b2 z2 H5 f5 hb5 w5 s5=> ?_⟩;rw[ZfW nL e0 (by omega)] at w5;have l5:=Zi8 nL e0 (show e≤n by omega);refine⟨b2,z2,_,rfl,SqL.of hb5,w5,by omega,fun pc ps2 ws H6 f6 h6 pr6 so6 s6=> ?_⟩;refine⟨zL2,fun c hc=> ?_⟩;have s7:=Zam.nw (o:=.tup [.ref a',.ref pc]) (Zam.refl H6) hc;have g7:(upd H6 c (.tup [.ref a',.ref pc])) c=some (.tup [.ref a',.ref pc]):=Zad;generalize upd H6 c (.tup [.ref a',.ref pc])=H7 at s7 g7⊢;have s47:=(s5.trans s6).trans s7;have s27:=s24.trans s47;have s07:=s02.trans s27;exact kk (paF 0 e L) ws c a' l b1 pc ya z1 ps2 H7 ⟨rfl,so6⟩ s07 (s1.free hl2) (s02.free f3) ⟨g7,⟨s47 _ _ g4,s27 _ _ g2,h.ca.up s07.tups,(s4.trans s47) _ _ hb3,w3.up (s4.trans s47).tups⟩,s7 _ _ h6,pr6.up s7.tups⟩
end
section
variable {K:FJ}
inductive DoT (d1 d2 d3 d4 d5 d6:Addr):Addr→Sp→Prop where
 |gone:DoT d1 d2 d3 d4 d5 d6 d1 (ZdY fun d=>∃k,d= .gone k)
 |folded:DoT d1 d2 d3 d4 d5 d6 d2 (ZdY fun d=>∃k,d= .folded k)
 |joined:DoT d1 d2 d3 d4 d5 d6 d3 (ZdY fun d=>∃j k,d= .joined j k)
 |carried:DoT d1 d2 d3 d4 d5 d6 d4 (ZdY fun d=>∃j k s,d= .carried j k s)
 |cut:DoT d1 d2 d3 d4 d5 d6 d5 (ZdY fun d=>∃j e,d= .cut j e)
 |free:DoT d1 d2 d3 d4 d5 d6 d6 (ZdY fun d=>∃e,d= .free e)
def Zff:Sp:=ZdY fun _=>True
def Zqn (K:FJ)(g1 g2 g3 g4 g5 g6 d1 d2 d3 d4 d5 d6:Addr):TS:=ZaL (ZbD (Zau Za2 [] E0 (Zaa (Zau (Ze8 K [("gone",g1),("folded",g2),("joined",g3),("carried",g4),("cut",g5),("free",g6)]) [] E0 Jak) Zap))) (sQ1 (ZqV [("gone",d1),("folded",d2),("joined",d3),("carried",d4),("cut",d5),("free",d6)] (Jaw K)) 2 (ZbB (Zqm 2 (DoT d1 d2 d3 d4 d5 d6) Jak)))
theorem Zjn {k:Nat}(h:k<ps.length):ZlN n ps "pairing" (.int (k:Int)):=.inl ⟨_,rfl,.inl rfl,by unfold Zq5;rw[Qam (by omega),Qn (by decide),Qam (by omega)];rfl⟩
theorem Zta (h0:0≤e)(h1:e<n):ZlN n ps "place" (.int e):=.inl ⟨_,rfl,.inr rfl,by unfold Zq5;rw[Qam h0,Qp rfl,Qam h1];rfl⟩
theorem Zpf {u1:V}(h1:ZlN n ps k1 u1):∀(i:Nat)(kd:Str)(u:V),[k1][i]?=some kd→[u1][i]?=some u→ZlN n ps kd u:=fun i kd u a b=>by
 rcases i with _|i
 ·cases a;cases b;exact h1
 ·cases a
theorem Zrr {k2:Str}{u1 u2:V}(h1:ZlN n ps k1 u1)(h2:ZlN n ps k2 u2):∀(i:Nat)(kd:Str)(u:V),[k1,k2][i]?=some kd→[u1,u2][i]?=some u→ZlN n ps kd u:=fun i kd u a b=>by
 rcases i with _|i
 ·cases a;cases b;exact h1
 ·exact Zpf h2 i kd u (by simpa using a) (by simpa using b)
theorem Zdt {k:Nat}(h:ps[k]?=some p):k<ps.length:=(Qab.mp h).1
theorem Zjo {g1 g2 g3 g4 g5 g6 d1 d2 d3 d4 d5 d6:Addr}{ya yb:List V}{d:Dd}(t1:∀H,SqT K H g1 [.str "pairing"])(t2:∀H,SqT K H g2 [.str "pairing"])(t3:∀H,SqT K H g3 [.str "pairing",.str "pairing"])(t4:∀H,SqT K H g4 [.str "pairing",.str "pairing",.str "side"])(t5:∀H,SqT K H g5 [.str "pairing",.str "place"])(t6:∀H,SqT K H g6 [.str "place"])
  (h:ZaS H a pa pb n ps L ya yb) (sm:Sm n ps L wd) (hq:H q=some (.tup (ddV d))) (cn:Can n ps d) (kk:Zh7 H n ps L wd d Q):Zqn K g1 g2 g3 g4 g5 g6 d1 d2 d3 d4 d5 d6 {nx:=Z,rt:=Q } [some (.ref a),some (.ref q),none] H:=by
 have go:∀(w:Str)(us:List V)(kds:List Str)(g f:Addr)(P:Dd→Prop),ddV d= .str w::us→Zp5 [("gone",g1),("folded",g2),("joined",g3),("carried",g4),("cut",g5),("free",g6)] w=some g→(∀H',SqT K H' g (kds.map V.str))→kds.length=us.length→1≤us.length→us.length≤3→(∀(i:Nat)(kd:Str)(u:V),kds[i]?=some kd→us[i]?=some u→ZlN n ps kd u)→Zp5 [("gone",d1),("folded",d2),("joined",d3),("carried",d4),("cut",d5),("free",d6)] w=some f→DoT d1 d2 d3 d4 d5 d6 f (ZdY P)→P d→
   Zqn K g1 g2 g3 g4 g5 g6 d1 d2 d3 d4 d5 d6 {nx:=Z,rt:=Q } [some (.ref a),some (.ref q),none] H:=fun w us kds g f P ed hv hg hl h1 h3 hf hvd ht hP=>by
  have hq':H q=some (.tup (.str w::us)):=by rw[hq,ed]
  refine⟨_,rfl,_,rfl,a,pa,pb,q,g,n,ps,L,ya,yb,w,us,kds,rfl,h,hq',hv,hg,hl,h1,h3,hf,fun H1 s1=>⟨true,rfl,rfl,?_⟩⟩;refine⟨_,rfl,q,_,_,_,rfl,rfl,SqT.of (s1 _ _ hq'),ZoS _ _,w,f,rfl,hvd,?_⟩;refine⟨_,rfl,f,_,rfl,ht,_,rfl,_,rfl,a,pa,pb,q,n,ps,L,ya,yb,wd,d,rfl,h.up s1,sm,s1 _ _ hq,cn,hP,?_⟩;exact fun R S c a' pa' pb' pc' ya' yb' yc' H' w s f1 f2 t=>kk R S c a' pa' pb' pc' ya' yb' yc' H' w (s1.trans s) (s1.free f1) (s1.free f2) t
 cases d with
 |gone k=>
  obtain⟨p,e1,_⟩:=id cn;exact go "gone" [.int (k:Int)] ["pairing"] g1 d1 _ rfl rfl t1 rfl (QaN rfl) (QaN rfl) (Zpf (Zjn (Zdt e1))) rfl .gone ⟨k,rfl⟩
 |folded k=>
  obtain⟨p,e1,_⟩:=id cn;exact go "folded" [.int (k:Int)] ["pairing"] g2 d2 _ rfl rfl t2 rfl (QaN rfl) (QaN rfl) (Zpf (Zjn (Zdt e1))) rfl .folded ⟨k,rfl⟩
 |joined j k=>
  obtain⟨p,r,e1,e2,_⟩:=id cn;exact go "joined" [.int (j:Int),.int (k:Int)] ["pairing", "pairing"] g3 d3 _ rfl rfl t3 rfl (QaN rfl) (QaN rfl) (Zrr (Zjn (Zdt e1)) (Zjn (Zdt e2))) rfl .joined ⟨j,k,rfl⟩
 |carried j k s=>
  obtain⟨p,r,e1,e2,_,hs,_⟩:=id cn;refine go "carried" [.int (j:Int),.int (k:Int),.str s] ["pairing", "pairing", "side"] g4 d4 _ rfl rfl t4 rfl (by show 1≤3;decide) (by show 3≤3;decide) (fun i kd u a b=> ?_) rfl .carried ⟨j,k,s,rfl⟩;rcases i with _|i
  ·cases a;cases b;exact Zjn (Zdt e1)
  ·exact Zrr (Zjn (Zdt e2)) (.inr ⟨s,rfl,rfl,hs⟩) i kd u (by simpa using a) (by simpa using b)
 |cut j e=>
  obtain⟨p,e1,e0,e2,_⟩:=id cn;exact go "cut" [.int (j:Int),.int e] ["pairing", "place"] g5 d5 _ rfl rfl t5 rfl (QaN rfl) (QaN rfl) (Zrr (Zjn (Zdt e1)) (Zta e0 e2)) rfl .cut ⟨j,e,rfl⟩
 |free e=>
  obtain⟨e0,e1,_⟩:=id cn;exact go "free" [.int e] ["place"] g6 d6 _ rfl rfl t6 rfl (QaN rfl) (QaN rfl) (Zpf (Zta e0 e1)) rfl .free ⟨e,rfl⟩
theorem Znl {d:Dd}(c:Can n ps d):(nxt (n,ps) d).2.length≤ps.length∧(nxt (n,ps) d).1≤n:=by
 have rep:∀{k:Nat} {p:PR} {C:List PR},ps[k]?=some p→C.length≤1→(ps.take k++C++ps.drop (k+1)).length≤ps.length:=fun{k p C} e hC=>by
  have:=Zdt e;rw[Qae,Qae,Qax,Qbd];omega
 cases d with
 |gone k=>obtain⟨p,e,_⟩:=c;exact⟨rep e (QaS _),QaL _⟩
 |folded k=>obtain⟨p,e,_⟩:=c;exact⟨rep e (Qai _),QaL _⟩
 |joined j k=>
  obtain⟨p,r,e1,e2,jk,_⟩:=c
  have:=Zdt e2;refine⟨?_,QaL _⟩;show(ps.take j++ [joP (pAt ps j) (pAt ps k)]++((ps.take k).drop (j+1)++ps.drop (k+1))).length≤ps.length;simp only[Qae,Qax,Qbd,QaB,QbM];omega
 |carried j k s=>obtain⟨p,r,_,e,_⟩:=c;exact⟨rep e (Qai _),QaL _⟩
 |cut j e=>
  obtain⟨p,e1,e0,e2,_⟩:=c;refine⟨rep (C:=Zc4 (pAt ps j) e) e1 ?_,by show e≤n;omega⟩;unfold Zc4;split<;>simp
 |free e=>exact⟨Qai _,Qa9 c.2.1⟩
theorem Sm.nxt {n:Int}{ps:List PR}{L R:WL2}{wd:Nat}{d:Dd}{S:List (List Int×Int)}(h:Sm n ps L wd)(c:Can n ps d)(w:Wgt wd n ps L d R S):Sm (nxt (n,ps) d).1 (nxt (n,ps) d).2 R wd:=by
 obtain⟨h1,_⟩:=ZfY h.toHlS c w;obtain⟨a,b⟩:=Znl c;exact⟨h1,Int.le_trans b h.n6,QaW a h.pl,h.w1,h.w2⟩
end
section
variable {K:FJ}
def Ex2 (p l:Addr)(H H':Hp):Prop:=∀c o,H c=some o→c≠p→c≠l→H' c=some o
theorem Ex2.refl (p l:Addr)(H:Hp):Ex2 p l H H:=fun _ _ e _ _=>e
theorem Ex2.of {p:Addr}(s:Zam H H'):Ex2 p l H H':=fun c o e _ _=>s c o e
theorem Ex2.trans {p:Addr}{H1:Hp}(a:Ex2 p l H H1)(b:Ex2 p l H1 H2):Ex2 p l H H2:=fun c o e n m=>b c o (a c o e n m) n m
def Run (s0:Int×List PR)(ds:List Dd)(s:Int×List PR):Prop:=(∀(i:Nat)(d:Dd),ds[i]?=some d→Can ((ds.take i).foldl nxt s0).1 ((ds.take i).foldl nxt s0).2 d)∧ds.foldl nxt s0=s
theorem Run.nil (s0:Int×List PR):Run s0 [] s0:=⟨fun i d e=>(by cases e),rfl⟩
theorem Run.snoc {s:Int×List PR}{ds:List Dd}{d:Dd}(h:Run s0 ds s)(c:Can s.1 s.2 d):Run s0 (ds++ [d]) (nxt s d):=by
 refine⟨fun i x e=> ?_,by rw[Qd1,h.2];rfl⟩;by_cases z:i<ds.length
 ·rw[Qas z] at e;rw[Qdn (by omega)];exact h.1 i x e
 ·rw[Qaq (by omega)] at e
  have z2:i=ds.length:=by
   have:=(Qab.mp e).1;rw[QaJ] at this;omega
  rw[z2,QcJ] at e;cases e;rw[z2,List.take_left,h.2];exact c
def DdL (H:Hp)(ys:List V)(ds:List Dd):Prop:=ys.length=ds.length∧∀(i:Nat)(d:Dd),ds[i]?=some d→∃q:Addr,ys[i]?=some (.ref q)∧H q=some (.tup (ddV d))
theorem DdL.up {ys:List V}{ds:List Dd}(h:DdL H ys ds)(t:Za7 H H'):DdL H' ys ds:=⟨h.1,fun i d e=>let⟨q,a,b⟩:=h.2 i d e;⟨q,a,t _ _ b⟩⟩
theorem DdL.snoc {ys:List V}{ds:List Dd}{d:Dd}(h:DdL H ys ds)(hq:H q=some (.tup (ddV d))):DdL H (ys++ [.ref q]) (ds++ [d]):=by
 refine⟨by rw[Qae,Qae,h.1];rfl,fun i x e=> ?_⟩;by_cases z:i<ds.length
 ·rw[Qas z] at e;obtain⟨r,a,b⟩:=h.2 i x e;exact⟨r,by rw[Qas (by rw[h.1];exact z)];exact a,b⟩
 ·rw[Qaq (by omega)] at e
  have z2:i=ds.length:=by
   have:=(Qab.mp e).1;rw[QaJ] at this;omega
  rw[z2,QcJ] at e;cases e;exact⟨q,by rw[z2,←h.1,Qaq (Qai _),QcJ];rfl,hq⟩
def Znm (a l:Addr):List (Str×V):=[("hall",.ref a),("deeds",.ref l)]
theorem Ztb:¬(("hall" :Str)= "deeds"):=by decide +kernel
theorem ZgI (a l:Addr):ZdT "deeds" (.ref l) (ZdT "hall" (.ref a) [])=Znm a l:=Qn Ztb
theorem Zh9 (a l:Addr):(Znm a l).lookup ("hall" :Str)=some (.ref a):=by rw[←ZgI,ZbN,Qn Ztb,ZbN,Qp rfl]
theorem Zqo (a l:Addr):(Znm a l).lookup ("deeds" :Str)=some (.ref l):=by rw[←ZgI,ZbN,Qp rfl]
theorem Zea (a l:Addr):(Znm a l).lookup ("do" :Str)=none:=by
 rw[←ZgI,ZbN,Qn (by decide +kernel),ZbN,Qn (by decide +kernel)];rfl
theorem Zpg (a b l:Addr):ZdT "hall" (.ref b) (Znm a l)=Znm b l:=Qp rfl
structure Zch (C:Addr)(H:Hp)(p l:Addr)(s0:Int×List PR)(n:Int)(ps:List PR)(ds:List Dd):Prop where
 ex:∃(dx a pa pb:Addr)(L:WL2)(wd:Nat)(ya yb ys:List V),H p=some (.ins C dx (Znm a l))∧ZaS H a pa pb n ps L ya yb∧Sm n ps L wd∧H l=some (.lst ys)∧DdL H ys ds
 run:Run s0 ds (n,ps)
theorem Zch.up {C:Addr}{H H':Hp}{p l:Addr}{s0:Int×List PR}{n:Int}{ps:List PR}{ds:List Dd}(h:Zch C H p l s0 n ps ds)(s:Zam H H'):Zch C H' p l s0 n ps ds:=by
 obtain⟨dx,a,pa,pb,L,wd,ya,yb,ys,h1,h2,h3,h4,h5⟩:=h.ex;exact⟨⟨dx,a,pa,pb,L,wd,ya,yb,ys,s _ _ h1,h2.up s,h3,s _ _ h4,h5.up s.tups⟩,h.run⟩
theorem Zch.prs {C:Addr}{H:Hp}{p l:Addr}{s0:Int×List PR}{n:Int}{ps:List PR}{ds:List Dd}(h:Zch C H p l s0 n ps ds):(∀q∈ps,ZdH n q)∧ps.length≤60∧n≤60∧0≤n:=by
 obtain⟨dx,a,pa,pb,L,wd,ya,yb,ys,h1,h2,h3,h4,h5⟩:=h.ex;exact⟨h3.prs,h3.pl,h3.n6,h3.n0⟩
theorem ZgJ (h:m≤30000):m<sizeLine:=QaF h (by decide)
def Zcz (C:Addr):Sp:=fun vs H Q _=>∃(p l q:Addr)(s0:Int×List PR)(n:Int)(ps:List PR)(ds:List Dd)(d:Dd),vs=[.ref p,.ref q]∧Zch C H p l s0 n ps ds∧H q=some (.tup (ddV d))∧Can n ps d∧ds.length≤30000∧∀H',Ex2 p l H H'→Zch C H' p l s0 (nxt (n,ps) d).1 (nxt (n,ps) d).2 (ds++ [d])→Q .non H'
def Zfg (C:Addr):Sp:=fun vs H Q _=>∃(p l:Addr)(s0:Int×List PR)(n:Int)(ps:List PR)(ds:List Dd),vs=[.ref p]∧Zch C H p l s0 n ps ds∧ds.length≤25000∧∀(ps':List PR)(ds':List Dd)(H':Hp),Ex2 p l H H'→Zch C H' p l s0 n ps' ds'→ds'.length≤ds.length+120→(∀q∈ps',mlB q=true)→Q .non H'
def Zui (K:FJ):TS:=ZaL (ZaW (Zau Zff [] E0 (Zaa (Zhj K (Zag 0) ("hall")) (tQ1 1))) (Zcp K 2 (ZaC (ZuE K (Zag 0) ("hall")) (ZaC (Zan 2) ZcN)))) (ZbD (tBM K "list" ZcP (Zhj K (Zag 0) ("deeds")) (tQ1 1)))
theorem Zuj (h:ZdH n p)(f:foB p=false)(g:goB p=false):mlB p=true:=by
 obtain⟨a,b,c,d⟩:=h;unfold foB at f;rw[g] at f;unfold goB at g;unfold mlB;cases ht:p.2.2.2<;>rw[ht] at f g
 ·have:¬p.1=p.2.1:=by simpa using g
  simp only[QdW,Bool.true_or,Bool.and_true,Qcf];omega
 ·have:¬p.2.1<p.1+p.2.2.1:=by simpa using f
  simp only[QeS,Bool.false_or,QaK,Qcf];omega
section
variable (cl:Cls K C)(nH:Zcc K C "hall")(nD:Zcc K C "deeds")
include cl nH nD
theorem Zlg {p:Addr}{ds:List Dd}{d:Dd}(h:Zch C H p l s0 n ps ds)(hq:H q=some (.tup (ddV d)))(cn:Can n ps d)(ln:ds.length≤30000)(k:∀H',Ex2 p l H H'→Zch C H' p l s0 (nxt (n,ps) d).1 (nxt (n,ps) d).2 (ds++ [d])→Q .non H'):
  Zui K {nx:=fun _ H'=>Q .non H',rt:=Q } [some (.ref p),some (.ref q),none] H:=by
 obtain⟨dx,a,pa,pb,L,wd,ya,yb,ys,h1,h2,h3,h4,h5⟩:=h.ex;refine⟨_,rfl,p,C,dx,_,_,rfl,h1,cl,nH,Zh9 a l,_,rfl,a,pa,pb,q,n,ps,L,ya,yb,wd,d,rfl,h2,h3,hq,cn,Qco,fun R S c a' pa' pb' pc' ya' yb' yc' H1 w s fa fb t=> ?_⟩;have hp1:=s _ _ h1;have hl1:=s _ _ h4;refine⟨c,_,rfl,SqT.of t.hc,rfl,_,_,rfl,_,rfl,p,C,dx,_,rfl,hp1,cl,nH,(by show 2<1000;decide),?_⟩;rw[Zpg];have npl:l≠p:=fun z=>by rw[z,h1] at h4;cases h4
 refine⟨_,_,rfl,rfl,?_⟩;refine⟨_,rfl,p,C,dx,_,_,rfl,Zad,cl,nD,Zqo a' l,.inl ⟨rfl,_,SqL.of (by rw[Zaq npl];exact hl1)⟩,_,rfl,l,ys,_,rfl,rfl,by rw[Zaq npl];exact hl1,ZgJ (by rw[h5.1];exact ln),?_⟩;have keep:∀b o,H1 b=some o→b≠p→b≠l→(upd (upd H1 p (.ins C dx (Znm a' l))) l (.lst (ys++ [.ref q]))) b=some o:=fun b o e n1 n2=>by rw[Zaq n2,Zaq n1];exact e
 have nt:∀{b:Addr} {vs:List V},H1 b=some (.tup vs)→b≠p∧b≠l:=fun{b vs} e=>⟨fun z=>(by rw[z,hp1] at e;cases e),fun z=>(by rw[z,hl1] at e;cases e)⟩;have tp:Za7 H1 (upd (upd H1 p (.ins C dx (Znm a' l))) l (.lst (ys++ [.ref q]))):=fun b vs e=>keep b _ e (nt e).1 (nt e).2
 have hall:ZaS (upd (upd H1 p (.ins C dx (Znm a' l))) l (.lst (ys++ [.ref q]))) a' pa' pb' (nxt (n,ps) d).1 (nxt (n,ps) d).2 R ya' yb':=by
  have na:pa'≠p∧pa'≠l:=⟨fun z=>(by rw[z,h1] at fa;cases fa),fun z=>(by rw[z,h4] at fa;cases fa)⟩;have nb:pb'≠p∧pb'≠l:=⟨fun z=>(by rw[z,h1] at fb;cases fb),fun z=>(by rw[z,h4] at fb;cases fb)⟩;exact⟨tp _ _ t.hall.h,keep _ _ t.hall.ha na.1 na.2,t.hall.ca.up tp,keep _ _ t.hall.hb nb.1 nb.2,t.hall.wb.up tp⟩
 refine k _ (fun b o e n1 n2=>keep b o (s b o e) n1 n2) ⟨⟨dx,a',pa',pb',R,wd,ya',yb',_,by rw[Zaq npl.symm];exact Zad,hall,h3.nxt cn w,Zad,(h5.snoc hq).up (s.tups.trans tp)⟩,h.run.snoc cn⟩
end
end
section
variable {K:FJ}
structure EmP (C:Addr)(H:Hp)(p l:Addr)(s0:Int×List PR)(n:Int)(ps:List PR)(ds:List Dd)(dx a pa pb:Addr)(L:WL2)(ya yb:List V):Prop where
 em:Zch C H p l s0 n ps ds
 ob:H p=some (.ins C dx (Znm a l))
 hall:ZaS H a pa pb n ps L ya yb
theorem Zch.parts {p:Addr}{ds:List Dd}(h:Zch C H p l s0 n ps ds):∃(dx a pa pb:Addr)(L:WL2)(ya yb:List V),EmP C H p l s0 n ps ds dx a pa pb L ya yb:=by
 obtain⟨dx,a,pa,pb,L,wd,ya,yb,ys,h1,h2,h3,h4,h5⟩:=id h.ex;exact⟨dx,a,pa,pb,L,ya,yb,h,h1,h2⟩
theorem Zlh {p:Addr}{ds:List Dd}{d:Dd}(h:Zch C H p l s0 n ps ds)(hq:H q=none)(cn:Can n ps d)(ln:ds.length≤30000)(k:∀H',Ex2 p l H H'→Zch C H' p l s0 (nxt (n,ps) d).1 (nxt (n,ps) d).2 (ds++ [d])→Q .non H'):Zap σ (upd H q (.tup (ddV d))) fun xs H2=>Zcz C (.ref p::((.ref q::xs)++ [])) H2 Q E0:=by
 have s:=Zam.nw (o:=.tup (ddV d)) (Zam.refl H) hq;exact⟨p,l,q,s0,n,ps,ds,d,rfl,h.up s,Zad,cn,ln,fun H' x e=>k H' ((Ex2.of s).trans x) e⟩
def Zph (K:FJ)(C:Addr):TS:=sQ1 (iQ1 0) 1 (Zer (ZbE (tOp Jai (Zag 1) (tCB (Jal K) (Zaa (tOp (ZbO K) (Zhj K (Zag 0) ("hall")) (iQ1 1)) Zap)))) (sQ1 (tOp (Zcu K) (tOp (ZbO K) (Zhj K (Zag 0) ("hall")) (iQ1 1)) (Zag 1)) 2 (Zeq (tB (Zau Zdb [] E0 (tQ1 2))) (ZbD (Zf3 C ("do") (Zcz C) [] E0 (Zag 0) (Zaa (Zcr (Zaa (tC (V.str "folded")) (tQ1 1))) Zap))) (Zeq (tB (Zau ZdG [] E0 (tQ1 2))) (ZbD (Zf3 C ("do") (Zcz C) [] E0 (Zag 0) (Zaa (Zcr (Zaa (tC (V.str "gone")) (tQ1 1))) Zap))) (ZtO 1 (iQ1 1) (ipI fun i j=>i+j))))))
def wtF (ps:List PR):Nat:=(ps.map fun p=>if foB p=true then 2 else 1).sum
theorem Ztc (ps:List PR):wtF ps≤2*ps.length:=by
 unfold wtF
 induction ps with
 |nil=>exact Qai _
 |cons p ps ih=>
  rw[QaD,Qbn,QaB];split<;>omega
theorem Zpi {k:Nat}(h:ps[k]?=some p):wtF (ps.drop k)=(if foB p=true then 2 else 1)+wtF (ps.drop (k+1)):=by
 obtain⟨hl,e⟩:=Qab.mp h;rw[Qb5 hl,e];rfl
theorem ZeL {α:Type}{ps C:List α}{k:Nat}(h:k≤ps.length):(ps.take k++C++ps.drop (k+1)).drop k=C++ps.drop (k+1):=by
 rw[Qa7,Qdo (by rw[Qax];omega),List.drop_of_length_le (by rw[Qax];omega),Qb6]
theorem Znn {α:Type}{ps C:List α}{k:Nat}(h:k≤ps.length)(hi:i<k):(ps.take k++C++ps.drop (k+1))[i]?=ps[i]?:=by
 rw[Qa7,Qas (by rw[Qax];omega),QcH,Qp hi]
theorem Ztd (h:ZdH n p)(f:foB p=true):foB (foP p)=false:=by
 obtain⟨f1,f2,f3⟩:=Zfc f;obtain⟨a,b,c,d⟩:=h;unfold foB
 have:decide ((foP p).2.1<(foP p).1+(foP p).2.2.1)=false:=QaC (by
  show ¬(p.1+p.2.1+p.2.2.1-1+1-p.1-((p.1+p.2.1+p.2.2.1-1+1)/2-p.1)<p.1+((p.1+p.2.1+p.2.2.1-1+1)/2-p.1));omega)
 rw[this];simp
section
variable (cl:Cls K C)(nH:Zcc K C "hall")
include cl nH
theorem Zjp {p:Addr}{ds:List Dd}{ya yb:List V}(hi:σ[i]?=some (some (.ref p)))(e:EmP C H p l s0 n ps ds dx a pa pb L ya yb)(k:Q (.ref pa) H):tOp (ZbO K) (Zhj K (Zag i) "hall") (tC (V.int 1)) σ H Q:=
 ⟨_,hi,p,C,dx,_,_,rfl,e.ob,cl,nH,Zh9 a l,a,_,_,_,rfl,rfl,SqT.of e.hall.h,rfl,k⟩
theorem ZgK {p:Addr}{ds:List Dd}(h:Zch C H p l s0 n ps ds)(ln:ds.length≤25000)(kk:∀(ps':List PR)(ds':List Dd)(H':Hp),Ex2 p l H H'→Zch C H' p l s0 n ps' ds'→ds'.length≤ds.length+120→(∀q∈ps',mlB q=true)→Q .non H'):
  Zph K C {nx:=fun _ H'=>Q .non H',rt:=Q } [some (.ref p),none,none] H:=by
 refine⟨fun m σ H'=>∃(k:Nat)(ps':List PR)(ds':List Dd)(x2:Option V),σ=[some (.ref p),some (.int (k:Int)),x2]∧Ex2 p l H H'∧Zch C H' p l s0 n ps' ds'∧k≤ps'.length∧(∀i<k,∀q,ps'[i]?=some q→mlB q=true)∧m=wtF (ps'.drop k)∧ds'.length+m≤ds.length+120,⟨_,0,ps,ds,none,rfl,Ex2.refl _ _ _,h,QaS _,(fun i hi=>by omega),rfl,?_⟩,?_⟩
 ·have:=Ztc ps;have:=h.prs.2.1;rw[QeL];omega
 ·rintro m σ H1 ⟨k,ps1,ds1,x2,rfl,x1,e1,k1,ml,rfl,lm⟩;obtain⟨dx,a,pa,pb,L,ya,yb,E⟩:=e1.parts;obtain⟨pk,pl,_,_⟩:=e1.prs;refine⟨_,rfl,Zjp cl nH rfl E ⟨pa,ya,rfl,.inl (SqL.of E.hall.ha),_,_,rfl,rfl,_,rfl,Zfx (fun c=> ?_) (fun c=> ?_)⟩⟩
  ·have c:=Qar c;rw[E.hall.len] at c;have kl:k<ps1.length:=by omega
   obtain⟨q,eq⟩:∃q,ps1[k]?=some q:=⟨_,Qad kl⟩;obtain⟨q1,y1,f1⟩:=E.hall.at eq;have okq:=pk q (ZaU eq);have wd:=Zpi eq;refine⟨fun σ H'=>∃m',m'<wtF (ps1.drop k)∧∃(k:Nat)(ps':List PR)(ds':List Dd)(x2:Option V),σ=[some (.ref p),some (.int (k:Int)),x2]∧Ex2 p l H H'∧Zch C H' p l s0 n ps' ds'∧k≤ps'.length∧(∀i<k,∀q,ps'[i]?=some q→mlB q=true)∧m'=wtF (ps'.drop k)∧ds'.length+m'≤ds.length+120,fun σ' H' z=>z,?_⟩;refine Zjp cl nH rfl E ⟨_,rfl,pa,_,_,_,rfl,rfl,SqL.of E.hall.ha,ZaK y1,?_⟩;refine⟨_,rfl,q1,q,rfl,f1,_,rfl,?_⟩
   cases hf:foB q with
   |true=>
    rw[hf,Qp rfl] at wd;refine Zcl ⟨_,rfl,p,dx,_,rfl,E.ob,Zea a l,_,rfl,zL2,fun r hr=>Zlh (d:=.folded k) e1 hr ⟨q,eq,hf⟩ (by omega) fun H' x e=> ?_⟩;have e':Zch C H' p l s0 n (ps1.take k++ [foP (pAt ps1 k)]++ps1.drop (k+1)) (ds1++ [.folded k]):=e;rw[Zbj eq] at e';refine⟨_,?_,k,_,_,_,rfl,x1.trans x,e',?_,fun i hi r hr=> ?_,rfl,?_⟩
    ·rw[ZeL k1,wd];show wtF (foP q::ps1.drop (k+1))<_;unfold wtF;rw[QaD,Qbn,Ztd okq hf,Qn (by decide)];omega
    ·rw[Qae,Qae,Qax,Qbd,QaJ];omega
    ·rw[Znn k1 hi] at hr;exact ml i hi r hr
    ·rw[ZeL k1,Qae,QaJ];show _+1+wtF (foP q::ps1.drop (k+1))≤_
     have:wtF (foP q::ps1.drop (k+1))=1+wtF (ps1.drop (k+1)):=by unfold wtF;rw[QaD,Qbn,Ztd okq hf,Qn (by decide)]
     omega
   |false=>
    rw[hf,Qn (by decide)] at wd;refine Zcd ⟨_,rfl,q1,q,rfl,f1,_,rfl,?_⟩
    cases hg:goB q with
    |true=>
     refine Zcl ⟨_,rfl,p,dx,_,rfl,E.ob,Zea a l,_,rfl,zL2,fun r hr=>Zlh (d:=.gone k) e1 hr ⟨q,eq,hg⟩ (by omega) fun H' x e=> ?_⟩;have e':Zch C H' p l s0 n (ps1.take k++ []++ps1.drop (k+1)) (ds1++ [.gone k]):=e;refine⟨_,?_,k,_,_,_,rfl,x1.trans x,e',?_,fun i hi r hr=> ?_,rfl,?_⟩
     ·rw[ZeL k1,wd,Qb6];omega
     ·rw[Qae,Qae,Qax,Qbd,QbM];omega
     ·rw[Znn k1 hi] at hr;exact ml i hi r hr
     ·rw[ZeL k1,Qae,QaJ,Qb6];omega
    |false=>
     refine Zcd ⟨_,rfl,_,_,rfl,rfl,?_⟩;refine⟨_,?_,k+1,ps1,ds1,some (.ref q1),?_,x1,e1,kl,fun i hi r hr=> ?_,rfl,by omega⟩
     ·omega
     ·rw[QdI];rfl
     ·by_cases z:i=k
      ·rw[z,eq] at hr;cases hr;exact Zuj okq hf hg
      ·exact ml i (by omega) r hr
  ·have c:ps1.length≤k:=by
    have c:¬(k:Int)<(ya.length:Int):=fun z=>c (Qam z);rw[E.hall.len] at c;omega
   refine kk ps1 ds1 H1 x1 e1 (by omega) fun q hq=> ?_;obtain⟨i,hi⟩:=QaZ.mp hq;exact ml i (by have:=(Qab.mp hi).1;omega) q hi
end
end
section
variable {K:FJ}
def Zli:Sp:=fun vs H Q _=>∃(pa:Addr)(ya:List V)(ps:List PR),vs=[.ref pa]∧H pa=some (.lst ya)∧CpL H ya (ps.map pV)∧ps.length≤60∧(∀H',Zam H H'→Q .non H')∧∀(c:Addr)(j k:Nat)(p q:PR)(H':Hp),Zam H H'→H' c=some (.tup [.int (j:Int),.int (k:Int)])→ps[j]?=some p→ps[k]?=some q→j<k→mjB p q=true→Q (.ref c) H'
def Zfh (C:Addr):Sp:=fun vs H Q _=>∃(p l:Addr)(s0:Int×List PR)(n:Int)(ps:List PR)(ds:List Dd),vs=[.ref p]∧Zch C H p l s0 n ps ds∧ds.length≤25000∧(∀q∈ps,mlB q=true)∧∀(ps':List PR)(ds':List Dd)(H':Hp),Ex2 p l H H'→Zch C H' p l s0 n ps' ds'→ds'.length≤ds.length+60→(∀q∈ps',mlB q=true)→Q .non H'
abbrev Jao (K:FJ):=Zcp K 2 (ZaC (Zan 0) (ZaC (Zan 1) ZcN))
def ZuP (K:FJ):TS:=sQ1 (ZbU 2 (ZmE K (tQ1 0)) (Jao K) (tB (Zau Zdn [] E0 (tQ1 1))) (Zag 0)) 1 (ZaL (ZfJ (ZmE K (tQ1 1)) (Zcp K 2 Jaq) (ZfJ (Zc7 K (tSl (Zse K) (Zag 1) (ZfA (tOp Jaa (Zag 2) (iQ1 1))) ZcC)) (Zan 4) (Zeq (tB (Zau Zdc [] E0 (Zaa (tOp (Zcu K) (Zag 0) (Zag 3)) (Zaa (tOp (Zcu K) (Zag 0) (Zag 4)) Zap)))) (ZbB (Zcr (Zaa (Zag 3) (tQ1 4)))) ZcK))) (ZbB (tC V.non)))
def Zpj (K:FJ)(C:Addr):TS:=sQ1 (Zau Zli [] E0 (Zaa (tOp (ZbO K) (Zhj K (Zag 0) ("hall")) (iQ1 1)) Zap)) 1 (Zer (tB (Zr3 (Zag 1))) (ZaL (ZbD (Zf3 C ("do") (Zcz C) [] E0 (Zag 0) (Zaa (Zcr (Zaa (tC (V.str "joined")) (Zaa (Jaw K) (Zaa (Jax K) Zap)))) Zap))) (ZaW (Zau Zli [] E0 (Zaa (tOp (ZbO K) (Zhj K (Zag 0) ("hall")) (iQ1 1)) Zap)) (Zan 1))))
def Zia (ts:List Nat):List V:=ts.map fun k:Nat=>V.int (k:Int)
theorem Zno {ya:List V}(ha:H pa=some (.lst ya))(ca:CpL H ya (ps.map pV))(pl:ps.length≤60)(k1:∀H',Zam H H'→Q .non H')(k2:∀(c:Addr)(j k:Nat)(p q:PR)(H':Hp),Zam H H'→H' c=some (.tup [.int (j:Int),.int (k:Int)])→ps[j]?=some p→ps[k]?=some q→j<k→mjB p q=true→Q (.ref c) H'):
  ZuP K {nx:=Z,rt:=Q } [some (.ref pa),none,none,none,none] H:=by
 have yl:ya.length=ps.length:=by rw[ca.1,Qaf]
 refine⟨_,rfl,pa,rfl,⟨_,SqL.of ha⟩,ZmU (K:=K) (a:=pa) (xs:=ya) (fun i ys H'=>Zam H H'∧∃ts:List Nat,ys=Zia ts∧ts.Pairwise (· < ·)∧(∀t∈ts,t<i)∧ts.length≤i) ⟨Zam.refl _,[],rfl,.nil,(fun t h=>by cases h),Qai _⟩ (by omega) (fun i ys H' h=>by obtain⟨_,ts,rfl,_,_,l⟩:=h;unfold Zia;rw[Qaf];exact l) (fun i ys H' _ h=>SqL.of (h.1 _ _ ha)) ?_ ?_⟩
 ·rintro i x ys H1 pre pp qc hx ⟨s1,ts,rfl,pw,lt,ll⟩ hpp;obtain⟨q,p,ep,rfl,hq⟩:=ca.at' hx;have s2:=Zam.nw (o:=.tup [.int (i:Int),.ref q]) s1 hpp;have f2:(upd H1 pp (.tup [.int (i:Int),.ref q])) pp=some (.tup [.int (i:Int),.ref q]):=Zad;change Zcp K 2 _ _ _ (upd H1 pp (.tup [.int (i:Int),.ref q])) _;generalize upd H1 pp (.tup [.int (i:Int),.ref q])=H2 at s2 f2⊢;rcases pre with _|⟨q0,_|⟨q1,_|⟨q2,pre⟩⟩⟩
  ·cases qc
  ·cases qc
  ·refine⟨pp,_,rfl,SqT.of f2,rfl,_,_,rfl,_,_,rfl,rfl,⟨[some _,some _],rfl,rfl⟩,_,rfl,q,p,rfl,s2 _ _ hq,_,rfl,?_⟩
   cases itB p with
   |true=>
    refine Zcl ⟨_,rfl,s2,ts++ [i],?_,?_,fun t ht=> ?_,by rw[Qae];exact Qeq ll⟩
    ·unfold Zia;rw[Qau];rfl
    ·refine List.pairwise_append.mpr ⟨pw,List.pairwise_singleton _ _,fun a ha b hb=> ?_⟩;rw[Qal.mp hb];exact lt a ha
    ·rcases Qap.mp ht with ht|ht
     ·exact Qb0 (lt t ht)
     ·rw[Qal.mp ht];exact QcU _
   |false=>exact Zcd ⟨s2,ts,rfl,pw,fun t ht=>Qb0 (lt t ht),Qd6 ll⟩
  ·cases qc
 ·rintro ys H1 ⟨s1,ts,rfl,pw,lt,ll⟩ D hD;have s2:=Zam.nw (o:=.lst (Zia ts)) s1 hD;have fD:(upd H1 D (.lst (Zia ts))) D=some (.lst (Zia ts)):=Zad;generalize upd H1 D (.lst (Zia ts))=H2 at s2 fD⊢;have nl:(Zia ts).length=ts.length:=by unfold Zia;rw[Qaf]
  refine⟨_,rfl,D,rfl,⟨_,SqL.of fD⟩,ZoE (K:=K) (a:=D) (xs:=Zia ts) (fun i σ H'=>∃(x2 x3 x4:Option V),σ=[some (.ref pa),some (.ref D),x2,x3,x4]∧Zam H2 H') ⟨_,_,_,rfl,Zam.refl _⟩ (fun i σ H' _ h=>by obtain⟨_,_,_,_,s⟩:=h;exact SqL.of (s _ _ fD)) ?_ ?_⟩
  ·rintro i x σ H3 pp hx ⟨x2,x3,x4,rfl,s3⟩ hpp
   have et:∃t,ts[i]?=some t∧x= .int (t:Int):=by
    unfold Zia at hx;rw[Qao] at hx
    cases z:ts[i]? with
    |none=>rw[z] at hx;cases hx
    |some t=>rw[z] at hx;cases hx;exact⟨t,rfl,rfl⟩
   obtain⟨t,et,rfl⟩:=et;have s4:=Zam.nw (o:=.tup [.int (i:Int),.int (t:Int)]) s3 hpp;have f4:(upd H3 pp (.tup [.int (i:Int),.int (t:Int)])) pp=some (.tup [.int (i:Int),.int (t:Int)]):=Zad;change Zcp K 2 _ _ _ (upd H3 pp (.tup [.int (i:Int),.int (t:Int)])) _;generalize upd H3 pp (.tup [.int (i:Int),.int (t:Int)])=H4 at s4 f4⊢;refine⟨pp,_,rfl,SqT.of f4,rfl,_,_,rfl,_,_,rfl,rfl,?_⟩;refine⟨_,rfl,_,rfl,_,_,rfl,rfl,(i:Int)+1,rfl,D,_,rfl,SqL.of (s4 _ _ fD),fun c hc=> ?_⟩;have il:i<ts.length:=(Qab.mp et).1;rw[show((i:Int)+1)=((i+1:Nat):Int) by omega,ZcT (k:=i+1) _ (by rw[nl];omega)];have s5:=Zam.nw (o:=.lst ((Zia ts).drop (i+1))) s4 hc;have f5:(upd H4 c (.lst ((Zia ts).drop (i+1)))) c=some (.lst ((Zia ts).drop (i+1))):=Zad;generalize upd H4 c (.lst ((Zia ts).drop (i+1)))=H5 at s5 f5⊢;refine⟨c,rfl,⟨_,SqL.of f5⟩,ZbL (K:=K) (a:=c) (xs:=(Zia ts).drop (i+1)) (fun m σ H'=>∃x4:Option V,σ=[some (.ref pa),some (.ref D),some (.int (i:Int)),some (.int (t:Int)),x4]∧H5=H') ⟨_,rfl,rfl⟩ (fun m σ H' _ h=>by obtain⟨_,_,rfl⟩:=h;exact SqL.of f5) ?_ ?_⟩
   ·rintro m y σ H6 hy ⟨x4,rfl,rfl⟩;rw[Qcs] at hy
    have eu:∃u,ts[i+1+m]?=some u∧y= .int (u:Int):=by
     unfold Zia at hy;rw[Qao] at hy
     cases z:ts[i+1+m]? with
     |none=>rw[z] at hy;cases hy
     |some t=>rw[z] at hy;cases hy;exact⟨t,rfl,rfl⟩
    obtain⟨u,eu,rfl⟩:=eu;have tl:=lt t (Qav et);have ul:=lt u (Qav eu);obtain⟨p,ep⟩:∃p,ps[t]?=some p:=⟨_,Qad (by omega)⟩;obtain⟨r,er⟩:∃r,ps[u]?=some r:=⟨_,Qad (by omega)⟩
    have at1:∀{k:Nat} {p:PR},ps[k]?=some p→∃q:Addr,ya[k]?=some (.ref q)∧H q=some (.tup (pV p)):=fun{k p} e=>by
     have kl:k<ya.length:=by rw[yl];exact Zdt e
     obtain⟨q,p',ep',ex,hq⟩:=ca.at' (Qad kl);rw[e] at ep';cases ep';exact⟨q,by rw[Qad kl,ex],hq⟩
    obtain⟨q1,y1,f1⟩:=at1 ep;obtain⟨q2,y2,f2⟩:=at1 er;have s05:=s2.trans s5;refine⟨_,rfl,_,rfl,pa,_,_,_,rfl,rfl,SqL.of (s05 _ _ ha),ZaK y1,_,rfl,_,rfl,pa,_,_,_,rfl,rfl,SqL.of (s05 _ _ ha),ZaK y2,q1,q2,p,r,rfl,s05 _ _ f1,s05 _ _ f2,_,rfl,?_⟩
    cases hm:mjB p r with
    |true=>
     refine Zcl ⟨_,rfl,_,rfl,zL2,fun c2 hc2=> ?_⟩;have tu:t<u:=QcS.mp pw i (i+1+m) il (Qab.mp eu).1 (by omega)|>fun z=>by rwa [(Qab.mp et).2,(Qab.mp eu).2] at z
     exact k2 c2 t u p r _ (Zam.nw s05 hc2) Zad ep er tu hm
    |false=>exact Zcd ⟨_,rfl,rfl⟩
   ·rintro σ H6 ⟨x4,rfl,rfl⟩;exact⟨_,_,_,rfl,s5⟩
  ·rintro σ H3 ⟨x2,x3,x4,rfl,s3⟩;exact k1 _ (s2.trans s3)
def Zuk (C:Addr)(H:Hp)(p l:Addr)(s0:Int×List PR)(n:Int)(ds:List Dd)(m:Nat)(σ:St)(H':Hp):Prop:=∃(ps1:List PR)(ds1:List Dd)(b:V),σ=[some (.ref p),some b]∧Ex2 p l H H'∧Zch C H' p l s0 n ps1 ds1∧m=ps1.length∧ds1.length+ps1.length≤ds.length+60∧(∀q∈ps1,mlB q=true)∧(b= .non∨∃(c:Addr)(j k:Nat)(q r:PR),b= .ref c∧H' c=some (.tup [.int (j:Int),.int (k:Int)])∧ps1[j]?=some q∧ps1[k]?=some r∧j<k∧mjB q r=true)
theorem Zrs (h:itB p=true):mlB p=true:=by
 obtain⟨a,b,c⟩:=Zbu h;unfold mlB;rw[a,Qam b];rfl
section
variable (cl:Cls K C)(nH:Zcc K C "hall")
include cl nH
theorem ZgL {p:Addr}{ds:List Dd}(h:Zch C H p l s0 n ps ds)(ln:ds.length≤25000)(ml:∀q∈ps,mlB q=true)(kk:∀(ps':List PR)(ds':List Dd)(H':Hp),Ex2 p l H H'→Zch C H' p l s0 n ps' ds'→ds'.length≤ds.length+60→(∀q∈ps',mlB q=true)→Q .non H'):
  Zpj K C {nx:=fun _ H'=>Q .non H',rt:=Q } [some (.ref p),none] H:=by
 have go:∀{ps1:List PR} {ds1:List Dd} {H1:Hp} {σ:St} {R:VK},Zch C H1 p l s0 n ps1 ds1→σ[0]?=some (some (.ref p))→(∀H',Zam H1 H'→R .non H')→(∀(c:Addr)(j k:Nat)(q r:PR)(H':Hp),Zam H1 H'→H' c=some (.tup [.int (j:Int),.int (k:Int)])→ps1[j]?=some q→ps1[k]?=some r→j<k→mjB q r=true→R (.ref c) H')→
   Zau Zli [] E0 (Zaa (tOp (ZbO K) (Zhj K (Zag 0) "hall") (tC (V.int 1))) Zap) σ H1 R:=fun{ps1 ds1 H1 σ R} e hi r1 r2=>by
  obtain⟨dx,a,pa,pb,L,ya,yb,E⟩:=e.parts;obtain⟨pk,pl,_,_⟩:=e.prs;exact Zjp cl nH hi E ⟨pa,ya,ps1,rfl,E.hall.ha,E.hall.ca,pl,r1,r2⟩
 have inv:∀{ps1:List PR} {ds1:List Dd} {H1:Hp} {x1:Option V},Ex2 p l H H1→Zch C H1 p l s0 n ps1 ds1→ds1.length+ps1.length≤ds.length+60→(∀q∈ps1,mlB q=true)→∀{N:St→Hp→Prop},(∀σ H',Zuk C H p l s0 n ds ps1.length σ H'→N σ H')→
   Zau Zli [] E0 (Zaa (tOp (ZbO K) (Zhj K (Zag 0) "hall") (tC (V.int 1))) Zap) [some (.ref p),x1] H1 fun v H'=>N [some (.ref p),some v] H':=fun{ps1 ds1 H1 x1} x e l1 m1 {N} k=>by
  refine go e rfl (fun H' s=>k _ _ ⟨ps1,ds1,.non,rfl,x.trans (Ex2.of s),e.up s,rfl,l1,m1,.inl rfl⟩) fun c j k0 q r H' s hc ej ek jk hm=>k _ _ ⟨ps1,ds1,.ref c,rfl,x.trans (Ex2.of s),e.up s,rfl,l1,m1,.inr ⟨c,j,k0,q,r,rfl,hc,ej,ek,jk,hm⟩⟩
 refine inv (Ex2.refl _ _ _) h (by have:=h.prs.2.1;omega) ml fun σ H1 w=>⟨Zuk C H p l s0 n ds,⟨_,w⟩,?_⟩;rintro m σ H2 ⟨ps1,ds1,b,rfl,x,e,rfl,l1,m1,hb⟩;rcases hb with rfl|⟨c,j,k,q,r,rfl,hc,ej,ek,jk,hm⟩
 ·exact⟨_,rfl,false,rfl,Zcd (kk ps1 ds1 H2 x e (by omega) m1)⟩
 ·refine⟨_,rfl,true,rfl,Zcl ⟨fun σ' H'=>∃m',m'<ps1.length∧Zuk C H p l s0 n ds m' σ' H',fun σ' H' z=>z,?_⟩⟩;obtain⟨dx,a,pa,pb,L,ya,yb,E⟩:=e.parts;refine⟨_,rfl,p,dx,_,rfl,E.ob,Zea a l,_,rfl,c,_,_,_,rfl,rfl,SqT.of hc,rfl,_,rfl,c,_,_,_,rfl,rfl,SqT.of hc,rfl,zL3,fun f hf=>Zlh (d:=.joined j k) e hf ⟨q,r,ej,ek,jk,hm⟩ (by omega) fun H' x' e'=> ?_⟩;have e':Zch C H' p l s0 n (ps1.take j++ [joP (pAt ps1 j) (pAt ps1 k)]++((ps1.take k).drop (j+1)++ps1.drop (k+1))) (ds1++ [.joined j k]):=e';rw[Zbj ej,Zbj ek] at e';have kl:=Zdt ek
  have el:(ps1.take j++ [joP q r]++((ps1.take k).drop (j+1)++ps1.drop (k+1))).length=ps1.length-1:=by
   simp only[Qae,Qax,Qbd,QaB,QbM];omega
  refine inv (x.trans x') e' (by rw[el,Qae,QaJ];omega) (fun z hz=> ?_) fun σ' H'' w=>⟨_,by rw[el];omega,w⟩;rw[Qap,Qap,Qap] at hz;rcases hz with(hz|hz)|hz|hz
  ·exact m1 z (Qbf hz)
  ·rw[Qal.mp hz];exact Zrs (Zjj hm)
  ·exact m1 z (Qbf (Qbm hz))
  ·exact m1 z (Qbm hz)
end
end
abbrev Zoa (h0 h:Heap):Prop:=∀b o,h0.get? b=some o→h.get? b=some o
section
variable {R:Result→Shared→Prop}{n:Nat}{St:Nat→Heap→Prop}
theorem ZgM:(toString "min" ++toString ".loop" :String)= "min.loop" :=by decide
theorem Zpk (W:Walks prog w A.in1 I fp wr n P St)(bt:Nat→Nat→Bool)(h0:Heap)(S:Addr)(nS:S∉fp)(old:∀b o,h0.get? b=some o→b∉wr∧b≠S)
  (cmp:∀i j vi vj (s:Shared) (Q:Value→Shared→Prop) (E:Value→Shared→Prop),Zoa h0 s.heap→P i vi→P j vj→Q (.bool (bt i j)) s→wpAny (model prog w) A.in1 (richCompare .Lt vi vj) Q E s):
  ∀(m j:Nat)(s:Shared)(vb:Value)(c:Nat),n-(j+1)=m→j+1≤n→St (j+1) s.heap→P (argBest bt j) vb→Zoa h0 s.heap→s.heap.get? S=some {cls:=.type "list",dict:=none,data:=.seq #[vb,vb] c,slots:=#[] }→
  (∀v h' tk,P (argBest bt (n-1)) v→Zoa h0 h'→R (.ok (.ret v)) {s with heap:=h',toks:=tk })→codeAny (model prog w) A (.builtin "min.loop" ⟨[.ref I,.none,.ref S],[]⟩) R s:=by
 have wS:S∉wr:=fun h=>nS (W.sub _ h);intro m
 induction m with
 |zero=>
  intro j s vb c hm hj st pb kp hS hR;have ej:j+1=n:=by omega
  refine QbC F.entry_min_loop ?_;rw[Qba F.plain_min_loop _];show wpAny _ A.in1 (seqItems? (.ref S)>>=_) _ _ s;refine Qaa (Qbw hS rfl ?_);show wpAny _ A.in1 (tryCatch (pyNext (.ref I)) _>>=_) _ _ s;refine Qaa (Qce (W.done s _ _ (ej ▸ st) fun h' tk kk=> ?_));have hS':=kk S _ wS hS;show wpAny _ A.in1 (updateSeq S (fun _=> #[])>>=_) _ _ _;refine Qaa ?_;refine Qca hS' rfl (Qaa (Qch (Qak ?_)));exact hR vb _ tk (by rw[←ej];exact pb) fun b o e=>(QaU _ _ (Ne.symm (old b o e).2)).trans (kk b o (old b o e).1 (kp b o e))
 |succ m ih=>
  intro j s vb c hm hj st pb kp hS hR;have lt:j+1<n:=by omega
  refine QbC F.entry_min_loop ?_;rw[Qba F.plain_min_loop _];show wpAny _ A.in1 (seqItems? (.ref S)>>=_) _ _ s;refine Qaa (Qbw hS rfl ?_);show wpAny _ A.in1 (tryCatch (pyNext (.ref I)) _>>=_) _ _ s;refine Qaa (Qce (W.item (j+1) s _ _ lt st fun v h' tk pv st' kk=> ?_));have hS':=kk S _ wS hS;have kp':Zoa h0 h':=fun b o e=>kk b o (old b o e).1 (kp b o e);show wpAny _ A.in1 (tryCatch (holding [v,v] (richCompare .Lt v vb>>=_)) _>>=_) _ _ _;refine Qaa (Qce (Qbz (Qaa (cmp (j+1) (argBest bt j) v vb _ _ _ kp' pv pb ?_))));refine Qaa (Qbz (Qbg ?_));refine Qaa (Qch (Qak ?_))
  cases hb:bt (j+1) (argBest bt j) with
  |true=>
   simp only[QbW];refine Qaa ?_;refine Qca hS' rfl (Qaa (Qch ?_));rw[ZgM];exact Qak ⟨QbO F.plain_min_loop _,ih (j+1) _ v _ (by omega) lt (W.frame _ _ _ st' fun b hf o e=>(QaU _ _ (fun z:S=b=>nS (by rw[z];exact hf))).trans e) (by simp only[argBest,hb,QbW];exact pv) (fun b o e=>(QaU _ _ (Ne.symm (old b o e).2)).trans (kp' b o e)) (Qbr _ hS' rfl) fun v' h'' tk'' p' k''=>hR v' h'' tk'' p' k''⟩
  |false=>
   simp only[QaI,Qbv];refine Qaa (Qch ?_);rw[ZgM];exact Qak ⟨QbO F.plain_min_loop _,ih (j+1) _ vb c (by omega) lt st' (by simp only[argBest,hb,QaI,Qbv];exact pb) kp' hS' fun v' h'' tk'' p' k''=>hR v' h'' tk'' p' k''⟩
theorem Zlj (W:Walks prog w A.in1 I fp wr n P St)(bt:Nat→Nat→Bool)(h0:Heap)(S:Addr)(nS:S∉fp)(old:∀b o,h0.get? b=some o→b∉wr∧b≠S)
  (cmp:∀i j vi vj (s:Shared) (Q:Value→Shared→Prop) (E:Value→Shared→Prop),Zoa h0 s.heap→P i vi→P j vj→Q (.bool (bt i j)) s→wpAny (model prog w) A.in1 (richCompare .Lt vi vj) Q E s) (n0:0<n) {s:Shared} {c:Nat} (st:St 0 s.heap) (kp:Zoa h0 s.heap)
  (hS:s.heap.get? S=some {cls:=.type "list",dict:=none,data:=.seq #[] c,slots:=#[] }) (hR:∀v h' tk,P (argBest bt (n-1)) v→Zoa h0 h'→R (.ok (.ret v)) {s with heap:=h',toks:=tk }):
  codeAny (model prog w) A (.builtin "min.loop" ⟨[.ref I,.none,.ref S],[]⟩) R s:=by
 have wS:S∉wr:=fun h=>nS (W.sub _ h);refine QbC F.entry_min_loop ?_;rw[Qba F.plain_min_loop _];show wpAny _ A.in1 (seqItems? (.ref S)>>=_) _ _ s;refine Qaa (Qbw hS rfl ?_);show wpAny _ A.in1 (tryCatch (pyNext (.ref I)) _>>=_) _ _ s;refine Qaa (Qce (W.item 0 s _ _ n0 st fun v h' tk pv st' kk=> ?_));have hS':=kk S _ wS hS;have kp':Zoa h0 h':=fun b o e=>kk b o (old b o e).1 (kp b o e);show wpAny _ A.in1 (updateSeq S (fun _=> #[v,v])>>=_) _ _ _;refine Qaa ?_;refine Qca hS' rfl ?_;rw[ZgM];exact Qak ⟨QbO F.plain_min_loop _,Zpk W bt h0 S nS old cmp _ 0 _ v _ rfl n0 (W.frame _ _ _ st' fun b hf o e=>(QaU _ _ (fun z:S=b=>nS (by rw[z];exact hf))).trans e) pv (fun b o e=>(QaU _ _ (Ne.symm (old b o e).2)).trans (kp' b o e)) (Qbr _ hS' rfl) fun v' h'' tk'' p' k''=>hR v' h'' tk'' p' k''⟩
end
section
variable {s:Shared}
theorem Znp {items:Array Value}{bt:Nat→Nat→Bool}{Q:Value→Shared→Prop}(hh:A.handled=none)(hl:s.heap.IsList l items)(hne:0<items.size)
  (cmp:∀i j vi vj (s':Shared) (Q:Value→Shared→Prop) (E:Value→Shared→Prop),Zoa s.heap s'.heap→items[i]?=some vi→items[j]?=some vj→Q (.bool (bt i j)) s'→wpAny (model prog w) A.in1 (richCompare .Lt vi vj) Q E s')
  (h:∀v h' tk,items[argBest bt (items.size-1)]?=some v→Zoa s.heap h'→Q v {s with heap:=h',toks:=tk }):wpAny (model prog w) A (call (.builtin "min") [.ref l]) Q E s:=by
 refine call_function_tree F.kind_min F.plain_min F.entry_min (F.args_min1 _) ?_;show wpAny _ A.in1 (Builtin.Builtins.bindParams "min" ["key", "default"] 0 ⟨[],[]⟩>>=_) _ _ s;refine Qaa (QeM (show Builtin.Builtins.bindParams "min" ["key", "default"] 0 ⟨[],[]⟩=pure [none,none] from rfl) ?_);refine Qaa (Qak ?_);have ll:l<s.heap.objs.size:=by obtain⟨_,e,_⟩:=hl;exact Qan e
 refine Qaa (Qda hl ?_);refine Qaa (Qa4 ?_);rw[ZgM];have e1:(s.heap.push {cls:=.type "list_iterator",data:=.fields #[.ref l,.int 0 0] }).objs.size=s.heap.objs.size+1:=Qbk ..;refine Qak ⟨QbO F.plain_min_loop _,Zlj (QeU (A:=A.in1) hh s.heap.objs.size l (QaM ll) items) bt s.heap _ (fun hm=> ?_) (fun b o e=>⟨fun hm=> ?_,?_⟩) cmp hne ⟨⟨_,Qac _ (Qat _ rfl),rfl,rfl⟩,(hl.push _).push _⟩ (fun b o e=>Qac _ (Qac _ e)) (Qat _ rfl) fun v h' tk hP hk=>h v h' tk hP hk⟩
 ·rcases Qaw.mp hm with z|hm
  ·rw[e1] at z;exact absurd z (Nat.succ_ne_self _)
  ·rw[Qal] at hm;rw[e1] at hm;exact absurd ll (by rw[←hm];exact Nat.not_lt.mpr (Qea _))
 ·rw[Qal] at hm
  have:=Qan e;rw[hm] at this;exact Qbs _ this
 ·have:=Qan e;show b≠(s.heap.push _).objs.size;rw[e1];exact QaM (Qb0 this)
end
theorem Zkw {us:Nat→List Int}:∀k,argBest (fun i j=>Zb9 (us i) (us j)) k≤k∧∀j,j≤k→Zb9 (us j) (us (argBest (fun i j=>Zb9 (us i) (us j)) k))=false
 |0=>⟨Qai _,fun j hj=>by rw[Nat.le_zero.mp hj];exact Zdm _⟩
 |k+1=>by
  obtain⟨h1,h2⟩:=Zkw (us:=us) k;show(if Zb9 (us (k+1)) (us (argBest (fun i j=>Zb9 (us i) (us j)) k))=true then k+1 else argBest (fun i j=>Zb9 (us i) (us j)) k)≤k+1∧∀j,j≤k+1→Zb9 (us j) (us (if Zb9 (us (k+1)) (us (argBest (fun i j=>Zb9 (us i) (us j)) k))=true then k+1 else argBest (fun i j=>Zb9 (us i) (us j)) k))=false;generalize argBest (fun i j=>Zb9 (us i) (us j)) k=m at h1 h2⊢;by_cases c:Zb9 (us (k+1)) (us m)=true
  ·rw[Qp c];refine⟨Qai _,fun j hj=> ?_⟩;by_cases ej:j=k+1
   ·rw[ej];exact Zdm _
   ·have:=h2 j (by omega)
    cases z:Zb9 (us j) (us (k+1)) with
    |false=>rfl
    |true=>rw[Zd5 z c] at this;cases this
  ·rw[Qn c];refine⟨by omega,fun j hj=> ?_⟩;by_cases ej:j=k+1
   ·rw[ej];simpa using c
   ·exact h2 j (by omega)
theorem Znq {k:Nat}(hc:X.calm=true)(hr:Zdr k X.A):Zcq X (.builtin "min") (fun xs H Q=>∃(p:Addr)(ys:List V)(us:List (List Int)),xs=[.ref p]∧SqL X.K H p ys∧TuL H ys us∧us≠ []∧
  ∀(a:Addr)(u:List Int),u∈us→H a=some (.tup (u.map V.int))→(∀v∈us,Zb9 v u=false)→Q (.ref a) H):=by
 intro qa s σ H xs vs Q I r h;obtain⟨p,ys,us,rfl,hp,hL,ne,q⟩:=h;obtain⟨u,rfl,rx⟩:=Zc8 r;cases rx;obtain⟨its,rv,pl,hz⟩:=I.list hp;obtain⟨hlen,row⟩:=Zqd I rv hL.it
 have n0:0<its.length:=by
  rw[hlen]
  cases us with
  |nil=>exact absurd rfl ne
  |cons a b=>simp
 have hu:=hr.un;have gd:∀i,i<its.length→us[i]?=some (us.getD i []):=fun i hi=>by rw[Qaz,Qad (by omega)];rfl
 refine Znp (bt:=fun i j=>Zb9 (us.getD i []) (us.getD j [])) (I.ok.hd hc) pl.isList (by simpa using n0) (fun i j vi vj s' Q' E' kp hi hj q'=> ?_) fun v h' tk hv kp=> ?_
 ·have hi:its[i]?=some vi:=by simpa using hi
  have hj:its[j]?=some vj:=by simpa using hj
  have L1:=row i vi _ hi (gd i (Qab.mp hi).1);have L2:=row j vj _ hj (gd j (Qab.mp hj).1);exact ItV.lt (s:=s') (by show X.A.units+1<cLine;omega) (L1.keep fun b o _ e=>kp b o e) (L2.keep fun b o _ e=>kp b o e) q'
 ·obtain⟨b1,b2⟩:=Zkw (us:=fun i=>us.getD i []) (its.toArray.size-1);generalize argBest (fun i j=>Zb9 (us.getD i []) (us.getD j [])) (its.toArray.size-1)=m at hv b1 b2;have hv:its[m]?=some v:=by simpa using hv
  have ml:=(Qab.mp hv).1;have yl:m<ys.length:=by rw[rv.length];exact ml
  obtain⟨a,ea,ha⟩:=hL.2 m _ _ (Qad yl) (gd m ml);obtain⟨v',ev',rr⟩:=rv.get (Qad yl);rw[hv] at ev';cases ev';rw[ea] at rr;cases rr;refine⟨.ref a,H,I.kept kp,rfl,q a _ (Qav (gd m ml)) ha fun w hw=> ?_⟩;obtain⟨j,hj⟩:=QaZ.mp hw;have jl:=(Qab.mp hj).1
  have:=b2 j (by rw[Qay];omega);rw[show us.getD j []=w by rw[Qaz,hj];rfl] at this;exact this
theorem Zlk {K:FJ}{k:Nat}(hc:X.calm=true)(hr:Zdr k X.A)(hK:X.K=K:=by rfl):Zcq X (.builtin "min") (fun xs H Q=>∃(p:Addr)(ys:List V)(us:List (List Int)),xs=[.ref p]∧SqL K H p ys∧TuL H ys us∧us≠ []∧
  ∀(a:Addr)(u:List Int),u∈us→H a=some (.tup (u.map V.int))→(∀v∈us,Zb9 v u=false)→Q (.ref a) H):=by subst hK;exact Znq hc hr
section
variable {K:FJ}
def ZgN:Sp:=fun vs H Q _=>∃(pa:Addr)(ya:List V)(n:Int)(ps:List PR),vs=[.int n,.ref pa]∧H pa=some (.lst ya)∧CpL H ya (ps.map pV)∧ps.length≤60∧(∃q∈ps,q.2.1+q.2.2.1=n)∧∀(j:Nat)(p:PR)(H':Hp),Zam H H'→ps[j]?=some p→p.2.1+p.2.2.1=n→(∀q∈ps,q.2.1+q.2.2.1=n→p.2.1≤q.2.1)→Q (.int (j:Int)) H'
structure Ldr (n:Int)(ps:List PR)(j:Nat)(ld:PR):Prop where
 at':ps[j]?=some ld
 ml:mlB ld=true
 en:ld.2.1+ld.2.2.1=n
 lo:∀(k:Nat)(q:PR),ps[k]?=some q→q.2.1+q.2.2.1=n→ld.2.1≤q.2.1
def Zeb (C:Addr):Sp:=fun vs H Q _=>∃(p l:Addr)(s0:Int×List PR)(n:Int)(ps:List PR)(ds:List Dd)(j:Nat)(ld:PR),vs=[.ref p,.int (j:Int)]∧Zch C H p l s0 n ps ds∧ds.length≤25000∧Ldr n ps j ld∧∀(ps':List PR)(ds':List Dd)(H':Hp),Ex2 p l H H'→Zch C H' p l s0 n ps' ds'→ds'.length≤ds.length+120→ps'[j]?=some ld→(∀(k:Nat)(q:PR),k≠j→ps'[k]?=some q→q.2.1+q.2.2.1<n)→Q .non H'
def Zrt (K:FJ):TS:=ZbB (tOp (ZbO K) (tCB (fun xs H Q=>∃p ys us,xs=[V.ref p]∧SqL K H p ys∧TuL H ys us∧us≠ []∧∀(a:Addr)(u:List Int),u∈us→H a=some (HO.tup (List.map V.int u))→(∀(v:List Int),v∈us→Zb9 v u=false)→Q (V.ref a) H) (Zaa (ZbU 2 (ZmE K (tQ1 1)) (Jao K) (ZbE (tOp rEq JaA (Zag 2))) (Zcr (Zaa (Jax K) (tQ1 0)))) Zap)) (iQ1 1))
def Znr (K:FJ)(C:Addr):TS:=ZfJ (Zew (Zaa (tCB (Jal K) (Zaa (tOp (ZbO K) (Zhj K (Zag 0) ("hall")) (iQ1 1)) Zap)) Zap)) (Zan 2) (Zer (ZrU (ZbE (tOp rNe (Zag 2) (Zag 1))) (tB (Zau ZcM [] E0 (Zaa (tOp (Zcu K) (tOp (ZbO K) (Zhj K (Zag 0) ("hall")) (iQ1 1)) (Zag 1)) (Zaa (tOp (Zcu K) (tOp (ZbO K) (Zhj K (Zag 0) ("hall")) (iQ1 1)) (Zag 2)) (Zaa (tC (V.str "high")) Zap)))))) (ZbD (Zf3 C ("do") (Zcz C) [] E0 (Zag 0) (Zaa (Zcr (Zaa (tC (V.str "carried")) (Zaa (Zag 1) (Zaa (Zag 2) (Zaa (tC (V.str "high")) Zap))))) Zap))))
theorem Zte {h k h' k':Int}(z:Zb9 [h',k'] [h,k]=false):h≤h':=by
 have z:(if h'=h then Zb9 [k'] [k] else decide (h'<h))=false:=z;by_cases c:h'=h
 ·omega
 ·rw[Qn c] at z
  have:=Qbp z;omega
theorem Zib {ya:List V}(ha:H pa=some (.lst ya))(ca:CpL H ya (ps.map pV))(pl:ps.length≤60)(ex:∃q∈ps,q.2.1+q.2.2.1=n)(k:∀(j:Nat)(p:PR)(H':Hp),Zam H H'→ps[j]?=some p→p.2.1+p.2.2.1=n→(∀q∈ps,q.2.1+q.2.2.1=n→p.2.1≤q.2.1)→Q (.int (j:Int)) H'):
  Zrt K {nx:=Z,rt:=Q } [some (.int n),some (.ref pa)] H:=by
 have yl:ya.length=ps.length:=by rw[ca.1,Qaf]
 refine⟨_,rfl,pa,rfl,⟨_,SqL.of ha⟩,ZmU (K:=K) (a:=pa) (xs:=ya) (fun i ys H'=>Zam H H'∧∃us:List (List Int),TuL H' ys us∧us.length≤i∧(∀u∈us,∃(k:Nat)(p:PR),ps[k]?=some p∧p.2.1+p.2.2.1=n∧u=[p.2.1,(k:Int)])∧∀(k:Nat)(p:PR),k<i→ps[k]?=some p→p.2.1+p.2.2.1=n→[p.2.1,(k:Int)]∈us) ⟨Zam.refl _,[],⟨rfl,fun i x u h=>by cases h⟩,Qai _,(fun u h=>by cases h),fun k p h=>by omega⟩ (by omega) (fun i ys H' h=>by obtain⟨_,us,t,l,_⟩:=h;rw[t.1];exact l) (fun i ys H' _ h=>SqL.of (h.1 _ _ ha)) ?_ ?_⟩
 ·rintro i x ys H1 pre pp qc hx ⟨s1,us,tu,ul,c1,c2⟩ hpp;obtain⟨q,p,ep,rfl,hq⟩:=ca.at' hx;have s2:=Zam.nw (o:=.tup [.int (i:Int),.ref q]) s1 hpp;have t2:=Zam.nw (o:=.tup [.int (i:Int),.ref q]) (Zam.refl H1) hpp;have f2:(upd H1 pp (.tup [.int (i:Int),.ref q])) pp=some (.tup [.int (i:Int),.ref q]):=Zad;change Zcp K 2 _ _ _ (upd H1 pp (.tup [.int (i:Int),.ref q])) _;generalize upd H1 pp (.tup [.int (i:Int),.ref q])=H2 at s2 t2 f2⊢;rcases pre with _|⟨q0,_|⟨q1,_|⟨q2,pre⟩⟩⟩
  ·cases qc
  ·cases qc
  ·refine⟨pp,_,rfl,SqT.of f2,rfl,_,_,rfl,_,_,rfl,rfl,⟨[some _,some _],rfl,rfl⟩,_,rfl,q,p,rfl,s2 _ _ hq,_,rfl,rfl,_,rfl,?_⟩
   have up:∀(k:Nat)(r:PR),k<i+1→ps[k]?=some r→r.2.1+r.2.2.1=n→k<i∨(k=i∧r=p):=fun k r hk er _=>by
    by_cases z:k=i
    ·rw[z,ep] at er;cases er;exact .inr ⟨z,rfl⟩
    ·exact .inl (by omega)
   by_cases c:p.2.1+p.2.2.1=n
   ·rw[Qam (congrArg V.int c)];refine Zcl ⟨_,rfl,q,_,_,_,rfl,rfl,SqT.of (s2 _ _ hq),rfl,_,rfl,zL2,fun t ht=>⟨Zam.nw s2 ht,us++ [[p.2.1,(i:Int)]],?_,?_,fun u hu=> ?_,fun k r hk er en=> ?_⟩⟩
    ·exact(tu.up (t2.trans (Zam.nw (Zam.refl H2) ht)).tups).snoc (u:=[p.2.1,(i:Int)]) Zad
    ·rw[Qae];exact Qeq ul
    ·rcases Qap.mp hu with hu|hu
     ·exact c1 u hu
     ·exact⟨i,p,ep,c,Qal.mp hu⟩
    ·rcases up k r hk er en with z|⟨rfl,rfl⟩
     ·exact QaY _ (c2 k r z er en)
     ·exact QaA _ Qah
   ·rw[QaC (fun z=>c (V.int.inj z))];refine Zcd ⟨s2,us,tu.up t2.tups,Qd6 ul,c1,fun k r hk er en=> ?_⟩;rcases up k r hk er en with z|⟨rfl,rfl⟩
    ·exact c2 k r z er en
    ·exact absurd en c
  ·cases qc
 ·rintro ys H1 ⟨s1,us,tu,ul,c1,c2⟩ D hD;have s2:=Zam.nw (o:=.lst ys) s1 hD;refine⟨D,ys,us,rfl,SqL.of Zad,tu.up (Zam.nw (Zam.refl H1) hD).tups,?_,fun a u hu ha' least=> ?_⟩
  ·obtain⟨q,hq,en⟩:=ex;obtain⟨j,hj⟩:=QaZ.mp hq;intro z
   have:=c2 j q (by rw[yl];exact Zdt hj) hj en;rw[z] at this;cases this
  ·obtain⟨j,p,ej,en,rfl⟩:=c1 u hu;refine⟨a,_,_,_,rfl,rfl,SqT.of ha',rfl,k j p _ s2 ej en fun q hq eq=> ?_⟩;obtain⟨i,hi⟩:=QaZ.mp hq;exact Zte (least _ (c2 i q (by rw[yl];exact Zdt hi) hi eq))
def cB (h:Int)(q:PR):Nat:=(if h≤q.1 then 1 else 0)+(if h≤q.2.1 then 1 else 0)
theorem Zul {q:PR}(h:mcB ld q s=true)(lg:1≤q.2.2.1):goP ld q s<ld.2.1:=by
 obtain⟨ml,b0,b1⟩:=Zdo h;obtain⟨m1,m2⟩:=Zcn ml;unfold goP;cases ht:ld.2.2.2
 ·rw[Qn (by decide)];have r1:=QaQ (bgP q s-ld.1) (show 0<ld.2.1-ld.1 by omega);omega
 ·rw[Qp rfl];have:=m2 ht;omega
theorem Zum {q:PR}(h:mcB ld q "high" =true)(lg:1≤q.2.2.1):cB ld.2.1 (caP ld q "high")+1=cB ld.2.1 q:=by
 obtain⟨ml,b0,b1⟩:=Zdo h;have g:=Zul h lg;have eb:bgP q "high" =q.2.1:=Qn (by decide);have eo:otP q "high" =q.1:=Qn (by decide);unfold cB caP prP;rw[eb] at b0;rw[eo];dsimp only;generalize goP ld q "high" =gg at*;by_cases c:q.1<gg
 ·rw[Qp c,Qn (by omega:¬q.1>gg)]
  repeat' split
  all_goals omega
 ·rw[Qn c]
  repeat' split
  all_goals omega
theorem Ztf {q:PR}(h:mcB ld q "high" =true)(ok:ZdH n q)(en:(caP ld q "high").2.1+(caP ld q "high").2.2.1=n):ld.2.1≤(caP ld q "high").2.1:=by
 obtain⟨ml,b0,b1⟩:=Zdo h;obtain⟨a,b,c,d⟩:=ok;have eb:bgP q "high" =q.2.1:=Qn (by decide);rw[eb] at b0
 have:(caP ld q "high").2.2.1=q.2.2.1:=rfl;omega
end
section
variable {R:Result→Shared→Prop}{n:Nat}{St:Nat→Heap→Prop}{d:Value}
abbrev Zun (h0 h:Heap):Prop:=∀b o,h0.get? b=some o→h.get? b=some o
theorem ZgO:(toString "max" ++toString ".loop" :String)= "max.loop" :=by decide
theorem Zns (W:Walks prog w A.in1 I fp wr n P St)(bt:Nat→Nat→Bool)(cmp:CmpOf prog w A.in1 .Gt P bt)(S:Addr)(nS:S∉fp):
  ∀(m j:Nat)(s:Shared)(vb:Value)(c:Nat),n-(j+1)=m→j+1≤n→St (j+1) s.heap→P (argBest bt j) vb→s.heap.get? S=some {cls:=.type "list",dict:=none,data:=.seq #[vb,vb] c,slots:=#[] }→
  (∀v h' tk,P (argBest bt (n-1)) v→(∀b o,b∉wr→b≠S→s.heap.get? b=some o→h'.get? b=some o)→R (.ok (.ret v)) {s with heap:=h',toks:=tk })→codeAny (model prog w) A (.builtin "max.loop" ⟨[.ref I,.none,.ref S],[("default",d)]⟩) R s:=by
 have wS:S∉wr:=fun h=>nS (W.sub _ h);intro m
 induction m with
 |zero=>
  intro j s vb c hm hj st pb hS hR;have ej:j+1=n:=by omega
  refine QbC F.entry_max_loop ?_;rw[Qba F.plain_max_loop _];show wpAny _ A.in1 (seqItems? (.ref S)>>=_) _ _ s;refine Qaa (Qbw hS rfl ?_);show wpAny _ A.in1 (tryCatch (pyNext (.ref I)) _>>=_) _ _ s;refine Qaa (Qce (W.done s _ _ (ej ▸ st) fun h' tk kk=> ?_));have hS':=kk S _ wS hS;show wpAny _ A.in1 (updateSeq S (fun _=> #[])>>=_) _ _ _;refine Qaa ?_;refine Qca hS' rfl (Qaa (Qch (Qak ?_)));exact hR vb _ tk (by rw[←ej];exact pb) fun b o nb nb2 e=>(QaU _ _ (Ne.symm nb2)).trans (kk b o nb e)
 |succ m ih=>
  intro j s vb c hm hj st pb hS hR;have lt:j+1<n:=by omega
  refine QbC F.entry_max_loop ?_;rw[Qba F.plain_max_loop _];show wpAny _ A.in1 (seqItems? (.ref S)>>=_) _ _ s;refine Qaa (Qbw hS rfl ?_);show wpAny _ A.in1 (tryCatch (pyNext (.ref I)) _>>=_) _ _ s;refine Qaa (Qce (W.item (j+1) s _ _ lt st fun v h' tk pv st' kk=> ?_));have hS':=kk S _ wS hS;show wpAny _ A.in1 (tryCatch (holding [v,v] (richCompare .Gt v vb>>=_)) _>>=_) _ _ _;refine Qaa (Qce (Qbz (Qaa (cmp (j+1) (argBest bt j) v vb _ _ _ pv pb ?_))));refine Qaa (Qbz (Qbg ?_));refine Qaa (Qch (Qak ?_))
  cases hb:bt (j+1) (argBest bt j) with
  |true=>
   simp only[QbW];refine Qaa ?_;refine Qca hS' rfl (Qaa (Qch ?_));rw[ZgO];exact Qak ⟨QbO F.plain_max_loop _,ih (j+1) _ v _ (by omega) lt (W.frame _ _ _ st' fun b hf o e=>(QaU _ _ (fun z:S=b=>nS (by rw[z];exact hf))).trans e) (by simp only[argBest,hb,QbW];exact pv) (Qbr _ hS' rfl) fun v' h'' tk'' p' k''=>hR v' h'' tk'' p' fun b o nb nb2 e=>k'' b o nb nb2 ((QaU _ _ (Ne.symm nb2)).trans (kk b o nb e))⟩
  |false=>
   simp only[QaI,Qbv];refine Qaa (Qch ?_);rw[ZgO];exact Qak ⟨QbO F.plain_max_loop _,ih (j+1) _ vb c (by omega) lt st' (by simp only[argBest,hb,QaI,Qbv];exact pb) hS' fun v' h'' tk'' p' k''=>hR v' h'' tk'' p' fun b o nb nb2 e=>k'' b o nb nb2 (kk b o nb e)⟩
theorem Zjq (W:Walks prog w A.in1 I fp wr n P St)(bt:Nat→Nat→Bool)(cmp:CmpOf prog w A.in1 .Gt P bt)(S:Addr)(nS:S∉fp){s:Shared}{c:Nat}(st:St 0 s.heap)
  (hS:s.heap.get? S=some {cls:=.type "list",dict:=none,data:=.seq #[] c,slots:=#[] })
  (hR:∀v h' tk,(n=0∧v=d∨0<n∧P (argBest bt (n-1)) v)→(∀b o,b∉wr→b≠S→s.heap.get? b=some o→h'.get? b=some o)→R (.ok (.ret v)) {s with heap:=h',toks:=tk }):
  codeAny (model prog w) A (.builtin "max.loop" ⟨[.ref I,.none,.ref S],[("default",d)]⟩) R s:=by
 have wS:S∉wr:=fun h=>nS (W.sub _ h);refine QbC F.entry_max_loop ?_;rw[Qba F.plain_max_loop _];show wpAny _ A.in1 (seqItems? (.ref S)>>=_) _ _ s;refine Qaa (Qbw hS rfl ?_);show wpAny _ A.in1 (tryCatch (pyNext (.ref I)) _>>=_) _ _ s;by_cases n0:0<n
 ·refine Qaa (Qce (W.item 0 s _ _ n0 st fun v h' tk pv st' kk=> ?_));have hS':=kk S _ wS hS;show wpAny _ A.in1 (updateSeq S (fun _=> #[v,v])>>=_) _ _ _;refine Qaa ?_;refine Qca hS' rfl ?_;rw[ZgO];exact Qak ⟨QbO F.plain_max_loop _,Zns W bt cmp S nS _ 0 _ v _ rfl n0 (W.frame _ _ _ st' fun b hf o e=>(QaU _ _ (fun z:S=b=>nS (by rw[z];exact hf))).trans e) pv (Qbr _ hS' rfl) fun v' h'' tk'' p' k''=>hR v' h'' tk'' (.inr ⟨n0,p'⟩) fun b o nb nb2 e=>k'' b o nb nb2 ((QaU _ _ (Ne.symm nb2)).trans (kk b o nb e))⟩
 ·have e0:n=0:=by omega
  refine Qaa (Qce (W.done s _ _ (e0 ▸ st) fun h' tk kk=> ?_));show wpAny _ A.in1 (rule _>>=_) _ _ _;exact Qaa (Qc8 (Qak (hR d h' tk (.inl ⟨e0,rfl⟩) fun b o nb nb2 e=>kk b o nb e)))
end
theorem Zll {s:Shared}{id:String}{b:Builtin}{as:List Value}{kw:List (Str×Value)}{Q:Value→Shared→Prop}(k0:builtinKind id=none)(p0:plainId id=true)(b0:entryFor table id=some b)(a0:argsOk id ⟨as,kw⟩)
  (hc:wpAny (model prog w) A.in1 (b ⟨as,kw⟩) (fun fin s'=>match fin with
   | .done f=>(match(Except.ok f:Result) with| .ok (.ret v)=>Q v s'| .ok _=>False| .error e=>E e s')
   | .again c=>c.quiet=true∧codeAny (model prog w) A c (fun r s'=>match r with| .ok (.ret v)=>Q v s'| .ok _=>False| .error e=>E e s') s') E s):wpAny (model prog w) A (call (.builtin id) as kw) Q E s:=by
 refine wpAny_call (codeAny_call_builtin p0 b0 ?_);simp only[checkBuiltinCall,k0]
 cases g:Manifest.signature? id with
 |none=>exact Qak hc
 |some sg=>
  have a1:Bind.checkArgs id sg ⟨as,kw⟩=pure ():=by simpa only[argsOk,g] using a0
  simp only[a1];exact Qak hc
theorem Znt (a d:Value):argsOk "max" ⟨[a],[("default",d)]⟩:=by unfold argsOk;kernel_rfl
section
variable {te:TE}{e dv:Expr}{p pos kpos:PySem.Pos}
def Ztg (K:FJ)(te td:TE):TE:=fun σ H Q=>te σ H fun x H1=>td σ H1 fun y H2=>∃(q:Addr)(ns:List Int),x= .ref q∧SqL K H2 q (ns.map V.int)∧(ns=[]→Q y H2)∧∀m∈ns,(∀n∈ns,n≤m)→Q (.int m) H2
theorem Zru (hc:X.calm=true)(hg:Gl X "max")(hm:X.mg "max" =none)(ha:PA X [e] (Zaa te Zap))(hd:PE X dv td)(hs:backTo pos (starEach [e] X.env)=(false,eval e X.env)::backTo pos (starEach [] X.env):=by rfl)(hp:(backTo pos (starEach [e] X.env)).any (·.1)=false:=by rfl):PE X (.Call (.Name "max" p) [e] [⟨some "default",dv,kpos⟩] pos) (Ztg X.K te td):=by
 intro qa s σ H Q I h;refine QbI (Zep I hg hm Qc5 ?_ (by decide) (by decide))
 refine callWith_kw (thn (ha pos qa s σ H (fun vs H1=>match vs with
  | [x]=>td σ H1 fun y H2=>∃(q:Addr)(ns:List Int),x= .ref q∧SqL X.K H2 q (ns.map V.int)∧(ns=[]→Q y H2)∧∀m∈ns,(∀n∈ns,n≤m)→Q (.int m) H2
  |_=>False) I h) fun us s1 ⟨vs,H1,I1,r1,q1⟩=> ?_) hs hp
 match vs,q1 with
 | [x],q1=>
  refine kws_cons (thn (hd qa s1 σ H1 _ I1 q1) fun u2 s2 ⟨y,H2,I2,r2,q,ns,ex,hq,k1,k2⟩=>kws_nil ?_);subst ex;obtain⟨u,rfl,ru⟩:=Zc8 r1;cases ru;obtain⟨its,rv,pl,hz⟩:=I2.list hq;obtain⟨ps,rfl,e⟩:=Ze5 rv;have hl:=pl.isList;have ei:(ps.map (fun p=>Value.int p.1 p.2)).toArray=intItems ps.toArray:=by simp[intItems]
  rw[ei] at hl
  have at1:∀j,j<ps.length→ns[j]?=some (numAt ps.toArray j):=fun j hj=>by
   rw[←e,Qao,Qad hj];simp[numAt,hj]
  show wpAny (model X.prog X.w) X.A (call (.builtin "max") [.ref q] [("default",u2)]) _ _ s2;refine Zll F.kind_max F.plain_max F.entry_max (Znt _ _) ?_;show wpAny _ X.A.in1 (Builtin.Builtins.bindParams "max" ["key", "default"] 0 ⟨[],[("default",u2)]⟩>>=_) _ _ s2;refine Qaa (QeM (show Builtin.Builtins.bindParams "max" ["key", "default"] 0 ⟨[],[("default",u2)]⟩=pure [none,some u2] from rfl) ?_);refine Qaa (Qak ?_);refine Qaa (iter_intList hl fun s₂ es st hfp hlI=> ?_);subst es;refine Qaa (Qa4 ?_);rw[ZgO];have nS:_∉ [_,q]:=fun hm=>Qbs _ (hfp _ hm);have W:=QeU (prog:=X.prog) (w:=X.w) (A:=X.A.in1) (I2.ok.hd hc) _ q hlI (intItems ps.toArray);refine Qak ⟨QbO F.plain_max_loop _,Zjq W _ (CmpOf.ints_gt (numAt ps.toArray) (fun _ _=>intItems_at)) _ nS (W.frame _ _ _ st fun b _ o e=>Qac _ e) (Qat _ rfl) fun v h' tk hP hk=> ?_⟩
  have kp:Zun s2.heap h':=fun b o eb=>by
   have lb:=Qan eb;refine hk b o (fun hm=> ?_) (fun z=> ?_) (Qac _ (Qac _ eb))
   ·rw[Qal] at hm;rw[hm] at lb;exact Qbs _ lb
   ·have:b=(s2.heap.push {cls:=.type "list_iterator",data:=.fields #[.ref q,.int 0 0] }).objs.size:=z;rw[Qbk] at this;rw[this] at lb;exact absurd lb (Nat.not_lt.mpr (Qea _))
  have sz:(intItems ps.toArray).size=ps.length:=by simp[intItems]
  rcases hP with⟨h0,rfl⟩|⟨h0,hP⟩
  ·have:ps=[]:=Qdq (by omega);subst this;exact⟨y,H2,I2.kept kp,r2,k1 e.symm⟩
  ·obtain⟨t,rfl⟩:=intItems_at hP;obtain⟨b1,b2⟩:=argBest_gt (numAt ps.toArray) (ps.length-1);rw[sz] at h0 hP⊢;generalize argBest (fun i' j'=>decide (numAt ps.toArray i'>numAt ps.toArray j')) (ps.length-1)=k at b1 b2⊢;refine⟨.int _,H2,I2.kept kp,⟨t,rfl⟩,k2 _ (Qav (at1 k (by omega))) fun n hn=> ?_⟩;obtain⟨j,hj⟩:=QaZ.mp hn
   have jl:j<ps.length:=by
    have:=(Qab.mp hj).1;rw[←e,Qaf] at this;exact this
   rw[at1 j jl] at hj;cases hj;exact b2 j (by omega)
end
section
variable {K:FJ}
def Zd0 (C:Addr):Sp:=fun vs H Q _=>∃(p l:Addr)(s0:Int×List PR)(n:Int)(ps:List PR)(ds:List Dd),vs=[.ref p]∧Zch C H p l s0 n ps ds∧ds.length≤25000∧(∀q∈ps,mlB q=true)∧(∃q∈ps,q.2.1+q.2.2.1=n)∧∀(n':Int)(ps':List PR)(ds':List Dd)(H':Hp),Ex2 p l H H'→Zch C H' p l s0 n' ps' ds'→n'<n→ds'.length≤ds.length+121→Q .non H'
def ZgP (C:Addr):Sp:=fun vs H Q _=>∃(p l:Addr)(s0:Int×List PR)(n:Int)(ps:List PR)(ds:List Dd),vs=[.ref p]∧Zch C H p l s0 n ps ds∧ds.length≤24000∧0<n∧∀(n':Int)(ps':List PR)(ds':List Dd)(H':Hp),Ex2 p l H H'→Zch C H' p l s0 n' ps' ds'→n'<n→ds'.length≤ds.length+301→Q .non H'
def Zpl (K:FJ)(C:Addr):TS:=ZaL (ZaW (Zhj K (Zag 0) ("hall")) (Zcp K 3 (ZaC (Zan 1) Jaq))) (sQ1 (Zau ZgN [] E0 (Zaa (Zag 1) (tQ1 2))) 4 (ZaL (ZbD (Zau (Zeb C) [] E0 (Zaa (Zag 0) (tQ1 4)))) (sQ1 (tOp (ZbO K) (Zhj K (Zag 0) ("hall")) (iQ1 1)) 2 (sQ1 (ZbU 2 (ZmE K (tQ1 2)) (Jao K) (ZbE (tOp rNe (Zag 0) (Zag 6))) JaA) 5 (ZbD (Zf3 C ("do") (Zcz C) [] E0 (Zag 0) (Zaa (Zcr (Zaa (tC (V.str "cut")) (Zaa (Zag 4) (Zaa (tCB (fun xs H_1 Q=>∃p ns,xs=[V.ref p]∧SqL K H_1 p (List.map V.int ns)∧ns≠ []∧∀(m:Int),m∈ns→(∀(n:Int),n∈ns→n≤m)→Q (V.int m) H_1) (Zaa (tOp Zsh (Zc0 (Zaa (tOp (ZbO K) (tOp (Zcu K) (Zag 2) (Zag 4)) (iQ1 1)) Zap)) (Zag 5)) Zap)) Zap)))) Zap)))))))
def Zrv (K:FJ)(C:Addr):TS:=ZaL (ZbD (Zau (Zfg C) [] E0 (tQ1 0))) (ZaL (ZbD (Zau (Zfh C) [] E0 (tQ1 0))) (ZaL (ZaW (Zhj K (Zag 0) ("hall")) (Zcp K 3 (ZaC (Zan 1) Jaq))) (sQ1 (Ztg K (ZbU 1 (Zc7 K (Zag 2)) (Zan 0) Zes Jau) (iQ1 0)) 4 (Zeq (ZbE (tOp Jai (Zag 4) (Zag 1))) (ZbD (Zf3 C ("do") (Zcz C) [] E0 (Zag 0) (Zaa (Zcr (Zaa (tC (V.str "free")) (tQ1 4))) Zap))) (ZbD (Zau (Zd0 C) [] E0 (tQ1 0)))))))
structure CaI (C:Addr)(H:Hp)(p l:Addr)(s0:Int×List PR)(n:Int)(ps:List PR)(ds:List Dd)(j:Nat)(ld:PR)(k:Nat)(H':Hp)(ps1:List PR)(ds1:List Dd):Prop where
 x:Ex2 p l H H'
 e:Zch C H' p l s0 n ps1 ds1
 ln:ps1.length=ps.length
 ldr:Ldr n ps1 j ld
 low:∀(i:Nat)(q:PR),i<k→i≠j→ps1[i]?=some q→q.2.1+q.2.2.1<n
theorem Zth {α:Type}{ps:List α}{c:α}{k:Nat}(h:k<ps.length)(i:Nat):(ps.take k++ [c]++ps.drop (k+1))[i]?=if i=k then some c else ps[i]?:=by
 by_cases z:i<k
 ·rw[Qn (by omega),Znn (QbH h) z]
 ·by_cases e:i=k
  ·subst e;rw[Qp rfl,Qa7,Qaq (by rw[Qax];omega),Qax,show i-min i ps.length=0 by omega];rfl
  ·rw[Qn e,Qaq (by rw[Qae,Qax,QaJ];omega),Qcs,Qae,Qax,QaJ];congr 1;omega
section
variable (cl:Cls K C)(nH:Zcc K C "hall")
include cl nH
theorem ZfG {p:Addr}{ds:List Dd}(h:Zch C H p l s0 n ps ds)(ln:ds.length≤25000)(hl:Ldr n ps j ld)(kk:∀(ps':List PR)(ds':List Dd)(H':Hp),Ex2 p l H H'→Zch C H' p l s0 n ps' ds'→ds'.length≤ds.length+120→ps'[j]?=some ld→(∀(k:Nat)(q:PR),k≠j→ps'[k]?=some q→q.2.1+q.2.2.1<n)→Q .non H'):
  Znr K C {nx:=fun _ H'=>Q .non H',rt:=Q } [some (.ref p),some (.int (j:Int)),none] H:=by
 obtain⟨dx,a,pa,pb,L,ya,yb,E⟩:=h.parts;have pl:=h.prs.2.1;have jl:=Zdt hl.at';refine Zjp cl nH rfl E ⟨pa,ya,rfl,.inl (SqL.of E.hall.ha),(ya.length:Int),rfl,by omega,by rw[E.hall.len];omega,?_⟩;rw[E.hall.len];refine Zci (n:=ps.length) (fun k σ H'=>∃(x2:Option V)(ps1:List PR)(ds1:List Dd),σ=[some (.ref p),some (.int (j:Int)),x2]∧CaI C H p l s0 n ps ds j ld k H' ps1 ds1∧ds1.length≤ds.length+2*k) ⟨_,ps,ds,rfl,⟨Ex2.refl _ _ _,h,rfl,hl,fun i q hi=>by omega⟩,by omega⟩ ?_ ?_
 ·rintro k σ H1 hk ⟨x2,ps1,ds1,rfl,I,l1⟩;rw[QbS];have pl1:=I.ln;refine⟨fun m σ H'=>∃(ps1:List PR)(ds1:List Dd),σ=[some (.ref p),some (.int (j:Int)),some (.int (k:Int))]∧CaI C H p l s0 n ps ds j ld k H' ps1 ds1∧m=cB ld.2.1 (pAt ps1 k)∧ds1.length+m≤ds.length+2*k+2,⟨_,ps1,ds1,rfl,I,rfl,?_⟩,?_⟩
  ·have:cB ld.2.1 (pAt ps1 k)≤2:=by unfold cB;split<;>split<;>omega
   omega
  ·rintro m σ H2 ⟨ps2,ds2,rfl,I2,rfl,l2⟩;refine⟨_,rfl,_,rfl,rfl,_,rfl,?_⟩;rw[Zh2];have kl2:k<ps2.length:=by rw[I2.ln];exact hk
   obtain⟨q,eq⟩:∃q,ps2[k]?=some q:=⟨_,Qad kl2⟩;have pe:pAt ps2 k=q:=Zbj eq;by_cases ne:k=j
   ·rw[QaC (fun z=>z ne)];refine Zcd ⟨_,ps2,ds2,rfl,⟨I2.x,I2.e,I2.ln,I2.ldr,fun i r hi nj er=> ?_⟩,by omega⟩;exact I2.low i r (by omega) nj er
   ·rw[Qam ne];obtain⟨dx,a,pa,pb,L,ya,yb,E2⟩:=I2.e.parts;obtain⟨pk,_,_,_⟩:=I2.e.prs;obtain⟨q1,y1,f1⟩:=E2.hall.at I2.ldr.at';obtain⟨q2,y2,f2⟩:=E2.hall.at eq;have okq:=pk q (ZaU eq);refine Zcl (Zjp cl nH rfl E2 ⟨_,rfl,pa,_,_,_,rfl,rfl,SqL.of E2.hall.ha,ZaK y1,Zjp cl nH rfl E2 ⟨_,rfl,pa,_,_,_,rfl,rfl,SqL.of E2.hall.ha,ZaK y2,q1,q2,ld,q, "high",rfl,f1,f2,.inr rfl,_,rfl,?_⟩⟩)
    cases hm:mcB ld q "high" with
    |true=>
     refine Zcl ⟨fun σ' H'=>∃m',m'<cB ld.2.1 (pAt ps2 k)∧∃(ps1:List PR)(ds1:List Dd),σ'=[some (.ref p),some (.int (j:Int)),some (.int (k:Int))]∧CaI C H p l s0 n ps ds j ld k H' ps1 ds1∧m'=cB ld.2.1 (pAt ps1 k)∧ds1.length+m'≤ds.length+2*k+2,fun σ' H' z=>z,?_⟩;refine⟨_,rfl,p,dx,_,rfl,E2.ob,Zea a l,_,rfl,_,rfl,zL4,fun r hr=>Zlh (d:=.carried j k "high") I2.e hr ⟨ld,q,I2.ldr.at',eq,fun z=>ne z.symm,.inr rfl,hm⟩ (by omega) fun H' x' e'=> ?_⟩;have e':Zch C H' p l s0 n (ps2.take k++ [caP (pAt ps2 j) (pAt ps2 k) "high"]++ps2.drop (k+1)) (ds2++ [.carried j k "high"]):=e';rw[Zbj I2.ldr.at',pe] at e';have cc:=Zum hm okq.2.2.1;have at2:=Zth (c:=caP ld q "high") kl2;have pn:pAt (ps2.take k++ [caP ld q "high"]++ps2.drop (k+1)) k=caP ld q "high" :=Zbj (by rw[at2,Qp rfl]);refine⟨_,?_,_,_,rfl,⟨I2.x.trans x',e',?_,⟨?_,I2.ldr.ml,I2.ldr.en,fun i r er en=> ?_⟩,fun i r hi nj er=> ?_⟩,rfl,?_⟩
     ·rw[pn,pe];omega
     ·rw[Qae,Qae,Qax,Qbd,QaJ,←I2.ln];omega
     ·rw[at2,Qn (fun z=>ne z.symm)];exact I2.ldr.at'
     ·rw[at2] at er;by_cases z:i=k
      ·rw[Qp z] at er;cases er;exact Ztf hm okq en
      ·rw[Qn z] at er;exact I2.ldr.lo i r er en
     ·rw[at2,Qn (by omega)] at er;exact I2.low i r hi nj er
     ·rw[pn,Qae,QaJ];rw[pe] at l2;omega
    |false=>
     refine Zcd ⟨_,ps2,ds2,rfl,⟨I2.x,I2.e,I2.ln,I2.ldr,fun i r hi nj er=> ?_⟩,by omega⟩;by_cases z:i=k
     ·rw[z,eq] at er;cases er;obtain⟨_,_,_,d⟩:=okq;by_cases en:q.2.1+q.2.2.1=n
      ·have lo:=I2.ldr.lo k q eq en;unfold mcB at hm;have eb:bgP q "high" =q.2.1:=Qn (by decide)
       have:=I2.ldr.en;rw[I2.ldr.ml,eb,Qam lo,Qam (by omega)] at hm;cases hm
      ·omega
     ·exact I2.low i r (by omega) nj er
 ·rintro σ H1 ⟨x2,ps1,ds1,rfl,I,l1⟩;exact kk ps1 ds1 H1 I.x I.e (by omega) I.ldr.at' fun k q nk eq=>I.low k q (by rw[←I.ln];exact Zdt eq) nk eq
theorem ZgQ {p:Addr}{ds:List Dd}(h:Zch C H p l s0 n ps ds)(ln:ds.length≤25000)(ml:∀q∈ps,mlB q=true)(ex:∃q∈ps,q.2.1+q.2.2.1=n)(kk:∀(n':Int)(ps':List PR)(ds':List Dd)(H':Hp),Ex2 p l H H'→Zch C H' p l s0 n' ps' ds'→n'<n→ds'.length≤ds.length+121→Q .non H'):
  Zpl K C {nx:=fun _ H'=>Q .non H',rt:=Q } [some (.ref p),none,none,none,none,none] H:=by
 obtain⟨dx,a,pa,pb,L,ya,yb,E⟩:=h.parts;have pl:=h.prs.2.1;refine⟨_,rfl,p,C,dx,_,_,rfl,E.ob,cl,nH,Zh9 a l,a,_,rfl,SqT.of E.hall.h,rfl,_,_,rfl,_,_,rfl,_,_,rfl,rfl,?_⟩;refine⟨_,rfl,_,rfl,pa,ya,n,ps,rfl,E.hall.ha,E.hall.ca,pl,ex,fun j ld H1 s1 ej en lo=> ?_⟩;have ldr:Ldr n ps j ld:=⟨ej,ml ld (ZaU ej),en,fun k q e z=>lo q (ZaU e) z⟩;refine⟨_,rfl,_,rfl,p,l,s0,n,ps,ds,j,ld,rfl,h.up s1,ln,ldr,fun ps1 ds1 H2 x2 e2 l2 ej1 low=> ?_⟩;obtain⟨dx,a,pa,pb,L,ya,yb,E2⟩:=e2.parts;obtain⟨pk,pl1,_,n0⟩:=e2.prs;have x02:=(Ex2.of s1).trans x2;refine Zjp cl nH rfl E2 ?_;refine⟨_,rfl,pa,rfl,⟨_,SqL.of E2.hall.ha⟩,ZmU (K:=K) (a:=pa) (xs:=ya) (fun i ys H'=>Zam H2 H'∧∃es:List Int,ys=es.map V.int∧es.length≤i∧(∀e∈es,∃(k:Nat)(q:PR),k≠j∧ps1[k]?=some q∧e=q.2.1+q.2.2.1)∧∀(k:Nat)(q:PR),k<i→k≠j→ps1[k]?=some q→q.2.1+q.2.2.1∈es) ⟨Zam.refl _,[],rfl,Qai _,(fun e h=>by cases h),fun k q h=>by omega⟩ (by rw[E2.hall.len];omega) (fun i ys H' h=>by obtain⟨_,es,rfl,l,_⟩:=h;rw[Qaf];exact l) (fun i ys H' _ h=>SqL.of (h.1 _ _ E2.hall.ha)) ?_ ?_⟩
 ·rintro i x ys H3 pre pp qc hx ⟨s3,es,rfl,el,c1,c2⟩ hpp;obtain⟨q,r,ep,rfl,hq⟩:=E2.hall.ca.at' hx;have s4:=Zam.nw (o:=.tup [.int (i:Int),.ref q]) s3 hpp;have f4:(upd H3 pp (.tup [.int (i:Int),.ref q])) pp=some (.tup [.int (i:Int),.ref q]):=Zad;change Zcp K 2 _ _ _ (upd H3 pp (.tup [.int (i:Int),.ref q])) _;generalize upd H3 pp (.tup [.int (i:Int),.ref q])=H4 at s4 f4⊢;rcases pre with _|⟨q0,_|⟨q1,_|⟨q2,pre⟩⟩⟩
  ·cases qc
  ·cases qc
  ·refine⟨pp,_,rfl,SqT.of f4,rfl,_,_,rfl,_,_,rfl,rfl,⟨[some _,some _],rfl,rfl⟩,_,rfl,_,rfl,rfl,_,rfl,?_⟩;rw[Zh2];by_cases z:i=j
   ·rw[QaC (fun y=>y z)];exact Zcd ⟨s4,es,rfl,Qd6 el,c1,fun k r' hk nk er=>c2 k r' (by omega) nk er⟩
   ·rw[Qam z];refine Zcl ⟨_,rfl,q,r,rfl,s4 _ _ hq,s4,es++ [r.2.1+r.2.2.1],by rw[Qau];rfl,by rw[Qae];exact Qeq el,fun e he=> ?_,fun k r' hk nk er=> ?_⟩
    ·rcases Qap.mp he with he|he
     ·exact c1 e he
     ·exact⟨i,r,z,ep,Qal.mp he⟩
    ·by_cases y:k=i
     ·rw[y,ep] at er;cases er;exact QaA _ Qah
     ·exact QaY _ (c2 k r' (by omega) nk er)
  ·cases qc
 ·rintro ys H3 ⟨s3,es,rfl,el,c1,c2⟩ D hD;have s4:=Zam.nw (o:=.lst (es.map V.int)) s3 hD;have fD:(upd H3 D (.lst (es.map V.int))) D=some (.lst (es.map V.int)):=Zad;generalize upd H3 D (.lst (es.map V.int))=H4 at s4 fD⊢;obtain⟨q1,y1,f1⟩:=E2.hall.at ej1;have E4:=e2.up s4;refine⟨_,rfl,p,dx,_,rfl,s4 _ _ E2.ob,Zea a l,_,rfl,_,rfl,_,rfl,pa,_,_,_,rfl,rfl,SqL.of (s4 _ _ E2.hall.ha),ZaK y1,q1,_,_,_,rfl,rfl,SqT.of (s4 _ _ f1),rfl,zL1,fun c hc=> ?_⟩;have s5:=Zam.nw (o:=.lst [.int ld.2.1]) (Zam.refl H4) hc;have f5:(upd H4 c (.lst [.int ld.2.1])) c=some (.lst [.int ld.2.1]):=Zad;have D5:=s5 _ _ fD;refine⟨_,rfl,c,D,_,_,rfl,rfl,f5,D5,QbH (ZgJ (by rw[Qaf,QaJ];have:=E2.hall.len;omega)),fun c3 hc3=> ?_⟩;generalize upd H4 c (.lst [.int ld.2.1])=H5 at s5 f5 D5 hc3⊢;have s6:=Zam.nw (o:=.lst ([.int ld.2.1]++es.map V.int)) (Zam.refl H5) hc3;have f6:(upd H5 c3 (.lst ([.int ld.2.1]++es.map V.int))) c3=some (.lst ((ld.2.1::es).map V.int)):=Zad;generalize upd H5 c3 (.lst ([.int ld.2.1]++es.map V.int))=H6 at s6 f6⊢;have s46:=s5.trans s6;refine⟨c3,ld.2.1::es,rfl,SqL.of f6,(fun z=>by cases z),fun e he mx=> ?_⟩;have ldok:=pk ld (ZaU ej1);obtain⟨o1,o2,o3,o4⟩:=ldok
  have len:e<n:=by
   rcases Qaw.mp he with rfl|he
   ·omega
   ·obtain⟨k,q,nk,ek,rfl⟩:=c1 e he;exact low k q nk ek
  have lo1:ld.2.1≤e:=mx _ Qah;refine⟨zL3,fun r hr=>Zlh (d:=.cut j e) (E4.up s46) hr ⟨ld,ej1,by omega,len,?_⟩ (by omega) fun H' x' e'=> ?_⟩
  ·unfold Zs0;rw[ml ld (ZaU ej),Qam en,Qam lo1];show ZeA _ _=true;unfold ZeA;rw[Qdp];intro q hq
   have hq:∃k,k≠j∧ps1[k]?=some q:=by
    rcases Qap.mp hq with hq|hq
    ·obtain⟨k,hk⟩:=QaZ.mp hq;rw[QcH] at hk;by_cases z:k<j
     ·rw[Qp z] at hk;exact⟨k,by omega,hk⟩
     ·rw[Qn z] at hk;cases hk
    ·obtain⟨k,hk⟩:=QaZ.mp hq;rw[Qcs] at hk;exact⟨j+1+k,by omega,hk⟩
   obtain⟨k,nk,ek⟩:=hq;exact Qam (mx _ (Qag _ (c2 k q (by rw[E2.hall.len];exact Zdt ek) nk ek)))
  ·exact kk e _ _ H' (x02.trans ((Ex2.of (s4.trans s46)).trans x')) e' len (by rw[Qae,QaJ];omega)
theorem Zic {p:Addr}{ds:List Dd}(h:Zch C H p l s0 n ps ds)(ln:ds.length≤24000)(np:0<n)(kk:∀(n':Int)(ps':List PR)(ds':List Dd)(H':Hp),Ex2 p l H H'→Zch C H' p l s0 n' ps' ds'→n'<n→ds'.length≤ds.length+301→Q .non H'):
  Zrv K C {nx:=fun _ H'=>Q .non H',rt:=Q } [some (.ref p),none,none,none,none] H:=by
 refine⟨_,rfl,p,l,s0,n,ps,ds,rfl,h,by omega,fun ps1 ds1 H1 x1 e1 l1 m1=> ?_⟩;refine⟨_,rfl,p,l,s0,n,ps1,ds1,rfl,e1,by omega,m1,fun ps2 ds2 H2 x2 e2 l2 m2=> ?_⟩;obtain⟨dx,a,pa,pb,L,ya,yb,E⟩:=e2.parts;obtain⟨pk,pl,_,_⟩:=e2.prs;have x02:=x1.trans x2;refine⟨_,rfl,p,C,dx,_,_,rfl,E.ob,cl,nH,Zh9 a l,a,_,rfl,SqT.of E.hall.h,rfl,_,_,rfl,_,_,rfl,_,_,rfl,rfl,?_⟩;refine⟨_,rfl,pa,rfl,⟨_,SqL.of E.hall.ha⟩,ZkS (K:=K) (a:=pa) (xs:=ya) (fun i ys H'=>ys=(ps2.take i).map (fun q=>V.int (q.2.1+q.2.2.1))∧Zam H2 H') ⟨rfl,Zam.refl _⟩ (by rw[E.hall.len];omega) (fun i ys H' h=>by rw[h.1,Qaf,Qax];exact QdH _ _) (fun i ys H' _ h=>SqL.of (h.2 _ _ E.hall.ha)) ?_ ?_⟩
 ·rintro i x ys H3 pre qc hx ⟨rfl,s3⟩;obtain⟨q,r,ep,rfl,hq⟩:=E.hall.ca.at' hx;rcases pre with _|⟨q0,_|⟨q1,pre⟩⟩
  ·cases qc
  ·refine⟨⟨[some _],rfl,rfl⟩,?_⟩;unfold Zes;dsimp only;rw[Qp (rfl:true=true)];refine⟨_,rfl,q,r,rfl,s3 _ _ hq,?_,s3⟩;rw[ZaJ ep,Qau];rfl
  ·cases qc
 ·rintro ys H3 ⟨rfl,s3⟩ D hD;rw[E.hall.len,Qa3];have s4:=Zam.nw (o:=.lst (ps2.map fun q=>V.int (q.2.1+q.2.2.1))) s3 hD;have fD:(upd H3 D (.lst (ps2.map fun q=>V.int (q.2.1+q.2.2.1)))) D=some (.lst ((ps2.map fun q=>q.2.1+q.2.2.1).map V.int)):=by rw[Zad,Qbc];rfl
  generalize upd H3 D (.lst (ps2.map fun q=>V.int (q.2.1+q.2.2.1)))=H4 at s4 fD⊢;have e4:=e2.up s4
  have fin:∀e:Int,0≤e→(∀q∈ps2,q.2.1+q.2.2.1≤e)→(e=0∨∃q∈ps2,q.2.1+q.2.2.1=e)→Zeq (ZbE (tOp (rI0 fun i j=>V.bl (decide (i<j))) (Zag 4) (Zag 1))) (ZbD (Zf3 C "do" (Zcz C) [] E0 (Zag 0) (Zaa (Zcr (Zaa (tC (V.str "free")) (Zaa (Zag 4) Zap))) Zap))) (ZbD (Zau (Zd0 C) [] E0 (Zaa (Zag 0) Zap))) {nx:=fun _ H'=>Q .non H',rt:=Q } [some (.ref p),some (.int n),some (.ref pa),some (.ref pb),some (.int e)] H4:=fun e h0 he hx=>by
   refine⟨_,rfl,_,rfl,_,_,rfl,rfl,_,rfl,Zfx (fun c=> ?_) (fun c=> ?_)⟩
   ·have c:=Qar c;refine⟨_,rfl,p,dx,_,rfl,s4 _ _ E.ob,Zea a l,_,rfl,zL2,fun r hr=>Zlh (d:=.free e) e4 hr ⟨h0,c,?_⟩ (by omega) fun H' x' e'=> ?_⟩
    ·unfold ZeA;rw[Qdp];exact fun q hq=>Qam (he q hq)
    ·exact kk e _ _ H' (x02.trans ((Ex2.of s4).trans x')) e' c (by rw[Qae,QaJ];omega)
   ·have c:¬e<n:=fun z=>c (Qam z);refine⟨_,rfl,p,l,s0,n,ps2,ds2,rfl,e4,by omega,m2,?_,fun n' ps' ds' H' x' e' lt l'=>kk n' ps' ds' H' (x02.trans ((Ex2.of s4).trans x')) e' lt (by omega)⟩;rcases hx with rfl|⟨q,hq,eq⟩
    ·omega
    ·exact⟨q,hq,by have:=(pk q hq).2.2.2;omega⟩
  refine⟨D,_,rfl,SqL.of fD,fun z=> ?_,fun m hm mx=> ?_⟩
  ·have z:ps2=[]:=List.map_eq_nil_iff.mp z;exact fin 0 (QaL _) (fun q hq=>by rw[z] at hq;cases hq) (.inl rfl)
  ·obtain⟨q,hq,rfl⟩:=QaR.mp hm;obtain⟨o1,o2,o3,o4⟩:=pk q hq;exact fin _ (by omega) (fun r hr=>mx _ (QcE (f:=fun q:PR=>q.2.1+q.2.2.1) hr)) (.inr ⟨q,hq,rfl⟩)
end
end
section
variable {K:FJ}
def ZgR (K:FJ)(C:Addr):Sp:=fun vs H Q _=>∃(p dx a pa pb:Addr)(n:Int)(ps:List PR)(L:WL2)(ya yb:List V)(wd:Nat),vs=[.ref p,.ref a]∧H p=some (.ins C dx [])∧ZaS H a pa pb n ps L ya yb∧Sm n ps L wd∧∀(l:Addr)(H':Hp),H l=none→(∀b o,H b=some o→b≠p→H' b=some o)→Zch C H' p l (n,ps) n ps []→Q .non H'
def Zfi:Sp:=fun vs H Q _=>∃(a pa pb:Addr)(n:Int)(ps:List PR)(L:WL2)(ya yb:List V)(wd:Nat),vs=[.ref a]∧ZaS H a pa pb n ps L ya yb∧Sm n ps L wd∧∀(l:Addr)(ys:List V)(ds:List Dd)(ps':List PR)(H':Hp),Zam H H'→H l=none→H' l=some (.lst ys)→DdL H' ys ds→Run (n,ps) ds (0,ps')→Q (.ref l) H'
structure KpI (n:Int)(ps:List PR)(L:WL2)(wd:Nat)(n1:Int)(ps1:List PR)(L1:WL2)(rs:WL2):Prop where
 sm:Sm n1 ps1 L1 wd
 pos:∀e∈rs,0<e.1
 tot:tot rs+n1≤n
 rm:∀f,Hm ps n.toNat f→Hm ps1 n1.toNat f∧∀u,Zca (Zb8 (rmL n.toNat wd f (Wc L))) u=Zca (Zb8 (rmL n1.toNat wd f (Wc L1))) u+Zca rs u
theorem KpI.step {n1:Int}{ps1:List PR}{L1:WL2}{d:Dd}(h:KpI n ps L wd n1 ps1 L1 rs)(c:Can n1 ps1 d)(w:Wgt wd n1 ps1 L1 d R S):KpI n ps L wd (nxt (n1,ps1) d).1 (nxt (n1,ps1) d).2 R (rs++ZbR S):=by
 obtain⟨h1,h2,h3,h4⟩:=ZfY h.sm.toHlS c w;refine⟨h.sm.nxt c w,fun e he=>(Qap.mp he).elim (h.pos e) (h2 e),?_,fun f hf=> ?_⟩
 ·have t:=h.tot;have ta:L2.tot (rs++ZbR S)=L2.tot rs+L2.tot (ZbR S):=by unfold L2.tot;rw[Qau,Qc3]
  rw[ta,h3]
  have:=(Znl c).2
  cases d with
  |free e=>show _+(n1-e)+e≤n;omega
  |gone k=>show _+0+_≤n;omega
  |folded k=>show _+0+_≤n;omega
  |joined j k=>show _+0+_≤n;omega
  |carried j k s=>show _+0+_≤n;omega
  |cut j e=>show _+0+_≤n;omega
 ·obtain⟨a,b⟩:=h.rm f hf;obtain⟨a2,b2⟩:=h4 f a;refine⟨a2,fun u=> ?_⟩;rw[b u,b2 u,Zku];omega
theorem Znu (h:∀e∈rs,0<e.1):(rs.length:Int)≤tot rs:=by
 induction rs with
 |nil=>exact QaL 0
 |cons e L ih=>
  rw[ZaD,QaB]
  have:=ih fun x hx=>h x (Qag _ hx)
  have:=h e Qah;omega
def Zjr:Sp:=fun vs H Q _=>∃(a pa pb l:Addr)(n:Int)(ps:List PR)(L:WL2)(ya yb ys:List V)(wd:Nat)(ds:List Dd)(s:Int×List PR),vs=[.ref a,.ref l]∧ZaS H a pa pb n ps L ya yb∧Sm n ps L wd∧H l=some (.lst ys)∧DdL H ys ds∧Run (n,ps) ds s∧∀(c a' lw:Addr)(L1 rs:WL2)(ws:List (List Int×Int))(zs:List V)(H':Hp),Zam H H'→H lw=none→H' c=some (.tup [.ref a',.int (tot rs),.ref lw])→H' lw=some (.lst zs)→PrL H' zs ws→Zbs rs ws→KpI n ps L wd s.1 s.2 L1 rs→Q (.ref c) H'
def Zfj:Sp:=fun vs H Q _=>∃(a pa pb:Addr)(n:Int)(ps:List PR)(L:WL2)(ya yb:List V)(wd:Nat),vs=[.ref a]∧ZaS H a pa pb n ps L ya yb∧Sm n ps L wd∧∀(c lw:Addr)(rs:WL2)(ws:List (List Int×Int))(zs:List V)(H':Hp),Zam H H'→H lw=none→H' c=some (.tup [.int (tot rs),.ref lw])→H' lw=some (.lst zs)→PrL H' zs ws→Zbs rs ws→(∀e∈rs,0<e.1)→(∀f,Hm ps n.toNat f→∀u,Zca (Zb8 (rmL n.toNat wd f (Wc L))) u=Zca rs u)→Q (.ref c) H'
def Zrw (K:FJ):TS:=ZaL (ZaW (Zag 1) (Zcp K 3 Jaf)) (ZaL (ZtR K (Zag 0) (Zcr (Zaa (Zag 2) (Zaa (Zag 3) (Zaa (Zau (Zcy K) [] E0 (Zaa (Zc0 (Zaa (Zcr (Zaa (Zag 2) (Zaa (Zcr (Zaa (iQ1 0) Zap)) Zap))) Zap)) Zap)) Zap)))) ("hall")) (ZtR K (Zag 0) (Zc0 Zap) ("deeds")))
def Zpm (K:FJ)(C:Addr):TS:=sQ1 (ZqA C (ZgR K C) [] E0 (tQ1 0)) 1 (ZaL (Zer (ZbE (tOp Jaz (tOp (ZbO K) (Zhj K (Zag 1) ("hall")) (iQ1 0)) (iQ1 0))) (ZbD (Zau (ZgP C) [] E0 (tQ1 1)))) (ZbB (Zhj K (Zag 1) ("deeds"))))
def Zti (K:FJ):TS:=sQ1 (Zc0 Zap) 2 (ZaL (ZfJ (Zc7 K (Zag 1)) (Zan 3) (ZaL (ZaW (Zau Zff [] E0 (Zaa (Zag 0) (tQ1 3))) (Zcp K 2 (ZaC (Zan 0) (ZaC (Zan 4) ZcN)))) (ZbD (tBM K "list" ZiC (Zag 2) (Zaa (ZbU 2 (Zc7 K (Zag 4)) (Jao K) Zes (Zcr (Zaa (Zag 1) (tQ1 0)))) Zap))))) (ZbB (Zcr (Zaa (Zag 0) (Zaa (Zau (Zfb K) [] E0 (tQ1 2)) (Zaa (Zau (Ze7 K) [] E0 (tQ1 2)) Zap))))))
def Zpn (K:FJ):TS:=ZbB (tSl (ZqE K) (Zau Zjr [] E0 (Zaa (Zag 0) (Zaa (Zau Zfi [] E0 (tQ1 0)) Zap))) (ZfA (iQ1 1)) ZcC)
theorem Ztj (h:0≤n):ZbG (ZaM [(n,[0])])∧tot (ZaM [(n,[0])])=n∧∀d∈ZaM [(n,[0])],d.2.length=1:=by
 refine⟨ZbQ _,?_,fun d hd=> ?_⟩
 ·rw[Toy.shape_tot (fun e he=>by rw[Qal.mp he];exact h)];unfold tot;simp
 ·have e:ZaM [(n,[0])]=if 0<n then [(n,[0])] else []:=by show ZaV [] (n,[0])=_;unfold ZaV;split<;>rfl
  rw[e] at hd;split at hd
  ·rw[Qal.mp hd];rfl
  ·cases hd
section
variable (cl:Cls K C)(nH:Zcc K C "hall")(nD:Zcc K C "deeds")
include cl nH nD
theorem Zid {p:Addr}{ya yb:List V}(hp:H p=some (.ins C dx []))(h:ZaS H a pa pb n ps L ya yb)(sm:Sm n ps L wd)(k:∀(l:Addr)(H':Hp),H l=none→(∀b o,H b=some o→b≠p→H' b=some o)→Zch C H' p l (n,ps) n ps []→Q .non H'):
  Zrw K {nx:=fun _ H'=>Q .non H',rt:=Q } [some (.ref p),some (.ref a),none,none,none] H:=by
 refine⟨_,rfl,a,_,rfl,SqT.of h.h,rfl,_,_,rfl,_,_,rfl,_,_,rfl,rfl,?_⟩;refine⟨_,rfl,_,rfl,_,rfl,zL1,fun q1 e1=>⟨zL2,fun q2 e2=>⟨zL1,fun q3 e3=> ?_⟩⟩⟩;have s1:=Zam.nw (o:=.tup [.int 0]) (Zam.refl H) e1;have f1:(upd H q1 (.tup [.int 0])) q1=some (.tup [.int 0]):=Zad;generalize upd H q1 (.tup [.int 0])=H1 at s1 f1 e2 e3⊢;have s2:=Zam.nw (o:=.tup [.int n,.ref q1]) (Zam.refl H1) e2;have f2:(upd H1 q2 (.tup [.int n,.ref q1])) q2=some (.tup [.int n,.ref q1]):=Zad;generalize upd H1 q2 (.tup [.int n,.ref q1])=H2 at s2 f2 e3⊢;have s3:=Zam.nw (o:=.lst [.ref q2]) (Zam.refl H2) e3;have f3:(upd H2 q3 (.lst [.ref q2])) q3=some (.lst [.ref q2]):=Zad;generalize upd H2 q3 (.lst [.ref q2])=H3 at s3 f3⊢;have w3:Wg H3 [.ref q2] [(n,[0])]:=(Wg.nil H3).snoc (e:=(n,[0])) ⟨q2,q1,rfl,s3 _ _ f2,(s2.trans s3) _ _ f1⟩;obtain⟨g1,g2,g3⟩:=Ztj sm.n0;refine⟨q3,_,_,rfl,SqL.of f3,w3,(by show 1≤1000;decide),(fun e he=>by rw[Qal.mp he];exact sm.n0),fun b zs H4 fb hb wb s4=> ?_⟩;have s04:=s1.trans (s2.trans (s3.trans s4));refine⟨zL3,fun t ht=> ?_⟩;have s5:=Zam.nw (o:=.tup [.int n,.ref pa,.ref b]) (Zam.refl H4) ht;have f5:(upd H4 t (.tup [.int n,.ref pa,.ref b])) t=some (.tup [.int n,.ref pa,.ref b]):=Zad;have s05:=s04.trans s5;refine⟨_,rfl,p,C,dx,[],rfl,s05 _ _ hp,cl,nH,(by show 0<1000;decide),?_⟩;generalize upd H4 t (.tup [.int n,.ref pa,.ref b])=H5 at s5 f5 s05⊢;refine⟨zL0,fun l hl=> ?_⟩;have npl:l≠p:=fun z=>by rw[z,Zad] at hl;cases hl
 refine⟨_,rfl,p,C,dx,_,rfl,by rw[Zaq npl.symm];exact Zad,cl,nD,(by show 1<1000;decide),?_⟩;have hl0:H l=none:=s05.free (by rw[Zaq npl] at hl;exact hl);have hl5:H5 l=none:=by rw[Zaq npl] at hl;exact hl
 have keep:∀c o,H5 c=some o→c≠p→(upd (upd (upd H5 p (.ins C dx (ZdT "hall" (.ref t) []))) l (.lst [])) p (.ins C dx (ZdT "deeds" (.ref l) (ZdT "hall" (.ref t) [])))) c=some o:=fun c o e n1=>by rw[Zaq n1,Zaq (Zar e hl5),Zaq n1];exact e
 have np:∀{c:Addr} {o:HO},H5 c=some o→(∀d fs,o≠ .ins C d fs)→c≠p:=fun{c o} e n1 z=>by rw[z,s05 _ _ hp] at e;cases e;exact n1 _ _ rfl
 have tp:Za7 H5 (upd (upd (upd H5 p (.ins C dx (ZdT "hall" (.ref t) []))) l (.lst [])) p (.ins C dx (ZdT "deeds" (.ref l) (ZdT "hall" (.ref t) [])))):=fun c vs e=>keep c _ e (np e fun d fs z=>by cases z)
 have hall:ZaS (upd (upd (upd H5 p (.ins C dx (ZdT "hall" (.ref t) []))) l (.lst [])) p (.ins C dx (ZdT "deeds" (.ref l) (ZdT "hall" (.ref t) [])))) t pa b n ps (ZaM [(n,[0])]) ya zs:=by
  have hpa:=s05 _ _ h.ha;have hbb:=s5 _ _ hb;exact⟨tp _ _ f5,keep _ _ hpa (np hpa fun d fs z=>by cases z),h.ca.up (s05.tups.trans tp),keep _ _ hbb (np hbb fun d fs z=>by cases z),wb.up (s5.tups.trans tp)⟩
 refine k l _ hl0 (fun c o e n1=>keep c o (s05 _ _ e) n1) ⟨⟨dx,t,pa,b,_,1,ya,zs,[],by rw[Zad,ZgI],hall,⟨⟨sm.n0,g1,g2,g3,sm.prs⟩,sm.n6,sm.pl,by decide,by decide⟩,by rw[Zaq npl];exact Zad,rfl,fun i d e=>by cases e⟩,Run.nil _⟩
theorem ZgS {ya yb:List V}(h:ZaS H a pa pb n ps L ya yb)(sm:Sm n ps L wd)(k:∀(l:Addr)(ys:List V)(ds:List Dd)(ps':List PR)(H':Hp),Zam H H'→H l=none→H' l=some (.lst ys)→DdL H' ys ds→Run (n,ps) ds (0,ps')→Q (.ref l) H'):
  Zpm K C {nx:=Z,rt:=Q } [some (.ref a),none] H:=by
 refine⟨_,rfl,fun p dx hp hdx ndx=> ?_⟩;have sH:Zam H (upd (upd H dx (.own p)) p (.ins C dx [])):=fun b o e=>by rw[Zaq (Zar e hp),Zaq (Zar e hdx)];exact e
 refine⟨p,dx,a,pa,pb,n,ps,L,ya,yb,wd,rfl,Zad,h.up sH,sm,fun l H1 hl f1 e1=>⟨rfl,?_⟩⟩;have s1:Zam H H1:=fun b o e=>f1 b o (sH b o e) (Zar e hp);have hl0:H l=none:=sH.free hl;have npH:H p=none:=hp;refine⟨fun m σ H'=>∃(n1:Int)(ps1:List PR)(ds1:List Dd),σ=[some (.ref a),some (.ref p)]∧Ex2 p l H1 H'∧Zch C H' p l (n,ps) n1 ps1 ds1∧m=n1.toNat∧(ds1.length:Int)≤301*(60-n1),⟨_,n,ps,[],rfl,Ex2.refl _ _ _,e1,rfl,by have:=sm.n6;show(0:Int)≤_;omega⟩,?_⟩;rintro m σ H2 ⟨n1,ps1,ds1,rfl,x2,e2,rfl,l2⟩;obtain⟨dx2,a2,pa2,pb2,L2,ya2,yb2,E⟩:=e2.parts;obtain⟨_,_,n6,n0⟩:=e2.prs;refine⟨_,rfl,p,C,dx2,_,_,rfl,E.ob,cl,nH,Zh9 a2 l,a2,_,_,_,rfl,rfl,SqT.of E.hall.h,rfl,_,_,rfl,rfl,_,rfl,Zfx (fun c=> ?_) (fun c=> ?_)⟩
 ·have c:=Qar c;refine⟨fun σ' H'=>∃m',m'<n1.toNat∧∃(n1:Int)(ps1:List PR)(ds1:List Dd),σ'=[some (.ref a),some (.ref p)]∧Ex2 p l H1 H'∧Zch C H' p l (n,ps) n1 ps1 ds1∧m'=n1.toNat∧(ds1.length:Int)≤301*(60-n1),fun σ' H' z=>z,?_⟩;refine⟨_,rfl,p,l,(n,ps),n1,ps1,ds1,rfl,e2,by omega,c,fun n' ps' ds' H' x' e' lt l'=> ?_⟩;have n0':=e'.prs.2.2.2;exact⟨_,by omega,n',ps',ds',rfl,x2.trans x',e',rfl,by omega⟩
 ·have c:n1=0:=by
   have:¬0<n1:=fun z=>c (Qam z);omega
  subst c;obtain⟨dx3,a3,pa3,pb3,L3,wd3,ya3,yb3,ys,h1,h2,h3,h4,h5⟩:=e2.ex;refine⟨_,rfl,p,C,dx3,_,_,rfl,h1,cl,nD,Zqo a3 l,k l ys ds1 ps1 H2 (fun b o e=> ?_) hl0 h4 h5 e2.run⟩;exact x2 b o (s1 b o e) (Zar e hp) (Zar e hl0)
end
end
section
variable {K:FJ}
theorem Zkx {xs ys:List V}{A:WL2}(h:Wg H xs A)(g:Wg H ys B):Wg H (xs++ys) (A++B):=by
 refine⟨by rw[Qae,Qae,h.1,g.1],fun i x e h1 h2=> ?_⟩;by_cases c:i<xs.length
 ·rw[Qas c] at h1;rw[Qas (by rw[←h.1];exact c)] at h2;exact h.2 i x e h1 h2
 ·rw[Qaq (by omega)] at h1;rw[Qaq (by rw[←h.1];omega),←h.1] at h2;exact g.2 _ x e h1 h2
theorem Zjs {ya yb ys:List V}{ds:List Dd}{s:Int×List PR}(h:ZaS H a pa pb n ps L ya yb)(sm:Sm n ps L wd)(hl:H l=some (.lst ys))(dl:DdL H ys ds)(run:Run (n,ps) ds s)(k:∀(c a' lw:Addr)(L1 rs:WL2)(ws:List (List Int×Int))(zs:List V)(H':Hp),Zam H H'→H lw=none→H' c=some (.tup [.ref a',.int (tot rs),.ref lw])→H' lw=some (.lst zs)→PrL H' zs ws→Zbs rs ws→KpI n ps L wd s.1 s.2 L1 rs→Q (.ref c) H'):
  Zti K {nx:=Z,rt:=Q } [some (.ref a),some (.ref l),none,none,none] H:=by
 refine⟨zL0,fun r hr=> ?_⟩;have s0:=Zam.nw (o:=.lst []) (Zam.refl H) hr;have f0:(upd H r (.lst [])) r=some (.lst []):=Zad;generalize upd H r (.lst [])=H0 at s0 f0⊢;have k0:KpI n ps L wd n ps L []:=⟨sm,(fun e he=>by cases he),by show(0:Int)+n≤n;omega,fun f hf=>⟨hf,fun u=>(QbB _).symm⟩⟩;refine⟨_,rfl,l,rfl,⟨_,SqL.of (s0 _ _ hl)⟩,ZbL (K:=K) (a:=l) (xs:=ys) (fun i σ H'=>∃(a1 pa1 pb1:Addr)(L1 rs:WL2)(ya1 yb1 zs:List V)(x3 x4:Option V),σ=[some (.ref a1),some (.ref l),some (.ref r),x3,x4]∧Zam H H'∧ZaS H' a1 pa1 pb1 ((ds.take i).foldl nxt (n,ps)).1 ((ds.take i).foldl nxt (n,ps)).2 L1 ya1 yb1∧pa1≠r∧pb1≠r∧KpI n ps L wd ((ds.take i).foldl nxt (n,ps)).1 ((ds.take i).foldl nxt (n,ps)).2 L1 rs∧H' r=some (.lst zs)∧Wg H' zs rs) ⟨a,pa,pb,L,[],ya,yb,[],_,_,rfl,s0,h.up s0,Zar h.ha hr,Zar h.hb hr,k0,f0,Wg.nil _⟩ (fun i σ H' _ z=>by obtain⟨_,_,_,_,_,_,_,_,_,_,_,s',_⟩:=z;exact SqL.of (s' _ _ hl)) ?_ ?_⟩
 ·rintro i y σ H1 hy ⟨a1,pa1,pb1,L1,rs,ya1,yb1,zs,x3,x4,rfl,s1,h1,na,nb,kp,hz,wz⟩;have il:i<ds.length:=by rw[←dl.1];exact(Qab.mp hy).1
  obtain⟨d,ed⟩:∃d,ds[i]?=some d:=⟨_,Qad il⟩;obtain⟨q,yq,hq⟩:=dl.2 i d ed;rw[hy] at yq;cases yq;have cn:=run.1 i d ed;have et:(ds.take (i+1)).foldl nxt (n,ps)=nxt ((ds.take i).foldl nxt (n,ps)) d:=by rw[ZaJ ed,Qd1];rfl
  rw[et];generalize(ds.take i).foldl nxt (n,ps)=st at*;refine⟨_,rfl,_,rfl,a1,pa1,pb1,q,st.1,st.2,L1,ya1,yb1,wd,d,rfl,h1,kp.sm,s1 _ _ hq,cn,Qco,fun R S c a' pa' pb' pc' ya' yb' yc' H2 w s2 fa fb t=> ?_⟩;refine⟨c,_,rfl,SqT.of t.hc,rfl,_,_,rfl,_,_,rfl,rfl,?_⟩;have s02:=s1.trans s2;have kp2:=kp.step cn w;have pos2:=kp2.pos
  have ll:((rs++ZbR S).length:Int)≤60:=by
   have:=Znu pos2
   have:=kp2.tot
   have:=kp2.sm.n0
   have:=sm.n6;omega
  have lS:yc'.length=S.length:=t.sc.1
  have lS2:S.length≤60:=by
   rw[Qae] at ll;unfold ZbR at ll;rw[Qaf] at ll;omega
  have lz:zs.length=rs.length:=wz.1
  have lr:rs.length≤60:=by
   rw[Qae] at ll;omega
  refine⟨_,rfl,.inl ⟨rfl,_,SqL.of (s2 _ _ hz)⟩,_,rfl,pc',rfl,⟨_,SqL.of t.hpc⟩,ZkS (K:=K) (a:=pc') (xs:=yc') (fun m us H'=>Zam H2 H'∧Wg H' us (ZbR (S.take m))) ⟨Zam.refl _,Wg.nil _⟩ (by omega) (fun m us H' z=>by rw[z.2.1];unfold ZbR;rw[Qaf,Qax];exact QdH _ _) (fun m us H' _ z=>SqL.of (z.1 _ _ t.hpc)) ?_ ?_⟩
  ·rintro m x us H3 pre qc hx ⟨s3,wu⟩;have ml:m<S.length:=by rw[←lS];exact(Qab.mp hx).1
   obtain⟨e,ee⟩:∃e,S[m]?=some e:=⟨_,Qad ml⟩;obtain⟨q3,w3,rfl,hq3,hw3⟩:=t.sc.2 m x e hx ee;rcases pre with _|⟨q0,_|⟨q1,_|⟨q2,pre⟩⟩⟩
   ·cases qc
   ·cases qc
   ·refine⟨q3,_,rfl,SqT.of (s3 _ _ hq3),rfl,_,_,rfl,_,_,rfl,rfl,⟨[some _,some _],rfl,rfl⟩,?_⟩;unfold Zes;dsimp only;rw[Qp (rfl:true=true)];refine⟨_,rfl,_,rfl,zL2,fun t3 ht3=>⟨Zam.nw s3 ht3,?_⟩⟩;have e3:ZbR (S.take (m+1))=ZbR (S.take m)++ [(e.2,e.1)]:=by unfold ZbR;rw[ZaJ ee,Qau];rfl
    rw[e3];exact(wu.up (Zam.nw (Zam.refl H3) ht3).tups).snoc ⟨t3,w3,rfl,Zad,(Zam.nw s3 ht3) _ _ hw3⟩
   ·cases qc
  ·rintro us H3 ⟨s3,wu⟩ D hD;rw[lS,Qa3] at wu;have s4:=Zam.nw (o:=.lst us) s3 hD;have fD:(upd H3 D (.lst us)) D=some (.lst us):=Zad;have wu4:=wu.up (Zam.nw (o:=.lst us) (Zam.refl H3) hD).tups;generalize upd H3 D (.lst us)=H4 at s4 fD wu4⊢;have z4:=(s2.trans s4) _ _ hz;have lu:us.length=S.length:=by rw[wu.1];unfold ZbR;rw[Qaf]
   refine⟨r,D,zs,us,rfl,rfl,z4,fD,QbH (ZgJ (by omega)),?_⟩;have tp:Za7 H4 (upd H4 r (.lst (zs++us))):=(Za7.refl _).lst z4;have na':pa'≠r:=fun y=>by rw[y,hz] at fa;cases fa
   have nb':pb'≠r:=fun y=>by rw[y,hz] at fb;cases fb
   have t4:=t.up s4;refine⟨a',pa',pb',R,rs++ZbR S,ya',yb',zs++us,_,_,rfl,Zam.ow (s02.trans s4) hr,⟨tp _ _ t4.hall.h,by rw[Zaq na'];exact t4.hall.ha,t4.hall.ca.up tp,by rw[Zaq nb'];exact t4.hall.hb,t4.hall.wb.up tp⟩,na',nb',kp2,Zad,?_⟩;exact Wg.up (Zkx (Wg.up wz (s2.trans s4).tups) wu4) tp
 ·rintro σ H1 ⟨a1,pa1,pb1,L1,rs,ya1,yb1,zs,x3,x4,rfl,s1,h1,na,nb,kp,hz,wz⟩;rw[dl.1,Qa3,run.2] at h1 kp
  have lr:(rs.length:Int)≤60:=by
   have:=Znu kp.pos
   have:=kp.tot
   have:=kp.sm.n0
   have:=sm.n6;omega
  refine⟨_,rfl,_,rfl,r,zs,rs,rfl,SqL.of hz,wz,by omega,fun H2 s2=> ?_⟩;refine⟨_,rfl,r,zs,rs,rfl,SqL.of (s2 _ _ hz),wz.up s2.tups,by omega,fun lw ps2 ws H3 f3 h3 pr3 so3 s3=> ?_⟩;refine⟨zL3,fun c hc=> ?_⟩;have s4:=Zam.nw (o:=.tup [.ref a1,.int (tot rs),.ref lw]) (Zam.refl H3) hc;exact k c a1 lw L1 rs ws ps2 _ ((s1.trans (s2.trans s3)).trans s4) ((s1.trans s2).free f3) Zad (s4 _ _ h3) (pr3.up s4.tups) so3 kp
theorem ZgT {ya yb:List V}(h:ZaS H a pa pb n ps L ya yb)(sm:Sm n ps L wd)(k:∀(c lw:Addr)(rs:WL2)(ws:List (List Int×Int))(zs:List V)(H':Hp),Zam H H'→H lw=none→H' c=some (.tup [.int (tot rs),.ref lw])→H' lw=some (.lst zs)→PrL H' zs ws→Zbs rs ws→(∀e∈rs,0<e.1)→(∀f,Hm ps n.toNat f→∀u,Zca (Zb8 (rmL n.toNat wd f (Wc L))) u=Zca rs u)→Q (.ref c) H'):
  Zpn K {nx:=Z,rt:=Q } [some (.ref a)] H:=by
 refine⟨_,rfl,_,rfl,a,pa,pb,n,ps,L,ya,yb,wd,rfl,h,sm,fun l ys ds ps' H1 s1 fl hl dl run=> ?_⟩;refine⟨a,pa,pb,l,n,ps,L,ya,yb,ys,wd,ds,(0,ps'),rfl,h.up s1,sm,hl,dl,run,fun c a' lw L1 rs ws zs H2 s2 f2 hc hw pr so kp=> ?_⟩;refine⟨1,rfl,c,_,rfl,SqT.of hc,?_,fun c2 hc2=> ?_⟩
 ·rintro⟨z,_⟩;exact absurd (show(1:Nat)=0 from z) (by decide)
 ·rw[show Zf6 [V.ref a',V.int (tot rs),V.ref lw] (some 1) none=[V.int (tot rs),V.ref lw] from ZcT (k:=1) _ (by show 1≤3;decide)];have s3:=Zam.nw (o:=.tup [V.int (tot rs),V.ref lw]) (Zam.refl H2) hc2;refine k c2 lw rs ws zs _ (s1.trans (s2.trans s3)) (s1.free f2) Zad (s3 _ _ hw) (pr.up s3.tups) so kp.pos fun f hf u=> ?_;rw[(kp.rm f hf).2 u];show(0:Int)+_=_;omega
end
section
variable {K:FJ}
theorem Zpo {o:HO}(e:H a=some o):upd H a o=H:=funext fun b=>by
 by_cases c:b=a
 ·rw[c,Zad,e]
 ·rw[Zaq c]
abbrev unP (a b:Int):PR:=(a,b,1,false)
theorem Znv {a:Int}:Lk (unP a b) x y↔x=a∧y=b:=by
 unfold Lk LkE unP;simp only[QaI,Qbv];omega
def jnF (f:Nat→Nat)(a b:Nat)(x:Nat):Nat:=if f x=max (f a) (f b) then min (f a) (f b) else f x
theorem Hm.link {n:Nat}(h:Hm ps n f){a b:Nat}(ha:a<n)(hb:b<n):Hm (ps++ [unP a b]) n (jnF f a b):=by
 have up:∀{x y:Int},Cn ps x y→Cn (ps++ [unP a b]) x y:=fun c=>c.sub fun p hp=>QaY _ hp;have ab:Cn (ps++ [unP a b]) (a:Int) (b:Int):=.of (QaA _ Qah) (Znv.mpr ⟨rfl,rfl⟩);obtain⟨a1,a2⟩:=h.c a ha;obtain⟨b1,b2⟩:=h.c b hb;refine⟨fun x hx=> ?_,fun x hx y hy c=> ?_⟩
 ·obtain⟨x1,x2⟩:=h.c x hx;unfold jnF;by_cases e:f x=max (f a) (f b)
  ·rw[Qp e];refine⟨by omega,?_⟩;rcases QeH (f a) (f b) with q|q
   ·rw[QcV q] at e;rw[Qci q];exact((up a2).trans ab).trans ((up b2).symm.trans (by rw[←e];exact up x2))
   ·rw[QeI q] at e;rw[Nat.min_eq_right q];exact((up b2).trans ab.symm).trans ((up a2).symm.trans (by rw[←e];exact up x2))
  ·rw[Qn e];exact⟨x1,up x2⟩
 ·have key:∀{z w:Int},Cn (ps++ [unP a b]) z w→Cn ps z w∨(Cn ps z a∧Cn ps b w)∨(Cn ps z b∧Cn ps a w):=fun{z w} c=>by
   induction c with
   |refl=>exact .inl (.refl _)
   |step _ r ih=>
    obtain⟨p,hp,r⟩:=r;rcases Qap.mp hp with hp|hp
    ·have l:Cn ps _ _:=ZhR.one ⟨p,hp,r⟩;exact ih.elim (fun i=> .inl (i.trans l)) fun i=>i.elim (fun i=> .inr (.inl ⟨i.1,i.2.trans l⟩)) fun i=> .inr (.inr ⟨i.1,i.2.trans l⟩)
    ·rw[Qal.mp hp,Znv,Znv] at r;rcases r with⟨rfl,rfl⟩|⟨rfl,rfl⟩
     ·exact ih.elim (fun i=> .inr (.inl ⟨i,.refl _⟩)) fun i=>i.elim (fun i=> .inr (.inl ⟨i.1,.refl _⟩)) fun i=> .inl i.1
     ·exact ih.elim (fun i=> .inr (.inr ⟨i,.refl _⟩)) fun i=>i.elim (fun i=> .inl i.1) fun i=> .inr (.inr ⟨i.1,.refl _⟩)
  have fl:jnF f a b x≤f x:=by unfold jnF;split<;>omega
  rcases key c with k|⟨k1,k2⟩|⟨k1,k2⟩
  ·have:=h.le x hx y hy k;omega
  ·have:=h.le a ha y hy k1
   have:=h.eq hb hx k2;unfold jnF at fl⊢;split<;>omega
  ·have:=h.le b hb y hy k1
   have:=h.eq ha hx k2;unfold jnF at fl⊢;split<;>omega
def unL (p:PR):List PR:=(List.range p.2.2.1.toNat).map fun(i:Nat)=>unP (p.1+(i:Int)) (p.2.1+if p.2.2.2=true then p.2.2.1-1-(i:Int) else(i:Int))
theorem Ztk :Cn (ps++unL p) x y↔Cn (ps++ [p]) x y:=by
 constructor
 ·intro c;refine c.mono fun q hq x y l=> ?_;rcases Qap.mp hq with hq|hq
  ·exact .of (QaY _ hq) l
  ·obtain⟨i,hi,rfl⟩:=QaR.mp hq;rw[QbD] at hi;obtain⟨rfl,rfl⟩:=Znv.mp l;refine .of (p:=p) (QaA _ Qah) ⟨by omega,by omega,?_⟩;split<;>omega
 ·intro c;refine c.mono fun q hq x y l=> ?_;rcases Qap.mp hq with hq|hq
  ·exact .of (QaY _ hq) l
  ·rw[Qal.mp hq] at l;obtain⟨l1,l2,l3⟩:=l;refine .of (p:=unP x y) (QaA _ (QaR.mpr ⟨(x-p.1).toNat,QbD.mpr (by omega),?_⟩)) (Znv.mpr ⟨rfl,rfl⟩);have e:((x-p.1).toNat:Int)=x-p.1:=Qbe (by omega);have e2:(p.2.1+if p.2.2.2=true then p.2.2.1-1-(x-p.1) else(x-p.1))=y:=by rw[l3];split<;>omega
   rw[e,e2,show p.1+(x-p.1)=x by omega]
theorem Hm.nil (n:Nat):Hm [] n (fun x=>x):=by
 have e:∀{x y:Int},Cn [] x y→x=y:=fun c=>by
  induction c with
  |refl=>rfl
  |step _ r ih=>obtain⟨p,hp,_⟩:=r;cases hp
 exact⟨fun x hx=>⟨hx,.refl _⟩,fun x hx y hy c=>by have:=e c;show x≤y;omega⟩
structure Uf (hs:List V)(n:Nat)(f:Nat→Nat):Prop where
 len:hs.length=n
 at':∀x<n,∃h:Nat,hs[x]?=some (.int (h:Int))∧h≤x∧f h=f x∧(h=x→f x=x)
theorem Uf.put {hs:List V}{n:Nat}(u:Uf hs n f){x g:Nat}(gx:g≤x)(e:f g=f x)(c:g=x→f x=x):Uf (hs.set x (.int (g:Int))) n f:=by
 refine⟨by rw[QeA,u.len],fun y hy=> ?_⟩;by_cases d:x=y
 ·subst d;exact⟨g,by rw[Qck (by rw[u.len];exact hy)],gx,e,c⟩
 ·rw[QcP d];exact u.at' y hy
theorem Uf.join {hs:List V}{n:Nat}(u:Uf hs n f)(h:Hm ps n f){a b:Nat}(ha:a<n)(hb:b<n):Uf (hs.set (max (f a) (f b)) (.int ((min (f a) (f b):Nat):Int))) n (jnF f a b):=by
 have fa:=h.ff ha;have fb:=h.ff hb;refine⟨by rw[QeA,u.len],fun y hy=> ?_⟩;by_cases d:max (f a) (f b)=y
 ·subst d;refine⟨_,by rw[Qck (by rw[u.len];exact hy)],by omega,?_,fun z=> ?_⟩
  ·have e1:f (min (f a) (f b))=min (f a) (f b):=by rcases QeH (f a) (f b) with q|q<;>simp only[Qci q,Nat.min_eq_right q,fa,fb]
   have e2:f (max (f a) (f b))=max (f a) (f b):=by rcases QeH (f a) (f b) with q|q<;>simp only[QeI q,QcV q,fa,fb]
   unfold jnF;rw[e1,e2,Qp rfl];split<;>rfl
  ·have e2:f (max (f a) (f b))=max (f a) (f b):=by rcases QeH (f a) (f b) with q|q<;>simp only[QeI q,QcV q,fa,fb]
   unfold jnF;rw[e2,Qp rfl];exact z
 ·rw[QcP d];obtain⟨g,e1,e2,e3,e4⟩:=u.at' y hy;refine⟨g,e1,e2,by unfold jnF;rw[e3],fun z=> ?_⟩
  have:=e4 z;unfold jnF;rw[this,Qn (fun w=>d w.symm)]
def Zie:Sp:=fun vs H Q _=>∃(a:Addr)(hs:List V)(n x:Nat)(f:Nat→Nat),vs=[.ref a,.int (x:Int)]∧H a=some (.lst hs)∧Uf hs n f∧x<n∧∀hs',Uf hs' n f→Q (.int (f x:Nat)) (upd H a (.lst hs'))
def Zuo (K:FJ):TS:=ZaL (Zer (ZbE (tOp rNe (tOp (Zcu K) (Zag 0) (Zag 1)) (Zag 1))) (ZaL (ZaW (tOp (Zcu K) (Zag 0) (tOp (Zcu K) (Zag 0) (Zag 1))) (ZrV (Zag 0) (Zag 1) ZkP)) (ZaW (tOp (Zcu K) (Zag 0) (Zag 1)) (Zan 1)))) (ZbB (Zag 1))
def Ztl (K:FJ):TS:=sQ1 (tCB (fun xs H Q=>∃p j,xs=[V.ref p]∧H p=some (HO.rng 0 j)∧0≤j∧j≤1000∧∀(l:Addr),H l=none→Q (V.ref l) (upd H l (HO.lst (List.map (fun(i:Nat)=>V.int ↑i) (List.range j.toNat))))) (Zaa (tCB (fun xs H Q=>∃j,xs=[V.int j]∧-2^62≤j∧j<2^62∧∀(p:Addr),H p=none→Q (V.ref p) (upd H p (HO.rng 0 j))) (tQ1 0)) Zap)) 2 (ZaL (ZfJ (Zc7 K (Zag 1)) (Zcp K 4 (ZaC (Zan 3) (ZaC (Zan 4) Jav))) (ZfJ (Zew (tQ1 5)) (Zan 7) (sQ1 (Zau Zie [] E0 (Zaa (Zag 2) (Zaa (tOp Jaa (Zag 3) (Zag 7)) Zap))) 8 (sQ1 (Zau Zie [] E0 (Zaa (Zag 2) (Zaa (tOp Jaa (Zag 4) (tOp (Zcu K) (Zc0 (Zaa (Zag 7) (Zaa (tOp Jad (tOp Jad (Zag 5) (iQ1 1)) (Zag 7)) Zap))) (tCB (fun xs H Q=>(∃i,xs=[V.int i]∧Q (V.int i) H)∨∃k,xs=[V.bl k]∧Q (V.int (if k=true then 1 else 0)) H) (tQ1 6)))) Zap))) 9 (ZaW (tCB Jac (Zaa (Zag 8) (tQ1 9))) (ZrV (Zag 2) (tCB Jae (Zaa (Zag 8) (tQ1 9))) ZkP)))))) (ZbB (ZbU 1 (Zew (tQ1 0)) (Zan 0) Zes (Zau Zie [] E0 (Zaa (Zag 3) (tQ1 0))))))
theorem Zlm {hs:List V}{n x:Nat}(ha:H a=some (.lst hs))(u:Uf hs n f)(hx:x<n)(k:∀hs',Uf hs' n f→Q (.int (f x:Nat)) (upd H a (.lst hs'))):Zuo K {nx:=Z,rt:=Q } [some (.ref a),some (.int (x:Int))] H:=by
 refine⟨fun m σ H'=>∃(y:Nat)(hs':List V),σ=[some (.ref a),some (.int (y:Int))]∧y<n∧f y=f x∧H'=upd H a (.lst hs')∧Uf hs' n f∧m=y,⟨x,x,hs,rfl,hx,rfl,(Zpo ha).symm,u,rfl⟩,?_⟩;rintro m σ H1 ⟨y,h1,rfl,hy,ey,rfl,u1,rfl⟩;have g1:(upd H a (.lst h1)) a=some (.lst h1):=Zad;obtain⟨g,e1,e2,e3,e4⟩:=u1.at' m hy;refine⟨_,rfl,_,rfl,a,_,_,_,rfl,rfl,SqL.of g1,ZaK e1,_,rfl,rfl,_,rfl,?_⟩;rw[Zh2];refine Zfx (fun c=> ?_) (fun c=> ?_)
 ·have c:g≠m:=Qar c;have gm:g<m:=by omega
  obtain⟨q,d1,d2,d3,d4⟩:=u1.at' g (by omega);refine⟨fun σ' H'=>∃m',m'<m∧∃(y:Nat)(hs':List V),σ'=[some (.ref a),some (.int (y:Int))]∧y<n∧f y=f x∧H'=upd H a (.lst hs')∧Uf hs' n f∧m'=y,fun σ' H' z=>z,?_⟩;have u2:=u1.put (x:=m) (g:=q) (by omega) (by omega) (fun z=>by omega);have i2:(h1.set m (.int (q:Int)))[m]?=some (.int (q:Int)):=Qck (by rw[u1.len];exact hy);refine⟨_,rfl,_,rfl,_,rfl,a,_,_,_,rfl,rfl,SqL.of g1,ZaK e1,a,_,_,_,rfl,rfl,SqL.of g1,ZaK d1,?_⟩;refine⟨_,rfl,_,rfl,a,h1,_,m,rfl,rfl,g1,ZmS (by rw[u1.len];exact hy),?_⟩;rw[Zqr];have g2:(upd H a (.lst (h1.set m (.int (q:Int))))) a=some (.lst (h1.set m (.int (q:Int)))):=Zad;exact⟨_,rfl,_,rfl,a,_,_,_,rfl,rfl,SqL.of g2,ZaK i2,q,by omega,q,_,rfl,by omega,by omega,rfl,u2,rfl⟩
 ·have c:g=m:=Decidable.not_not.mp fun z=>c (Qam z);have e:f m=m:=e4 (by omega);refine⟨_,rfl,?_⟩;have kk:=k h1 u1;rw[←ey,e] at kk;exact kk
def Zjt:Sp:=fun vs H Q _=>∃(pa:Addr)(n:Nat)(ps:List PR)(ya:List V),vs=[.int (n:Int),.ref pa]∧H pa=some (.lst ya)∧CpL H ya (ps.map pV)∧n≤60∧(∀p∈ps,ZdH (n:Int) p)∧∀(l:Addr)(f:Nat→Nat)(H':Hp),Hm ps n f→Zam H H'→H l=none→H' l=some (.lst ((List.range n).map fun(x:Nat)=>V.int ((f x:Nat):Int)))→Q (.ref l) H'
theorem ZgU {n x:Nat}{f:Nat→V}(h:x<n):((List.range n).map f)[x]?=some (f x):=by rw[Qao,QbZ h];rfl
theorem Zju {n:Nat}{ya:List V}(ha:H pa=some (.lst ya))(ca:CpL H ya (ps.map pV))(n6:n≤60)(ok:∀p∈ps,ZdH (n:Int) p)(k:∀(l:Addr)(f:Nat→Nat)(H':Hp),Hm ps n f→Zam H H'→H l=none→H' l=some (.lst ((List.range n).map fun(x:Nat)=>V.int ((f x:Nat):Int)))→Q (.ref l) H'):
  Ztl K {nx:=Z,rt:=Q } [some (.int (n:Int)),some (.ref pa),none,none,none,none,none,none,none,none] H:=by
 refine⟨_,rfl,n,rfl,by omega,by omega,fun r hr=>⟨r,n,rfl,Zad,by omega,by omega,fun a hal=> ?_⟩⟩;have s1:=Zam.nw (o:=.rng 0 (n:Int)) (Zam.refl H) hr;have fa:=s1.free hal;have s2:=Zam.nw (o:=.lst (List.map (fun(i:Nat)=>V.int (i:Int)) (List.range (n:Int).toNat))) s1 hal;have g2:(upd (upd H r (.rng 0 (n:Int))) a (.lst (List.map (fun(i:Nat)=>V.int (i:Int)) (List.range (n:Int).toNat)))) a=some (.lst (List.map (fun(i:Nat)=>V.int (i:Int)) (List.range (n:Int).toNat))):=Zad;generalize upd (upd H r (.rng 0 (n:Int))) a (.lst (List.map (fun(i:Nat)=>V.int (i:Int)) (List.range (n:Int).toNat)))=H2 at s2 g2⊢;have u0:Uf (List.map (fun(i:Nat)=>V.int (i:Int)) (List.range (n:Int).toNat)) n (fun x=>x):=⟨by rw[Qaf,Qa6];omega,fun x hx=>⟨x,ZgU (by omega),Qai _,rfl,fun _=>rfl⟩⟩;have yl:ya.length=ps.length:=by rw[ca.1,Qaf]
 refine⟨_,rfl,pa,rfl,⟨_,SqL.of (s2 _ _ ha)⟩,ZbL (K:=K) (a:=pa) (xs:=ya) (fun i σ H'=>∃(f:Nat→Nat)(hs:List V)(x3 x4 x5 x6 x7 x8 x9:Option V),σ=[some (.int (n:Int)),some (.ref pa),some (.ref a),x3,x4,x5,x6,x7,x8,x9]∧Zam H H'∧H' a=some (.lst hs)∧Uf hs n f∧Hm (ps.take i) n f) ⟨_,_,_,_,_,_,_,_,_,rfl,s2,g2,u0,Hm.nil n⟩ (fun i σ H' _ z=>by obtain⟨_,_,_,_,_,_,_,_,_,_,s',_⟩:=z;exact SqL.of (s' _ _ ha)) ?_ ?_⟩
 ·rintro i y σ H3 hy ⟨f,hs,x3,x4,x5,x6,x7,x8,x9,rfl,s3,h3,u3,m3⟩;obtain⟨q,p,ep,rfl,hq⟩:=ca.at' hy;obtain⟨lo,hi,lg,tn⟩:=p;obtain⟨o1,o2,o3,o4⟩:=ok _ (ZaU ep);have o1:0≤lo:=o1;have o2:lo≤hi:=o2;have o3:1≤lg:=o3;have o4:hi+lg≤n:=o4;refine⟨q,_,rfl,SqT.of (s3 _ _ hq),rfl,_,_,rfl,_,_,rfl,_,_,rfl,_,_,rfl,rfl,?_⟩;refine⟨_,rfl,lg,rfl,by omega,by omega,Zci (n:=lg.toNat) (fun j σ H'=>∃(f:Nat→Nat)(hs:List V)(x7 x8 x9:Option V),σ=[some (.int (n:Int)),some (.ref pa),some (.ref a),some (.int lo),some (.int hi),some (.int lg),some (.bl tn),x7,x8,x9]∧Zam H H'∧H' a=some (.lst hs)∧Uf hs n f∧Hm (ps.take i++(unL (lo,hi,lg,tn)).take j) n f) ⟨f,hs,_,_,_,rfl,s3,h3,u3,by rw[Qct,Qa5];exact m3⟩ ?_ ?_⟩
  ·rintro j σ H4 hj ⟨f,hs,x7,x8,x9,rfl,s4,h4,u4,m4⟩;have e1:∃A:Nat,lo+(0+(j:Int))=(A:Int)∧A<n:=⟨(lo+(j:Int)).toNat,by omega,by omega⟩;obtain⟨A,eA,hA⟩:=e1;refine⟨_,rfl,_,rfl,_,rfl,_,_,rfl,rfl,a,hs,n,A,f,by rw[←eA];rfl,h4,u4,hA,fun hs5 u5=> ?_⟩;have s5:=Zam.ow (o:=.lst hs5) s4 fa;have h5:(upd H4 a (.lst hs5)) a=some (.lst hs5):=Zad;generalize upd H4 a (.lst hs5)=H5 at s5 h5⊢;have e2:∃B:Nat,hi+(if tn=true then lg-1-(j:Int) else(j:Int))=(B:Int)∧B<n:=⟨(hi+(if tn=true then lg-1-(j:Int) else(j:Int))).toNat,by split<;>omega,by split<;>omega⟩;obtain⟨B,eB,hB⟩:=e2;refine⟨_,rfl,_,rfl,_,rfl,_,rfl,_,_,rfl,rfl,_,rfl,_,_,rfl,rfl,zL2,fun t ht=> ?_⟩;have s6:=Zam.nw (o:=.lst [.int (0+(j:Int)),.int (lg-1-(0+(j:Int)))]) s5 ht;have h6:(upd H5 t (.lst [.int (0+(j:Int)),.int (lg-1-(0+(j:Int)))])) a=some (.lst hs5):=(Zaq (Zar h5 ht)).trans h5;have g6:(upd H5 t (.lst [.int (0+(j:Int)),.int (lg-1-(0+(j:Int)))])) t=some (.lst [.int (0+(j:Int)),.int (lg-1-(0+(j:Int)))]):=Zad;generalize upd H5 t (.lst [.int (0+(j:Int)),.int (lg-1-(0+(j:Int)))])=H6 at s6 h6 g6⊢;refine⟨_,rfl,.inr ⟨tn,rfl,t,_,_,.int (if tn=true then lg-1-(j:Int) else(j:Int)),rfl,rfl,SqL.of g6,by cases tn<;>simp[atI,ixN],_,_,rfl,rfl,a,hs5,n,B,f,by rw[←eB];rfl,h6,u5,hB,fun hs7 u7=> ?_⟩⟩;have s7:=Zam.ow (o:=.lst hs7) s6 fa;have h7:(upd H6 a (.lst hs7)) a=some (.lst hs7):=Zad;generalize upd H6 a (.lst hs7)=H7 at s7 h7⊢;obtain⟨fA,_⟩:=m4.c A hA;obtain⟨fB,_⟩:=m4.c B hB;refine⟨_,rfl,_,rfl,_,_,rfl,_,rfl,_,rfl,_,rfl,_,_,rfl,a,hs7,_,max (f A) (f B),rfl,rfl,h7,?_,?_⟩
   ·rw[show(if((f B:Nat):Int)>((f A:Nat):Int) then((f B:Nat):Int) else((f A:Nat):Int))=((max (f A) (f B):Nat):Int) by split<;>omega];exact ZmS (by rw[u7.len];omega)
   ·rw[show(if((f B:Nat):Int)<((f A:Nat):Int) then((f B:Nat):Int) else((f A:Nat):Int))=((min (f A) (f B):Nat):Int) by split<;>omega];refine⟨_,_,_,_,_,rfl,Zam.ow s7 fa,Zad,u7.join m4 hA hB,?_⟩
    have eu:(unL (lo,hi,lg,tn))[j]?=some (unP A B):=by
     unfold unL;rw[Qao,QbZ hj,←eA,←eB,QbS];rfl
    rw[ZaJ eu,←Qa7];exact m4.link hA hB
  ·rintro σ H4 ⟨f,hs,x7,x8,x9,rfl,s4,h4,u4,m4⟩;refine⟨f,hs,_,_,_,_,_,_,_,rfl,s4,h4,u4,?_⟩;rw[show(unL (lo,hi,lg,tn)).take lg.toNat=unL (lo,hi,lg,tn) from Qbx (by unfold unL;rw[Qaf,Qa6];exact Qai _)] at m4;rw[ZaJ ep];exact m4.same fun x y=>Ztk.symm
 ·rintro σ H3 ⟨f,hs,x3,x4,x5,x6,x7,x8,x9,rfl,s3,h3,u3,m3⟩;rw[yl,Qa3] at m3;refine⟨_,rfl,n,rfl,by omega,by omega,?_⟩;refine Zou (lo:=0) (n:=(n:Int).toNat) (fun m ys H'=>ys=(List.range m).map (fun(x:Nat)=>V.int ((f x:Nat):Int))∧∃hs,Zam H H'∧H' a=some (.lst hs)∧Uf hs n f) ⟨rfl,hs,s3,h3,u3⟩ (by omega) (fun m ys H' z=>by rw[z.1,Qaf,Qa6];exact Qai _) ?_ ?_
  ·rintro m ys H4 pre qc hm ⟨rfl,hs4,s4,h4,u4⟩;rcases pre with _|⟨q0,_|⟨q1,pre⟩⟩
   ·cases qc
   ·refine⟨⟨[some _],rfl,rfl⟩,?_⟩;unfold Zes;dsimp only;rw[Qp (rfl:true=true)];refine⟨_,rfl,_,rfl,a,hs4,n,m,f,by rw[QbS];rfl,h4,u4,by omega,fun hs5 u5=>⟨?_,hs5,Zam.ow s4 fa,Zad,u5⟩⟩;rw[QeF,Qau];rfl
   ·cases qc
  ·rintro ys H4 ⟨rfl,hs4,s4,h4,u4⟩ D hD;exact k D f _ m3 (s4.nw hD) (s4.free hD) Zad
end
section
variable {qa:List (Addr×Obj)}{s:Shared}
theorem Inv.freeze {kvs:List (Key×V)}(I:Inv X qa σ H s)(e:H d=some (.dK kvs))(ho:s.heap.get? d=some o):Inv X qa σ (upd H d (.frz o (.dK kvs))) s:=by
 have nd:∀b u,H b=some u→u≠ .dK kvs→b≠d:=fun b u q n z=>by subst z;rw[e] at q;cases q;exact n rfl
 have h0:=I.hok d _ e;refine I.step (g':=s.gens) (d':=s.drawn) (t':=s.toks) (h':=s.heap) (ch:=[]) (fun _ z=>nomatch z) (fun b ob _ _ _ q _=>q) (fun b ob _ _ _ q _=>⟨ob.slots,q⟩) (fun b ob _ _ q=>by rw[Zaq (fun z=>by subst z;rw[e] at q;cases q)];exact q) (fun b ob _ q=>⟨ob,q⟩) (fun b xs q=>by rw[Zaq (nd b _ q (fun z=>nomatch z))];exact q) (fun b ob u q=>by rw[Zaq (nd b _ q (fun z=>nomatch z))];exact q) (fun b ps q=>⟨#[],by rw[Zaq (nd b _ q (fun z=>nomatch z)),Array.append_empty];exact q⟩) (fun m q=>q) ?_ I.bare;refine HOk.write (h':=s.heap) I.hok (x:=d) (e:=d) (by rw[e];trivial) (.inl rfl) (fun b u _ q=>q) ⟨o,ho⟩ ⟨ho,?_⟩;obtain⟨z,y,vs,r,dd⟩:=h0;exact⟨z,y,vs,r,dd⟩
theorem Ztm:∀{kvs:List (Key×V)} {vs:List (Key×Value)} {i:Nat} {k:Key} {v:V},KV kvs vs→kvs[i]?=some (k,v)→∃x,vs[i]?=some (k,x)
 |_,_,i,k,v,.nil,h=>by simp at h
 |_,_,0,k,v,.cons r t,h=>by
  simp only[Qel,Option.some.injEq] at h;subst h;exact⟨_,by rw[Qel];exact congrArg some (Prod.ext r.1.symm rfl)⟩
 |_,_,i+1,k,v,.cons r t,h=>by
  obtain⟨x,hx⟩:=Ztm (i:=i) t (by simpa using h);exact⟨x,by simpa using hx⟩
theorem Ztn {kvs:List (Key×V)}(h:KV kvs vs):kvs.length=vs.length:=by
 induction h with
 |nil=>rfl
 |cons r t ih=>rw[QaB,QaB,ih]
theorem Zto {P:Program}{k:Key}{u:Value}(h:(Za3 P w).is k u=true):Zbf (kV k) u:=by
 rcases Zbc h with⟨i,t,rfl,rfl⟩|⟨x,t,rfl,rfl⟩
 ·exact⟨t,rfl⟩
 ·exact⟨t,rfl⟩
def Itd (d:Addr)(o:Obj)(kvs:List (Key×V)):It:=
 ⟨fun i H=>H d=some (.frz o (.dK kvs))∧i<kvs.length,fun i H x H'=>H'=H∧∃k v,kvs[i]?=some (k,v)∧x=kV k,fun i H=>H d=some (.frz o (.dK kvs))∧kvs.length≤i⟩
theorem Znw {P:Program}{K:FJ}{h1:Heap}{kvs:List (Key×V)}{ep:Nat}(d it:Addr)(ho:h1.get? d=some o)(hd:h1.DictAt (Za3 P w) d vs ep)(rel:KV kvs vs):
  ZpS P w K tg (Itd d o kvs) [it] it (fun i h=>h.IsKeyIter it d i vs.length ep) where
 mem:=by simp
 obj:=fun i h st b hb=>by
  have e:b=it:=by simpa using hb
  subst e;obtain⟨ob,e,c,dt⟩:=st;exact⟨ob,e,fun v z=>by rw[dt] at z;cases z⟩
 keep:=fun i h h' st k=>by
  obtain⟨ob,e,r⟩:=st;exact⟨ob,k it (by simp) ob e,r⟩
 item:=by
  intro X hP hw hK hc i qa s σ H E I hf st hg;subst hP hw hK;obtain⟨hH,il⟩:=hg;have hod:=(I.hok d _ hH).1
  have dA:s.heap.DictAt (Za3 X.prog X.w) d vs ep:=by
   obtain⟨ob,es,e,r⟩:=hd;rw[ho] at e;cases e;exact⟨o,es,hod,r⟩
  obtain⟨⟨k,v⟩,hkv⟩:∃p,kvs[i]?=some p:=⟨_,Qad il⟩;obtain⟨x,hx⟩:=Ztm rel hkv;obtain⟨f0,f1,f2,f3,f4,f5⟩:=hf it (by simp);refine wpAny_pyNext_dict_item st dA hx fun key h' hkey st' sb=> ?_;have I1:Inv X qa σ H {s with heap:=h' }:=I.turned (t':=s.toks) (fun b ob hb e=>(sb.2 b hb).trans e) f0 f1 f3 f4 f5;obtain⟨ob,e,c,dt⟩:=id st';exact⟨key,rfl,Zof (s:={s with heap:=h' }) e c dt (by decide) ⟨kV k,H,I1,Zto hkey,⟨rfl,k,v,hkv,rfl⟩,st',fun b hb=>(hf b hb).1⟩⟩
 done:=by
  intro X hP hw hK hc i qa s σ H E I hf st hg;subst hP hw hK;obtain⟨hH,il⟩:=hg;have hod:=(I.hok d _ hH).1
  have dA:s.heap.DictAt (Za3 X.prog X.w) d vs ep:=by
   obtain⟨ob,es,e,r⟩:=hd;rw[ho] at e;cases e;exact⟨o,es,hod,r⟩
  obtain⟨f0,f1,f2,f3,f4,f5⟩:=hf it (by simp);exact wpAny_pyNext_dict_end (I.ok.hd hc) st dA (QaG (by have:=Ztn rel;omega)) fun h' eb=>⟨rfl,I.turned (t':=s.toks) (fun b ob hb e=>eb b ob hb e) f0 f1 f3 f4 f5⟩
 self:=fun _ _ _ _ _ st h=>wpAny_pyIter_keyiter st h
def Ztp (td:TE):TI:=fun σ H R=>td σ H fun x H1=>∃d kvs,x= .ref d∧H1 d=some (.dK kvs)∧∀o,R (Itd d o kvs) (upd H1 d (.frz o (.dK kvs)))
theorem Zrx {l:Expr}(hl:PE X l td):PI X tg l (Ztp td):=by
 intro qa s σ H R I h;refine thn (hl qa s σ H _ I h) fun v s1 ⟨x,H1,I1,r1,q1⟩=> ?_;obtain⟨d,kvs,e,hd,q⟩:=q1;subst e;cases r1;obtain⟨z,sm,vs,rel,dd⟩:=I1.hok d _ hd;obtain⟨ep,dA⟩:=dd.dictAt;obtain⟨o,es,ho,r⟩:=id dA;have I2:=I1.freeze hd ho;refine wpAny_pyIter_dict sm dA ?_;refine⟨s1.heap.objs.size,[s1.heap.objs.size],_,_,_,rfl,I2.kept (t':=s1.toks) fun b o e=>Qac _ e,Znw d _ ho dA rel,⟨_,Qat _ rfl,rfl,rfl⟩,fun b hb=> ?_,q o⟩;have e:b=s1.heap.objs.size:=by simpa using hb
 subst e;exact I2.fpOk (Qai _) (I2.hok.fresh (Qai _))
end
section
variable {K:FJ}
def Zjv (L:WL2):List (List Int):=L.flatMap fun e=>List.replicate e.1.toNat e.2
theorem Zfk (e:Int×List Int)(L:WL2):Zjv (e::L)=List.replicate e.1.toNat e.2++Zjv L:=List.flatMap_cons
theorem Zpp (A B:WL2):Zjv (A++B)=Zjv A++Zjv B:=List.flatMap_append
theorem ZgV:∀{L:WL2},(∀e∈L,0<e.1)→((Zjv L).length:Int)=tot L
 | [],_=>rfl
 |e::L,h=>by
  rw[Zfk,Qae,QaT,ZaD,←ZgV fun x hx=>h x (Qag _ hx)]
  have:=h e Qah;omega
theorem Znx:∀{L:WL2} {y:Nat},(∀e∈L,0<e.1)→(y:Int)<tot L→(Zjv L)[y]?=some (Toy.atW L (y:Int))
 | [],y,_,h=>absurd h (by show ¬(y:Int)<0;omega)
 | (m,u)::L,y,h,hy=>by
  have hm:=h (m,u) Qah;have hm:0<m:=hm;rw[Zfk];rw[ZaD] at hy;have hy:(y:Int)<m+tot L:=hy;by_cases c:(y:Int)<m
  ·rw[Qas (by rw[QaT];show y<m.toNat;omega),List.getElem?_replicate_of_lt (by show y<m.toNat;omega),Toy.atW_lt c]
  ·rw[Qaq (by rw[QaT];show m.toNat≤y;omega),QaT,Znx (fun x hx=>h x (Qag _ hx)) (by show((y-m.toNat:Nat):Int)<_;omega),Toy.atW_ge (by omega)];congr 2;show((y-m.toNat:Nat):Int)=_;omega
def Zry:Sp:=fun vs H Q _=>∃(pb:Addr)(yb:List V)(L:WL2),vs=[.ref pb]∧H pb=some (.lst yb)∧Wg H yb L∧(∀e∈L,0<e.1)∧tot L≤60∧∀(l:Addr)(zs:List V)(H':Hp),Zam H H'→H l=none→H' l=some (.lst zs)→TuL H' zs (Zjv L)→Q (.ref l) H'
def Zfl:Sp:=fun vs H Q _=>∃(p q:Addr)(us ws:List Int),vs=[.ref p,.ref q]∧H p=some (.tup (us.map V.int))∧H q=some (.tup (ws.map V.int))∧us.length≤100∧us.length=ws.length∧∀(r:Addr)(H':Hp),H r=none→H' r=some (.tup ((Toy.plusW us ws).map V.int))→Zam H H'→Q (.ref r) H'
def ZuQ (K:FJ):TS:=sQ1 (Zc0 Zap) 1 (ZaL (ZfJ (Zc7 K (Zag 0)) (Zcp K 2 Jaq) (ZbD (tBM K "list" ZiC (Zag 1) (Zaa (ZbU 1 (Zew (tQ1 2)) (Zan 0) Zes (Zag 4)) Zap)))) (ZbB (Zag 1)))
def Ztq (K:FJ):TS:=ZbB (tCB (Jaj K) (Zaa (ZbU 2 (ZqN K Jak) (Jao K) Zes (tOp Jaa (Zag 0) (Zag 1))) Zap))
theorem TuL.repK {H:Hp}{a:Addr}{u:List Int}(h:H a=some (.tup (u.map V.int))):∀n:Nat,TuL H (List.replicate n (.ref a)) (List.replicate n u)
 |0=>TuL.nil _
 |n+1=>by
  rw[Qcd,Qcd];exact TuL.snoc (TuL.repK h n) h
theorem TuL.appK {xs ys:List V}{us vs:List (List Int)}(h:TuL H xs us)(g:TuL H ys vs):TuL H (xs++ys) (us++vs):=by
 refine⟨by rw[Qae,Qae,h.1,g.1],fun i x e h1 h2=> ?_⟩;by_cases c:i<xs.length
 ·rw[Qas c] at h1;rw[Qas (by rw[←h.1];exact c)] at h2;exact h.2 i x e h1 h2
 ·rw[Qaq (by omega)] at h1;rw[Qaq (by rw[←h.1];omega),←h.1] at h2;exact g.2 _ x e h1 h2
theorem Ztr (h:∀e∈L,0<e.1):0≤tot L:=by rw[←ZgV h];omega
theorem Zny {yb:List V}(hb:H pb=some (.lst yb))(wb:Wg H yb L)(pos:∀e∈L,0<e.1)(t6:tot L≤60)(k:∀(l:Addr)(zs:List V)(H':Hp),Zam H H'→H l=none→H' l=some (.lst zs)→TuL H' zs (Zjv L)→Q (.ref l) H'):ZuQ K {nx:=Z,rt:=Q } [some (.ref pb),none,none,none] H:=by
 refine⟨zL0,fun r hr=> ?_⟩;have s0:=Zam.nw (o:=.lst []) (Zam.refl H) hr;have f0:(upd H r (.lst [])) r=some (.lst []):=Zad;generalize upd H r (.lst [])=H0 at s0 f0⊢;refine⟨_,rfl,pb,rfl,⟨_,SqL.of (s0 _ _ hb)⟩,ZbL (K:=K) (a:=pb) (xs:=yb) (fun i σ H'=>∃(zs:List V)(x2 x3:Option V),σ=[some (.ref pb),some (.ref r),x2,x3]∧Zam H H'∧H' r=some (.lst zs)∧TuL H' zs (Zjv (L.take i))) ⟨[],_,_,rfl,s0,f0,TuL.nil _⟩ (fun i σ H' _ z=>by obtain⟨_,_,_,_,s',_⟩:=z;exact SqL.of (s' _ _ hb)) ?_ ?_⟩
 ·rintro i y σ H1 hy ⟨zs,x2,x3,rfl,s1,hz,tz⟩;obtain⟨e,ee,q,w,rfl,hq,hw⟩:=(wb.up s1.tups).at' hy;have ep:=pos e (ZaU ee)
  have el:((Zjv (L.take i)).length:Int)+e.1≤60:=by
   rw[ZgV fun x hx=>pos x (Qbf hx)];have p1:=Ztr (L:=L.drop (i+1)) fun x hx=>pos x (Qbm hx)
   have p2:tot L=tot (L.take i)+(e.1+tot (L.drop (i+1))):=by
    have ed:L.drop i=e::L.drop (i+1):=by
     obtain⟨h1,h2⟩:=Qab.mp ee;rw[←h2];exact Qb5 h1
    conv=>lhs;rw[←Qcr i L,ed]
    unfold tot;rw[Qau,Qc3,QaD,Qbn]
   omega
  have lz:zs.length=(Zjv (L.take i)).length:=tz.1;refine⟨q,_,rfl,SqT.of hq,rfl,_,_,rfl,_,_,rfl,rfl,?_⟩;refine⟨_,rfl,.inl ⟨rfl,_,SqL.of hz⟩,_,rfl,e.1,rfl,by omega,by omega,Zou (lo:=0) (n:=e.1.toNat) (fun m us H'=>us=List.replicate m (.ref w)∧H1=H') ⟨rfl,rfl⟩ (by omega) (fun m us H' z=>by rw[z.1,QaT];exact Qai _) ?_ ?_⟩
  ·rintro m us H2 pre qc hm ⟨rfl,rfl⟩;rcases pre with _|⟨q0,_|⟨q1,pre⟩⟩
   ·cases qc
   ·refine⟨⟨[some _],rfl,rfl⟩,?_⟩;unfold Zes;dsimp only;rw[Qp (rfl:true=true)];exact⟨_,rfl,Qcd.symm,rfl⟩
   ·cases qc
  ·rintro us H2 ⟨rfl,rfl⟩ D hD;have s2:=Zam.nw (o:=.lst (List.replicate e.1.toNat (V.ref w))) (Zam.refl H1) hD;have fD:(upd H1 D (.lst (List.replicate e.1.toNat (V.ref w)))) D=some (.lst (List.replicate e.1.toNat (V.ref w))):=Zad;generalize upd H1 D (.lst (List.replicate e.1.toNat (V.ref w)))=H2 at s2 fD⊢;have z2:=s2 _ _ hz;refine⟨r,D,zs,_,rfl,rfl,z2,fD,QbH (ZgJ (by rw[QaT];omega)),?_⟩;have tp:Za7 H2 (upd H2 r (.lst (zs++List.replicate e.1.toNat (V.ref w)))):=(Za7.refl _).lst z2;refine⟨_,_,_,rfl,Zam.ow (s1.trans s2) hr,Zad,?_⟩;rw[ZaJ ee,Zpp,Zfk,show Zjv []=[] from rfl,Qa5];exact(tz.up (s2.tups.trans tp)).appK (TuL.repK (tp _ _ (s2 _ _ hw)) _)
 ·rintro σ H1 ⟨zs,x2,x3,rfl,s1,hz,tz⟩;rw[wb.1,Qa3] at tz;exact⟨_,rfl,k r zs H1 s1 hr hz tz⟩
theorem ZfZ {p:Addr}{us ws:List Int}(hp:H p=some (.tup (us.map V.int)))(hq:H q=some (.tup (ws.map V.int)))(hl:us.length≤100)(he:us.length=ws.length)(k:∀(r:Addr)(H':Hp),H r=none→H' r=some (.tup ((Toy.plusW us ws).map V.int))→Zam H H'→Q (.ref r) H'):Ztq K {nx:=Z,rt:=Q } [some (.ref p),some (.ref q)] H:=by
 refine⟨_,rfl,_,rfl,p,q,rfl,⟨_,SqT.of hp⟩,⟨_,SqT.of hq⟩,ZpY (K:=K) (a:=p) (b:=q) (xs:=us.map V.int) (ys:=ws.map V.int) (n:=us.length) (fun i zs H'=>zs=((Toy.plusW us ws).take i).map V.int∧Zam H H') ⟨rfl,Zam.refl H⟩ (by rw[Qaf,Qaf,←he,QdR]) (by omega) (fun i zs H' h=>by rw[h.1,Qaf,Qax];omega) (fun i zs H' _ h=>⟨SqT.of (h.2 _ _ hp),SqT.of (h.2 _ _ hq)⟩) ?_ ?_⟩
 ·rintro i x y zs H' pre r qc hx hy ⟨rfl,s1⟩ hr'
  have hx':∀{us:List Int} {x:V},(us.map V.int)[i]?=some x→∃m,us[i]?=some m∧x=V.int m:=fun{us x} hx=>by
   rw[Qao] at hx
   cases zz:us[i]? with
   |none=>rw[zz] at hx;cases hx
   |some m=>rw[zz] at hx;cases hx;exact⟨m,rfl,rfl⟩
  obtain⟨m,hm,rfl⟩:=hx' hx;obtain⟨m',hm',rfl⟩:=hx' hy;rcases pre with _|⟨p0,_|⟨p1,_|⟨p2,pre⟩⟩⟩
  ·cases qc
  ·cases qc
  ·refine⟨r,_,rfl,SqT.of Zad,rfl,_,_,rfl,_,_,rfl,rfl,⟨[some _,some _],rfl,rfl⟩,?_⟩;unfold Zes;dsimp only;rw[Qp (rfl:true=true)];refine⟨_,rfl,_,rfl,_,_,rfl,rfl,?_,Zam.nw s1 hr'⟩;have ez:(Toy.plusW us ws)[i]?=some (m+m'):=by unfold Toy.plusW;rw[QcK,hm,hm']
   rw[ZaJ ez,Qau];rfl
  ·cases qc
 ·rintro zs H' ⟨rfl,s1⟩ D hD;have et:(Toy.plusW us ws).take us.length=Toy.plusW us ws:=Qbx (by unfold Toy.plusW;rw[Qb1];omega);rw[et];refine⟨D,_,rfl,.inl ⟨SqL.of Zad,fun l hl'=> ?_⟩⟩;have s2:=Zam.nw (o:=.lst ((Toy.plusW us ws).map V.int)) s1 hD;exact k l _ (Zam.free s2 hl') Zad (Zam.nw s2 hl')
theorem Zpq {kvs:List (Key×V)}{g:TG}{tb:TS}{D:ZlJ}(Pv:Nat→St→Hp→Prop)(h0:Pv 0 σ H)(hl:∀i σ H,i≤kvs.length→Pv i σ H→H d=some (.frz o (.dK kvs)))
  (hs:∀i k v σ H,kvs[i]?=some (k,v)→Pv i σ H→g (kV k) σ H fun σ2 H2=>tb {D with nx:=Pv (i+1),ct:=Pv (i+1),bk:=D.nx } σ2 H2) (hd:∀σ H,Pv kvs.length σ H→D.nx σ H):
  ∃W:Nat→Nat→St→Hp→Prop,(∃m,W 0 m σ H)∧∀i m σ H,W i m σ H→
   ((Itd d o kvs).stop i H∧D.nx σ H)∨((Itd d o kvs).go i H∧∃N:St→Hp→Prop,(∀σ' H',N σ' H'→∃m',m'<m∧W (i+1) m' σ' H')∧∀x H',(Itd d o kvs).yld i H x H'→g x σ H' fun σ2 H2=>tb {D with nx:=N,ct:=N,bk:=D.nx } σ2 H2):=by
 refine⟨fun i m σ H=>m=kvs.length-i∧i≤kvs.length∧Pv i σ H,⟨kvs.length,by simp,QaS _,h0⟩,?_⟩;rintro i m σ H ⟨rfl,hi,p⟩;have q:=hl i σ H hi p;by_cases hlt:i<kvs.length
 ·refine .inr ⟨⟨q,hlt⟩,Pv (i+1),fun σ' H' p'=>⟨kvs.length-(i+1),by omega,rfl,hlt,p'⟩,fun x H' y=> ?_⟩;obtain⟨e,k,v,ek,rfl⟩:=y;subst e;exact hs i k v σ _ ek p
 ·have e:i=kvs.length:=by omega
  subst e;exact .inl ⟨⟨q,Qai _⟩,hd σ H p⟩
end
section
variable {K:FJ}
def rts (m:Nat)(f:Nat→Nat):List Nat:=(List.range m).filter fun r=>decide (f r=r)
def kyI (r:Nat):Key:=.inl (r:Int)
theorem Zjw {a b:Nat}(h:kyI a=kyI b):a=b:=Int.ofNat.inj (Sum.inl.inj h)
def ShI (H:Hp)(ds:Addr)(m wd:Nat)(f:Nat→Nat)(W:Nat→Nat→Int)(kvs:List (Key×V)):Prop:=kvs.map (·.1)=(rts m f).map kyI∧∀r∈rts m f,∃w:Addr,Zc5 kvs (kyI r)=some (.ref w)∧H w=some (.tup ((rmW m wd f W r).map V.int))
theorem ShI.up {kvs:List (Key×V)}(h:ShI H ds m wd f W kvs)(t:Za7 H H'):ShI H' ds m wd f W kvs:=⟨h.1,fun r hr=>by
 obtain⟨w,e,g⟩:=h.2 r hr
 exact⟨w,e,t _ _ g⟩⟩
theorem ZgW :r∈rts m f↔r<m∧f r=r:=by unfold rts;rw[Qdy,QbD,Qcf]
theorem Zky (m:Nat)(f:Nat→Nat):rts (m+1) f=rts m f++if f m=m then [m] else []:=by
 unfold rts;rw[QeF,Qcq];congr 1;by_cases c:f m=m
 ·rw[Qp c];simp[c]
 ·rw[Qn c];simp[c]
theorem Zpr {kvs:List (Key×V)}{k:Key}:(∃v,Zc5 kvs k=some v)↔k∈kvs.map (·.1):=by
 induction kvs with
 |nil=>exact⟨fun⟨v,h⟩=>(by cases h),fun h=>(by cases h)⟩
 |cons x kvs ih=>
  obtain⟨k0,v0⟩:=x;rw[QaD,Qaw];by_cases c:k0=k
  ·exact⟨fun _=> .inl c.symm,fun _=>⟨v0,Zby c⟩⟩
  ·rw[Zbz c,ih];exact⟨.inr,fun h=>h.resolve_left fun z=>c z.symm⟩
theorem Zkz :rmW (m+1) wd f W r=if f m=r then Toy.plusW (rmW m wd f W r) ((List.range wd).map (W m)) else rmW m wd f W r:=by
 unfold rmW Toy.plusW;by_cases c:f m=r
 ·rw[Qp c];refine Qcx fun i=> ?_;rw[QcK,Qao,Qao,Qao];by_cases d:i<wd
  ·rw[QbZ d];show some (sN (m+1) _)=some (_+_);rw[Zbp,Qp c]
  ·rw[QaG (by rw[Qa6];omega)];rfl
 ·rw[Qn c];refine QaO fun i _=> ?_;rw[Zbp,Qn c,QbB]
theorem Zrz (h:∀y<m,f y≠r):rmW m wd f W r=(List.range wd).map fun _=>0:=by
 unfold rmW;refine QaO fun i _=> ?_;rw[ZcG (h:=fun _=>0) fun y hy=>Qn (h y hy),ZcU]
theorem Znz :Toy.plusW ((List.range wd).map fun _=>0) ((List.range wd).map g)=(List.range wd).map g:=by
 unfold Toy.plusW;refine Qcx fun i=> ?_;rw[QcK,Qao,Qao];by_cases d:i<wd
 ·rw[QbZ d];show some ((0:Int)+_)=some _;rw[QbS]
 ·rw[QaG (by rw[Qa6];omega)];rfl
theorem ShI.step {kvs:List (Key×V)}(h:ShI H ds m wd f W kvs)(t:Za7 H H')(fl:∀y<m,f y≤y)(fm:f m≤m)(ff:f (f m)=f m){w:Addr}(hw:H' w=some (.tup ((rmW (m+1) wd f W (f m)).map V.int))):ShI H' ds (m+1) wd f W (Zc3 kvs (kyI (f m)) (.ref w)):=by
 have hin:(kvs.any fun kv=>decide (kv.1=kyI (f m)))=true↔f m∈rts m f:=by
  rw[Qdm];constructor
  ·rintro⟨x,hx,e⟩
   have:x.1∈kvs.map (·.1):=QcE hx;rw[h.1,Qar e] at this;obtain⟨r,hr,er⟩:=QaR.mp this;rw[←Zjw er];exact hr
  ·intro hr
   have:kyI (f m)∈kvs.map (·.1):=by rw[h.1];exact QcE hr
   obtain⟨x,hx,e⟩:=QaR.mp this;exact⟨x,hx,Qam e⟩
 refine⟨?_,fun r hr=> ?_⟩
 ·rw[Zky,Qau,←h.1];unfold Zc3;by_cases c:f m∈rts m f
  ·rw[Qp (hin.mpr c),Qn (show ¬f m=m by have:=(ZgW.mp c).1;omega),Qez,Qa5,Qbc];refine QaO fun x _=> ?_;show(if x.1=_ then _ else x).1=x.1;split<;>rfl
  ·rw[Qn (fun z=>c (hin.mp z)),Qp (show f m=m from QcT fun z=>c (ZgW.mpr ⟨by omega,ff⟩)),Qau];have e:f m=m:=QcT fun z=>c (ZgW.mpr ⟨by omega,ff⟩);rw[e];rfl
 ·by_cases c:r=f m
  ·subst c;exact⟨w,by rw[Zgk,Qp rfl],hw⟩
  ·rw[Zgk,Qn fun z=>c (Zjw z)]
   have hr':r∈rts m f:=by
    rw[Zky,Qap] at hr;refine hr.resolve_right fun z=> ?_;split at z
    ·rename_i e;exact c (by rw[Qal.mp z,e])
    ·cases z
   obtain⟨w',e',g'⟩:=h.2 r hr';refine⟨w',e',?_⟩;rw[Zkz,Qn fun z=>c z.symm];exact t _ _ g'
def ZgX:Sp:=fun vs H Q _=>∃(a pa pb:Addr)(n:Int)(ps:List PR)(L:WL2)(ya yb:List V)(wd:Nat),vs=[.ref a]∧ZaS H a pa pb n ps L ya yb∧Sm n ps L wd∧∀(l:Addr)(f:Nat→Nat)(zs:List V)(ws:List (List Int×Int))(H':Hp),Hm ps n.toNat f→Zam H H'→H l=none→H' l=some (.lst zs)→PrL H' zs ws→Zbs (Zb8 (rmL n.toNat wd f (Wc L))) ws→Q (.ref l) H'
def ZrA (K:FJ):TS:=sQ1 (Zau Zjt [] E0 (Zaa (Jap K) (Zaa (tOp (ZbO K) (Zag 0) (iQ1 1)) Zap))) 1 (sQ1 (Zau Zry [] E0 (Zaa (tOp (ZbO K) (Zag 0) (iQ1 2)) Zap)) 2 (sQ1 Zp3 3 (ZaL (ZfJ (Zew (Zaa (Jap K) Zap)) (Zan 4) (sQ1 (Zp4 (Zag 3) (tOp (Zcu K) (Zag 1) (Zag 4))) 5 (ZoA (Zag 3) (tOp (Zcu K) (Zag 1) (Zag 4)) (tIf (tB (Zuu (Zag 5))) (tOp (Zcu K) (Zag 2) (Zag 4)) (Zau Zfl [] E0 (Zaa (Zag 5) (Zaa (tOp (Zcu K) (Zag 2) (Zag 4)) Zap))))))) (sQ1 Zmv 6 (ZaL (ZfJ (Ztp (Zag 3)) (Zan 7) (ZoA (Zag 6) (ZqT (Zag 3) (Zag 7)) (tOp Jaa (Zmw (Zag 6) (ZqT (Zag 3) (Zag 7)) (iQ1 0)) (iQ1 1)))) (ZbB (tCB (fun xs H Q=>∃v d ks,xs=[V.ref v]∧H v=some (HO.ext (ZhP v d))∧H d=some (HO.dT (List.map (fun k=>(List.map Sum.inl k.fst,V.int k.snd)) ks))∧ks.length<64∧∀(l:Addr)(ps:List V)(ws:List (List Int×Int))(H':Hp),H l=none→(∀(b:Addr)(o:HO),H b=some o→H' b=some o)→H' l=some (HO.lst ps)→PrL H' ps ws→ws.Perm ks→List.Pairwise (fun x y=>Zb9 y.fst x.fst=false) ws→Q (V.ref l) H') (Zaa (ZiS (Zag 6)) Zap))))))))
theorem Zup {y:Nat}(sum:tot L=n)(wid:∀d∈L,d.2.length=wd)(hy:(y:Int)<n):(List.range wd).map (Wc L y)=Toy.atW L (y:Int):=by
 have hl:(Toy.atW L (y:Int)).length=wd:=Toy.atW_lenC wid (by rw[sum];omega) (by omega);refine Qcx fun i=> ?_;rw[Qao];by_cases d:i<wd
 ·rw[QbZ d,Qad (by rw[hl];exact d)];show some (Toy.co _ i)=_;unfold Toy.co;rw[Qaz,Qad (by rw[hl];exact d)];rfl
 ·rw[QaG (by rw[Qa6];omega),QaG (by rw[hl];omega)];rfl
theorem Zif {ya yb:List V}(h:ZaS H a pa pb n ps L ya yb)(sm:Sm n ps L wd)(k:∀(l:Addr)(f:Nat→Nat)(zs:List V)(ws:List (List Int×Int))(H':Hp),Hm ps n.toNat f→Zam H H'→H l=none→H' l=some (.lst zs)→PrL H' zs ws→Zbs (Zb8 (rmL n.toNat wd f (Wc L))) ws→Q (.ref l) H'):
  ZrA K {nx:=Z,rt:=Q } [some (.ref a),none,none,none,none,none,none,none] H:=by
 have n0:=sm.n0;have n6:=sm.n6;have en:((n.toNat:Nat):Int)=n:=Qbe n0;have pos:=ZbG.pos sm.nrm;refine⟨_,rfl,a,_,_,_,rfl,rfl,SqT.of h.h,rfl,_,rfl,a,_,_,_,rfl,rfl,SqT.of h.h,rfl,pa,n.toNat,ps,ya,by rw[en];rfl,h.ha,h.ca,by omega,by rw[en];exact sm.prs,fun lh f H1 hm s1 fh hh=> ?_⟩;refine⟨_,rfl,a,_,_,_,rfl,rfl,SqT.of (s1 _ _ h.h),rfl,pb,yb,L,rfl,s1 _ _ h.hb,h.wb.up s1.tups,pos,by rw[sm.sum];exact n6,fun lw zw H2 s2 fw hw tw=>fun ds hds=> ?_⟩;have s02:=s1.trans s2;have hh2:=s2 _ _ hh;have fd:=s02.free hds;have fl:∀y<n.toNat,f y≤y:=fun y hy=>hm.lt hy;have s3:=Zam.nw (o:=.dK []) s02 hds;have g3:(upd H2 ds (.dK [])) ds=some (.dK []):=Zad;have hh3:(upd H2 ds (.dK [])) lh=_:=(Zaq (Zar hh2 hds)).trans hh2;have hw3:(upd H2 ds (.dK [])) lw=_:=(Zaq (Zar hw hds)).trans hw;have tw3:=tw.up (Zam.nw (o:=.dK []) (Zam.refl H2) hds).tups;have nlh:lh≠ds:=Zar hh2 hds;have nlw:lw≠ds:=Zar hw hds;generalize upd H2 ds (.dK [])=H3 at s3 g3 hh3 hw3 tw3⊢;have i0:ShI H3 ds 0 wd f (Wc L) []:=⟨rfl,fun r hr=>by cases hr⟩;refine⟨_,rfl,a,_,_,_,rfl,rfl,SqT.of (s3 _ _ h.h),rfl,n,rfl,by omega,by omega,Zci (n:=n.toNat) (fun m σ H'=>∃(kvs:List (Key×V))(x4 x5:Option V),σ=[some (.ref a),some (.ref lh),some (.ref lw),some (.ref ds),x4,x5,none,none]∧Zam H H'∧H' ds=some (.dK kvs)∧ShI H' ds m wd f (Wc L) kvs∧H' lh=some (.lst ((List.range n.toNat).map fun(x:Nat)=>V.int ((f x:Nat):Int)))∧H' lw=some (.lst zw)∧TuL H' zw (Zjv L)) ⟨[],_,_,rfl,s3,g3,i0,hh3,hw3,tw3⟩ ?_ ?_⟩
 ·rintro m σ H4 hmn ⟨kvs,x4,x5,rfl,s4,g4,i4,hh4,hw4,tw4⟩;have fm:=fl m hmn;have ff:=hm.ff hmn;have em:V.int (0+(m:Int))=V.int (m:Int):=by rw[QbS]
  rw[em]
  have lk:kvs.length≤60:=by
   have:kvs.length=(rts m f).length:=by rw[←Qaf (f:=(·.1)),i4.1,Qaf]
   have l2:(rts m f).length≤m:=by unfold rts;refine QaW (Qdi _ _) ?_;rw[Qa6];exact Qai _
   omega
  have dg:ZfT H4 ds (V.int ((f m:Nat):Int)) (Zc5 kvs (kyI (f m))):=ZfT.k (k:=kyI (f m)) g4;obtain⟨q,hq,eq⟩:=tw4.get (Znx pos (y:=m) (by rw[sm.sum];omega));refine⟨_,rfl,ds,rfl,.inl ⟨_,.inl g4⟩,_,rfl,_,rfl,lh,_,_,_,rfl,rfl,SqL.of hh4,ZaK (ZgU hmn),_,dg,?_⟩
  have fin:∀(x5:Option V)(w:Addr)(H5:Hp),Zam H4 H5→H5 w=some (.tup ((rmW (m+1) wd f (Wc L) (f m)).map V.int))→∃(b:Addr)(H6:Hp),V.ref ds=V.ref b∧ZlL H5 b (V.int ((f m:Nat):Int)) (.ref w) H6∧∃(kvs:List (Key×V))(x4' x5':Option V),[some (V.ref a),some (.ref lh),some (.ref lw),some (.ref ds),some (V.int (m:Int)),x5,none,none]=[some (V.ref a),some (.ref lh),some (.ref lw),some (.ref ds),x4',x5',none,none]∧Zam H H6∧H6 ds=some (.dK kvs)∧ShI H6 ds (m+1) wd f (Wc L) kvs∧H6 lh=some (.lst ((List.range n.toNat).map fun(x:Nat)=>V.int ((f x:Nat):Int)))∧H6 lw=some (.lst zw)∧TuL H6 zw (Zjv L):=fun x5 w H5 s5 hw5=>by
   have tp:Za7 H5 (upd H5 ds (.dK (Zc3 kvs (kyI (f m)) (.ref w)))):=fun b vs e=>by
    rw[Zaq]
    ·exact e
    ·rintro rfl;rw[s5 _ _ g4] at e;cases e
   refine⟨ds,_,rfl,ZlL.k (k:=kyI (f m)) (s5 _ _ g4) (QaF lk (by decide)),Zc3 kvs (kyI (f m)) (.ref w),_,_,rfl,Zam.ow (s4.trans s5) fd,Zad,i4.step (s5.tups.trans tp) (fun y hy=>fl y (by omega)) fm ff (tp _ _ hw5),?_,?_,tw4.up (s5.tups.trans tp)⟩
   ·rw[Zaq nlh];exact s5 _ _ hh4
   ·rw[Zaq nlw];exact s5 _ _ hw4
  have ew:=Zup sm.sum sm.wid (y:=m) (by omega);rw[←ew] at hq;have es:=Zkz (m:=m) (wd:=wd) (f:=f) (W:=Wc L) (r:=f m);rw[Qp rfl] at es
  cases hv:Zc5 kvs (kyI (f m)) with
  |none=>
   refine⟨_,rfl,_,rfl,Zcl ⟨_,rfl,_,rfl,lw,_,_,_,rfl,rfl,SqL.of hw4,ZaK eq,_,rfl,_,rfl,_,rfl,lh,_,_,_,rfl,rfl,SqL.of hh4,ZaK (ZgU hmn),fin _ q H4 (Zam.refl _) ?_⟩⟩
   have e:f m=m:=QcT fun z=>by
    obtain⟨w,e1,_⟩:=i4.2 (f m) (ZgW.mpr ⟨by omega,ff⟩);rw[hv] at e1;cases e1
   rw[es,Zrz fun y hy z=>by have:=fl y (by omega);omega,Znz];exact hq
  |some v=>
   have mem:f m∈rts m f:=by
    have:=(Zpr (kvs:=kvs)).mp ⟨v,hv⟩;rw[i4.1] at this;obtain⟨r,hr,er⟩:=QaR.mp this;rw[←Zjw er];exact hr
   obtain⟨w,e1,hw⟩:=i4.2 (f m) mem;rw[hv] at e1;cases e1;have l1:(rmW m wd f (Wc L) (f m)).length=wd:=by unfold rmW;rw[Qaf,Qa6]
   have l2:((List.range wd).map (Wc L m)).length=wd:=by rw[Qaf,Qa6]
   have w2:=sm.w2;refine⟨_,rfl,_,rfl,Zcd ⟨_,rfl,_,rfl,_,rfl,lw,_,_,_,rfl,rfl,SqL.of hw4,ZaK eq,w,q,_,_,rfl,hw,hq,by rw[l1];omega,by rw[l1,l2],fun r H5 _ hr5 s5=> ?_⟩⟩;refine⟨_,rfl,_,rfl,_,rfl,lh,_,_,_,rfl,rfl,SqL.of (s5 _ _ hh4),ZaK (ZgU hmn),fin _ r H5 s5 ?_⟩;rw[es];exact hr5
 ·rintro σ H4 ⟨kvs,x4,x5,rfl,s4,g4,i4,_,_,_⟩;refine fun dt hdt=> ?_;have fdt:=s4.free hdt;have ndd:ds≠dt:=Zar g4 hdt;have s5:=Zam.nw (o:=.dT []) s4 hdt;have g5:(upd H4 dt (.dT [])) ds=some (.dK kvs):=(Zaq ndd).trans g4;have f5:(upd H4 dt (.dT [])) dt=some (.dT (([]:List (List Int×Int)).map emb)):=Zad;have i5:=i4.up (Zam.nw (o:=.dT []) (Zam.refl H4) hdt).tups;generalize upd H4 dt (.dT [])=H5 at s5 g5 f5 i5⊢;refine⟨_,rfl,ds,kvs,rfl,g5,fun o=> ?_⟩;have s6:=Zam.ow (o:=.frz o (.dK kvs)) s5 fd;have g6:(upd H5 ds (.frz o (.dK kvs))) ds=some (.frz o (.dK kvs)):=Zad;have f6:(upd H5 ds (.frz o (.dK kvs))) dt=some (.dT (([]:List (List Int×Int)).map emb)):=(Zaq ndd.symm).trans f5
  have t6:Za7 H5 (upd H5 ds (.frz o (.dK kvs))):=fun b vs e=>by
   rw[Zaq]
   ·exact e
   ·rintro rfl;rw[g5] at e;cases e
  have i6:=i5.up t6;generalize upd H5 ds (.frz o (.dK kvs))=H6 at s6 g6 f6 i6⊢;have kl:kvs.length=(rts n.toNat f).length:=by rw[←Qaf (f:=(·.1)),i4.1,Qaf]
  have rl:(rts n.toNat f).length≤n.toNat:=by unfold rts;refine QaW (Qdi _ _) ?_;rw[Qa6];exact Qai _
  refine Zpq (d:=ds) (o:=o) (kvs:=kvs) (fun i σ H'=>∃(ks:List (List Int×Int))(x7:Option V),σ=[some (.ref a),some (.ref lh),some (.ref lw),some (.ref ds),x4,x5,some (.ref dt),x7]∧Zam H H'∧H' ds=some (.frz o (.dK kvs))∧H' dt=some (.dT (ks.map emb))∧DIs (Zb8 (((rts n.toNat f).take i).map (rmW n.toNat wd f (Wc L)))) ks∧ShI H' ds n.toNat wd f (Wc L) kvs) ⟨[],_,rfl,s6,g6,f6,DIs.nil,i6⟩ (fun i σ H' _ z=>by obtain⟨_,_,_,_,g,_⟩:=z;exact g) ?_ ?_
  ·rintro i k0 v σ H7 hk ⟨ks,x7,rfl,s7,g7,f7,D7,i7⟩;have il:i<kvs.length:=(Qab.mp hk).1;obtain⟨r,er⟩:∃r,(rts n.toNat f)[i]?=some r:=⟨_,Qad (by omega)⟩
   have ek:k0=kyI r:=by
    have e1:(kvs.map (·.1))[i]?=some k0:=by rw[Qao,hk];rfl
    rw[i7.1,Qao,er] at e1;exact(QbA e1).symm
   subst ek;obtain⟨w,ew,hw⟩:=i7.2 r (ZaU er);generalize hu:rmW n.toNat wd f (Wc L) r=u at hw;have hw':H7 w=some (.tup ((u.map Sum.inl).map kV)):=by rw[Qbc];exact hw
   have dg:ZfT H7 ds (kV (kyI r)) (some (.ref w)):=.inl ⟨kvs,kyI r,.inr ⟨o,g7⟩,rfl,ew.symm⟩
   have kl2:ks.length≤60:=by
    have:=D7.len;unfold Zb8 at this;rw[Qaf,Qaf,Qax] at this;omega
   refine⟨_,rfl,dt,rfl,.inr ⟨_,.inl f7⟩,_,rfl,_,rfl,ds,.ref w,rfl,dg,_,ZfT.t (k:=u.map Sum.inl) f7 hw',ZfV ks u,1,ZmP ks u,rfl,?_⟩;refine⟨_,rfl,_,rfl,_,rfl,ds,.ref w,rfl,dg,dt,_,rfl,ZlL.t (k:=u.map Sum.inl) f7 hw' (QaF (by rw[Qaf];exact kl2:(ks.map emb).length≤60) (by decide)),?_⟩
   have tp:Za7 H7 (upd H7 dt (.dT (Zc3 (ks.map emb) (u.map Sum.inl) (.int (ZfV ks u+1))))):=fun b vs e=>by
    rw[Zaq]
    ·exact e
    ·rintro rfl;rw[f7] at e;cases e
   refine⟨ZmN ks u (ZfV ks u+1),_,rfl,Zam.ow s7 fdt,(Zaq ndd).trans g7,?_,?_,i7.up tp⟩
   ·rw[Zad];exact congrArg (fun z=>some (HO.dT z)) (ZmO ks u (ZfV ks u+1))
   ·have e2:Zb8 (((rts n.toNat f).take (i+1)).map (rmW n.toNat wd f (Wc L)))=Zb8 (((rts n.toNat f).take i).map (rmW n.toNat wd f (Wc L)))++ [(1,u)]:=by
     unfold Zb8;rw[ZaJ er,Qau,Qau,←hu];rfl
    rw[e2];exact D7.put (1,u)
  ·rintro σ H7 ⟨ks,x7,rfl,s7,g7,f7,D7,_⟩;rw[Qbx (by omega)] at D7;have kl2:=D7.len;unfold Zb8 at kl2;rw[Qaf,Qaf] at kl2;refine⟨_,rfl,dt,_,rfl,f7,fun v hv=>⟨v,dt,ks,rfl,Zad,?_,by omega,fun l ps2 ws H' f1 old h2 pr pm sr=> ?_⟩⟩
   ·rw[Zaq (Zar f7 hv)];exact f7
   ·have s8:=Zam.nw (o:=.ext (ZhP v dt)) s7 hv;have s9:Zam H H':=s8.trans fun b o q=>old b o q;exact k l f ps2 ws H' hm s9 (s8.free f1) h2 pr (Zkl D7 pm sr)
end
section
variable {K:FJ}
def Zjx (K:FJ):Sp:=fun vs H Q _=>∃(a:Addr)(ns:List Int)(at0:Nat),vs=[.ref a,.int (at0:Int)]∧SqL K H a (ns.map V.int)∧∀(c pa pb:Addr)(n:Int)(ps:List PR)(L:WL2)(ya yb:List V)(wd:Nat)(H':Hp),Zam H H'→ZaS H' c pa pb n ps L ya yb→Sm n ps L wd→Q (.ref c) H'
def Zts (K:FJ):TS:=sQ1 (Zc0 (Zaa (Zau (Zdy K) [] E0 Jak) Zap)) 2 (sQ1 (tOp Jag (Zau (Zdy K) [] E0 (Zaa (Zag 0) (Zaa (tOp Jaa (Zag 1) (iQ1 1)) Zap))) (tOp (Zcu K) (Zc0 (Zaa (iQ1 13) (Zaa (iQ1 25) (Zaa (iQ1 41) (Zaa (iQ1 61) Zap))))) (Zau Zbd [] E0 (Zaa (Zag 2) (Zaa (iQ1 4) Zap))))) 3 (sQ1 (tOp (Zcu K) (Zc0 (Zaa (Zau Zbd [] E0 (Zaa (Zag 2) (Zaa (iQ1 5) Zap))) (Zaa (Zau Zbd [] E0 (Zaa (Zag 2) (Zaa (iQ1 7) Zap))) (Zaa (iQ1 3) (Zaa (Zau Zbd [] E0 (Zaa (Zag 2) (Zaa (iQ1 9) Zap))) Zap))))) (Zau Zbd [] E0 (Zaa (Zag 2) (Zaa (iQ1 4) Zap)))) 4 (sQ1 (Zau (Zgq K) [] E0 (Zaa (Zag 3) (Zaa (Zau Zbd [] E0 (Zaa (Zag 2) (Zaa (iQ1 1000) Zap))) (Zaa (Zag 0) (Zaa (tOp Jaa (Zag 1) (iQ1 2)) Zap))))) 5 (sQ1 (Zc0 Zap) 6 (ZaL (ZfJ (Zew (Zaa (tOp Jam (Zag 4) (tCB (fun xs H Q=>(∃i,xs=[V.int i]∧Q (V.int i) H)∨∃k,xs=[V.bl k]∧Q (V.int (if k=true then 1 else 0)) H) (Zaa (tOp Jaz (Zag 3) (iQ1 0)) Zap))) Zap)) (Zan 7) (ZbD (tBM K "list" ZcP (Zag 6) (Zaa (Zau (Zi0 K) [] E0 (Zaa (Zag 3) (Zaa (Zau Zbd [] E0 (Zaa (Zag 2) (Zaa (iQ1 16) Zap))) (Zaa (Zag 0) (Zaa (tOp Jaa (tOp Jaa (Zag 1) (iQ1 8)) (tOp Jag (tOp Jam (Zag 7) (iQ1 3)) (iQ1 29))) Zap))))) Zap)))) (ZbB (Zcr (Zaa (Zag 3) (Zaa (Zag 6) (tQ1 5))))))))))
theorem Zuq (n0:0≤n)(n6:n≤60)(pl:ps.length≤60)(pr:∀p∈ps,ZdH n p)(w:WOk n L):∃wd,Sm n ps L wd:=by
 obtain⟨wd,P,rfl,l8,w1,w2,al,tt⟩:=w;exact⟨wd,⟨⟨n0,ZbQ _,by rw[Toy.shape_tot fun e he=>(al e he).1];exact tt,fun d hd=>ZcL (p:=fun u=>u.length=wd) (fun e he=>(al e he).2.1) d hd,pr⟩,n6,pl,w1,w2⟩⟩
theorem Zps {r:Int}(h0:0≤r)(h1:r<4):∃z:Int,atI [V.int 13,V.int 25,V.int 41,V.int 61] r=some (.int z)∧0<z∧z≤61:=by
 have hc:r=0∨r=1∨r=2∨r=3:=by omega
 rcases hc with rfl|rfl|rfl|rfl
 all_goals exact⟨_,rfl,by decide,by decide⟩
theorem Zpt {r a c:Int}(h0:0≤r)(h1:r<4)(a0:0≤a)(a1:a<5)(b0:0≤b)(b1:b<7)(c0:0≤c)(c1:c<9):∃z:Int,atI [V.int a,V.int b,V.int 3,V.int c] r=some (.int z)∧0≤z∧z≤60:=by
 have hc:r=0∨r=1∨r=2∨r=3:=by omega
 rcases hc with rfl|rfl|rfl|rfl
 all_goals exact⟨_,rfl,by omega,by omega⟩
theorem Zjy {at0:Nat}(hS:SqL K H a (ns.map V.int))(k:∀(c pa pb:Addr)(n:Int)(ps:List PR)(L:WL2)(ya yb:List V)(wd:Nat)(H':Hp),Zam H H'→ZaS H' c pa pb n ps L ya yb→Sm n ps L wd→Q (.ref c) H'):
  Zts K {nx:=Z,rt:=Q } [some (.ref a),some (.int (at0:Int)),none,none,none,none,none,none] H:=by
 refine⟨_,rfl,_,rfl,a,ns,at0,rfl,hS,fun big _=>⟨zL1,fun bg hbg=> ?_⟩⟩;have s1:=Zam.nw (o:=.lst [.int big]) (Zam.refl H) hbg;have b1:Bg (upd H bg (.lst [.int big])) bg:=⟨big,Zad⟩;generalize upd H bg (.lst [.int big])=H1 at s1 b1⊢;refine⟨_,rfl,_,rfl,_,_,rfl,rfl,a,ns,at0+1,rfl,s1.seq hS,fun g0 _=>⟨zL4,fun l hl=> ?_⟩⟩;have nl0:=b1.ne hl;have s2:=Zam.nw (o:=.lst [.int 13,.int 25,.int 41,.int 61]) (Zam.refl H1) hl;have f2:(upd H1 l (.lst [.int 13,.int 25,.int 41,.int 61])) l=some (.lst [.int 13,.int 25,.int 41,.int 61]):=Zad;generalize upd H1 l (.lst [.int 13,.int 25,.int 41,.int 61])=H2 at s2 f2⊢;refine⟨_,rfl,bg,4,rfl,b1.same s2,by decide,by decide,fun r0 H3 p0 p1 b3 u3 _=> ?_⟩;obtain⟨z,ez,z0,z1⟩:=Zps p0 p1;have s3:Zam H H3:=(s1.trans s2).bu hbg u3;refine⟨l,_,_,_,rfl,rfl,SqL.of (u3 _ _ f2 nl0),ez,_,_,rfl,rfl,z0,?_⟩;have h0:=QaX g0 (show z≠0 by omega);have h1:=QaQ g0 z0;generalize hn:g0%z=n at h0 h1;rw[show((fun i j=>V.int (i%j)) g0 z)=V.int n from congrArg V.int hn];refine⟨_,rfl,bg,5,rfl,b3,by decide,by decide,fun r5 H4 p0 p1 b4 u4 _=> ?_⟩;refine⟨_,rfl,bg,7,rfl,b4,by decide,by decide,fun r9 H5 q0 q1 b5 u5 _=> ?_⟩;refine⟨_,rfl,bg,9,rfl,b5,by decide,by decide,fun r17 H6 t0 t1 b6 u6 _=>⟨zL4,fun l hl=> ?_⟩⟩;have s6:Zam H H6:=((s3.bu hbg u4).bu hbg u5).bu hbg u6;have nl:=b6.ne hl;have s7:=Zam.nw (o:=.lst [.int r5,.int r9,.int 3,.int r17]) (Zam.refl H6) hl;have f7:(upd H6 l (.lst [.int r5,.int r9,.int 3,.int r17])) l=some (.lst [.int r5,.int r9,.int 3,.int r17]):=Zad;generalize upd H6 l (.lst [.int r5,.int r9,.int 3,.int r17])=H7 at s7 f7⊢;refine⟨_,rfl,bg,4,rfl,b6.same s7,by decide,by decide,fun r4 H8 v0 v1 b8 u8 _=> ?_⟩;obtain⟨m,em,m0,m1⟩:=Zpt v0 v1 p0 p1 q0 q1 t0 t1;refine⟨l,_,_,_,rfl,rfl,SqL.of (u8 _ _ f7 nl),em,?_⟩;have s8:Zam H H8:=(s6.trans s7).bu hbg u8;clear u8 f7 s7 nl hl s6 u6 u5 u4 s3 u3 f2 s2 s1;refine⟨_,rfl,_,rfl,bg,1000,rfl,b8,by decide,by decide,fun hd H9 _ _ b9 u9 _=> ?_⟩;have s9:Zam H H9:=s8.bu hbg u9;refine⟨_,rfl,_,rfl,_,_,rfl,rfl,n,hd,a,ns,at0+2,rfl,s9.seq hS,h0,by omega,fun wb yb L H3 e1 e2 e3 e4 s3=> ?_⟩;have b3:=b9.same s3;have nwb:wb≠bg:=b9.ne e1;have s03:=s9.trans s3;refine⟨zL0,fun la hla=> ?_⟩;have fla:=s03.free hla;have nlb:la≠bg:=b3.ne hla;have nlw:wb≠la:=Zar e2 hla;have s4:=Zam.nw (o:=.lst []) (Zam.refl H3) hla;have f4:(upd H3 la (.lst [])) la=some (.lst []):=Zad;generalize upd H3 la (.lst [])=H4 at s4 f4⊢;refine⟨_,rfl,_,rfl,_,_,rfl,rfl,.inr ⟨_,rfl,_,_,rfl,rfl,.inl ⟨by omega,by omega⟩,?_⟩⟩
 have rb:0≤m*(if decide (0<n)=true then 1 else 0)∧m*(if decide (0<n)=true then 1 else 0)≤60∧(0<m*(if decide (0<n)=true then 1 else 0)→0<n):=by
  by_cases hn:0<n
  ·rw[Qam hn,Qp rfl,Qc9];exact⟨m0,m1,fun _=>hn⟩
  ·rw[QaC hn,Qn (by decide),Qcz];exact⟨by decide,by decide,fun z=>absurd z (by decide)⟩
 refine⟨_,rfl,by have:=rb.1;omega,by have:=rb.2.1;omega,?_⟩;generalize m*(if decide (0<n)=true then 1 else 0)=M at rb⊢;obtain⟨M0,M1,M2⟩:=rb;refine Zci (n:=M.toNat) (fun j σ H'=>∃(x7:Option V)(zs:List V)(ps:List PR),σ=[some (.ref a),some (.int (at0:Int)),some (.ref bg),some (.int n),some (.int m),some (.ref wb),some (.ref la),x7]∧H' la=some (.lst zs)∧CpL H' zs (ps.map pV)∧ps.length=j∧(∀p∈ps,ZdH n p)∧H' wb=some (.lst yb)∧Wg H' yb L∧Bg H' bg∧Zam H H') ⟨none,[],[],rfl,f4,⟨rfl,fun i y vs h1 h2=>by rw[List.getElem?_nil] at h1;cases h1⟩,rfl,(fun p hp=>by cases hp),s4 _ _ e2,e3.up s4.tups,b3.same s4,s03.trans s4⟩ ?_ ?_
 ·rintro j σ H5 hj ⟨x7,zs,ps,rfl,g1,g2,g3,g4,g5,g6,g7,s5⟩;have hn:1≤n:=by have:=M2 (by omega);omega
  refine⟨_,rfl,.inl ⟨rfl,_,SqL.of g1⟩,_,rfl,_,rfl,bg,16,rfl,g7,by decide,by decide,fun hd H6 _ _ b6 u6 _=> ?_⟩;have s6:Zam H H6:=s5.bu hbg u6;have t6:Za7 H5 H6:=fun b zs e=>u6 b _ e (fun z=>by obtain⟨m,g7⟩:=g7;rw[z,g7] at e;cases e)
  have ec:(at0:Int)+8+((0+(j:Int))*3) %29=((at0+8+(((0+(j:Int))*3) %29).toNat:Nat):Int):=by
   have:=QaX ((0+(j:Int))*3) (show(29:Int)≠0 by decide);omega
  refine⟨_,rfl,_,rfl,_,_,rfl,rfl,_,rfl,_,_,rfl,rfl,.inr ⟨by decide,by decide⟩,_,_,rfl,rfl,(by show(0:Int)<29;decide),_,_,rfl,rfl,n,hd,a,ns,at0+8+(((0+(j:Int))*3) %29).toNat,?_,s6.seq hS,hn,fun p pr H7 i1 i2 i3 s7=> ?_⟩
  ·show [V.int n,V.int hd,V.ref a,V.int ((at0:Int)+8+((0+(j:Int))*3) %29)]=_;rw[ec]
  have t7:=t6.trans s7.tups;have g1':=s7 _ _ (u6 _ _ g1 nlb);have T8:Za7 H7 (upd H7 la (.lst (zs++ [.ref p]))):=(Za7.refl _).lst g1';refine⟨la,zs,_,rfl,rfl,g1',Zba (by rw[g2.1,Qaf,g3];omega),?_⟩;refine⟨_,zs++ [.ref p],ps++ [pr],rfl,Zad,?_,by rw[Qae,g3];rfl,?_,?_,g6.up (t7.trans T8),?_,Zam.ow (s6.trans s7) fla⟩
  ·rw[Qau];exact CpL.snoc ((g2.up t7).up T8) (T8 _ _ i2)
  ·intro q hq;rcases Qap.mp hq with hq|hq
   ·exact g4 q hq
   ·rw[Qal.mp hq];exact i3
  ·rw[Zaq nlw];exact s7 _ _ (u6 _ _ g5 nwb)
  ·obtain⟨m,hm⟩:=b6;exact⟨m,by rw[Zaq (Ne.symm nlb)];exact s7 _ _ hm⟩
 ·rintro σ H5 ⟨x7,zs,ps,rfl,g1,g2,g3,g4,g5,g6,g7,s5⟩;refine⟨_,rfl,_,rfl,_,rfl,zL3,fun c hc=> ?_⟩;have s6:=Zam.nw (o:=.tup [.int n,.ref la,.ref wb]) (Zam.refl H5) hc;obtain⟨wd,sm⟩:=Zuq h0 (by omega) (by omega) g4 e4;exact k c la wb n ps L zs yb wd _ (s5.trans s6) ⟨Zad,s6 _ _ g1,g2.up s6.tups,s6 _ _ g5,g6.up s6.tups⟩ sm
end
section
variable {K:FJ}
def Ztt (K:FJ):TS:=ZaL (ZfJ (Zc7 K (Zc0 (Zaa (iQ1 1) (Zaa (iQ1 20) Zap)))) (Zan 1) (sQ1 (Zau (Zjx K) [] E0 Jak) 2 (sQ1 (Zcr (Zaa (tOp (ZbO K) (Zag 2) (iQ1 0)) (Zaa (tCB (Jab K) (Zaa (tOp (ZbO K) (Zag 2) (iQ1 1)) Zap)) (Zaa (tCB (Jab K) (Zaa (tOp (ZbO K) (Zag 2) (iQ1 2)) Zap)) Zap)))) 3 (sQ1 (Zau ZgX [] E0 (tQ1 2)) 4 (sQ1 (tCB (fun xs H_1 Q=>∃p ns,xs=[V.ref p]∧SqL K H_1 p (List.map V.int ns)∧Q (V.int ns.sum) H_1) (Zaa (ZbU 2 (Zc7 K (Zag 4)) (Jao K) Zes (Zag 1)) Zap)) 5 (ZfJ (Zew (Zaa (iQ1 2) Zap)) (Zan 6) (sQ1 (Zau Zfj [] E0 (tQ1 3)) 7 (ZaL (Zeq (tOr (ZbE (tOp (ZqI K fun b=> !b) (Zag 7) (Zcr (Zaa (Zag 5) (tQ1 4))))) (tOr (Zn8 (tB (Zau Zi4 [] E0 (Zaa (tOp (ZbO K) (Zag 7) (iQ1 0)) Zap)))) (ZbE (tOp (ZqI K fun b=> !b) (Zag 3) (Zag 2))))) (ZbB (tC (V.bl false))) ZcK) (ZaL (Zeq (Zn8 (tB (tCB (fun xs H_1 Q=>∃p bs,xs=[V.ref p]∧SqL K H_1 p (List.map V.bl bs)∧Q (V.bl (bs.all id)) H_1) (Zaa (ZbU 2 (Zc7 K (tOp (ZbO K) (Zag 7) (iQ1 1))) (Jao K) Zes (Zc2 (tCB (fun xs H Q=>∃x t b,xs=[x,V.ty "tuple"]∧Zfw K H x t∧PySem.W.kitOne K t (Value.type "tuple")=some b∧Q (V.bl b) H) (Zaa (Zag 0) (Zaa (tC (V.ty "tuple")) Zap))) (Zau Zi4 [] E0 (tQ1 1)))) Zap)))) (ZbB (tC (V.bl false))) ZcK) (ZbD (tBM K "list" ZcP (tOp (ZbO K) (Zag 7) (iQ1 1)) (Zaa (tC V.non) Zap)))))))))))) (ZbB (tC (V.bl true)))
def Zur (m:Int)(ws:List (List Int×Int)):PyData:=.tuple [.int m,dPs ws]
theorem ZgY (m:Int)(ws:List (List Int×Int)):(Zur m ws).canLay0=true:=by
 show(true && ((dPs ws).canLay0 && true))=true;rw[Zq0];rfl
theorem Zpu (m:Int)(ws:List (List Int×Int)):(Zur m ws).depth≤60:=by
 have d2:∀us:List (List Int×Int),PyData.depthAll (us.map dP)≤2:=by
  intro us
  induction us with
  |nil=>exact QaS _
  |cons u us ih=>
   have e:(dP u).depth≤2:=by show max (dT u.1).depth (max 0 0)+1≤2;rw[Zj8];decide
   show max (dP u).depth _≤2;omega
 have:=d2 ws;show max 0 (max (PyData.depthAll (ws.map dP)+1) 0)+1≤60;omega
theorem ZnA {m:Int}{zs:List V}{ws:List (List Int×Int)}(hc:H c=some (.tup [.int m,.ref l]))(hl:H l=some (.lst zs))(pr:PrL H zs ws):DI K H (.ref c) (Zur m ws):=by
 refine .tup (SqT.of hc) rfl fun j y e h3 h4=> ?_;rcases j with _|_|j
 ·cases h3;cases h4;exact .int _
 ·cases h3;cases h4;exact pr.di (SqL.of hl)
 ·cases h3
theorem Zpv (rs:List (List Int)):tot (Zb8 rs)=(rs.length:Int):=by
 induction rs with
 |nil=>rfl
 |cons u rs ih=>
  show tot ((1,u)::Zb8 rs)=_;rw[ZaD,ih,QaB];show(1:Int)+_=_;omega
theorem Zpw (ws:List (List Int×Int)):tot (ZbR ws)=(ws.map (·.2)).sum:=by unfold tot ZbR;rw[Qbc];rfl
theorem Zpx (rs:List (List Int)):∀e∈Zb8 rs,0<e.1:=fun e he=>by
 obtain⟨u,_,rfl⟩:=QaR.mp he;show(0:Int)<1;decide
theorem Zjz {sc:Addr}(hS:SqL K H sc (ns.map V.int))(k:∀H',Q (.bl true) H'):Ztt K {nx:=Z,rt:=Q } [some (.ref sc),none,none,none,none,none,none,none] H:=by
 refine⟨zL2,fun l0 hl0=>⟨l0,rfl,⟨_,SqL.of Zad⟩,?_⟩⟩;have s0:=Zam.nw (o:=.lst [.int 1,.int 20]) (Zam.refl H) hl0;have f0:(upd H l0 (.lst [.int 1,.int 20])) l0=some (.lst [.int 1,.int 20]):=Zad;generalize upd H l0 (.lst [.int 1,.int 20])=H0 at s0 f0⊢;have hS0:=s0.seq hS;refine ZbL (K:=K) (a:=l0) (xs:=[.int 1,.int 20]) (fun i σ H'=>∃(x1 x2 x3 x4 x5 x6 x7:Option V),σ=[some (.ref sc),x1,x2,x3,x4,x5,x6,x7]∧Zam H0 H') ⟨_,_,_,_,_,_,_,rfl,Zam.refl _⟩ (fun i σ H' _ z=>by obtain⟨_,_,_,_,_,_,_,_,s'⟩:=z;exact SqL.of (s' _ _ f0)) ?_ ?_
 ·rintro i x σ H1 hx ⟨x1,x2,x3,x4,x5,x6,x7,rfl,s1⟩
  obtain⟨at0,rfl⟩:∃at0:Nat,x= .int (at0:Int):=by
   rcases i with _|_|i
   ·cases hx;exact⟨1,rfl⟩
   ·cases hx;exact⟨20,rfl⟩
   ·cases hx
  refine⟨_,rfl,_,rfl,sc,ns,at0,rfl,s1.seq hS0,fun c pa pb n ps L ya yb wd H2 s2 h sm=> ?_⟩;have s02:=s1.trans s2;refine⟨_,rfl,c,_,_,_,rfl,rfl,SqT.of h.h,rfl,_,rfl,c,_,_,_,rfl,rfl,SqT.of h.h,rfl,pa,ya,rfl,.inl (SqL.of h.ha),fun l1 hl1=> ?_⟩;have s3:=Zam.nw (o:=.lst ya) (Zam.refl H2) hl1;have f3:(upd H2 l1 (.lst ya)) l1=some (.lst ya):=Zad;generalize upd H2 l1 (.lst ya)=H3 at s3 f3⊢;have h3:=h.up s3;refine⟨_,rfl,c,_,_,_,rfl,rfl,SqT.of h3.h,rfl,pb,yb,rfl,.inl (SqL.of h3.hb),fun l2 hl2=>⟨zL3,fun q hq=> ?_⟩⟩;have s4:=Zam.nw (o:=.lst yb) s3 hl2;have f4:(upd H3 l2 (.lst yb)) l2=some (.lst yb):=Zad;have f41:=(Zam.nw (o:=.lst yb) (Zam.refl H3) hl2) _ _ f3;generalize upd H3 l2 (.lst yb)=H4 at s4 f4 f41 hq⊢;have s5:=Zam.nw (o:=.tup [.int n,.ref l1,.ref l2]) (Zam.refl H4) hq;have f5:(upd H4 q (.tup [.int n,.ref l1,.ref l2])) q=some (.tup [.int n,.ref l1,.ref l2]):=Zad;have s25:=s4.trans s5;have g:ZaS (upd H4 q (.tup [.int n,.ref l1,.ref l2])) q l1 l2 n ps L ya yb:=⟨f5,s5 _ _ f41,h.ca.up s25.tups,s5 _ _ f4,h.wb.up s25.tups⟩;generalize upd H4 q (.tup [.int n,.ref l1,.ref l2])=H5 at s25 g⊢;have h5:=h.up s25;refine⟨_,rfl,c,pa,pb,n,ps,L,ya,yb,wd,rfl,h5,sm,fun ld f zs ws H6 hm s6 _ hld pr so=> ?_⟩;have n6:=sm.n6;have n0:=sm.n0;have op:=Zpx (rmL n.toNat wd f (Wc L))
  have wl:ws.length≤60:=by
   have e1:=Znu (Zh6 op so);rw[Zfe so,Zpv] at e1;have e2:(rmL n.toNat wd f (Wc L)).length≤n.toNat:=by unfold rmL;rw[Qaf];refine QaW (Qdi _ _) ?_;rw[Qa6];exact Qai _
   unfold ZbR at e1;rw[Qaf] at e1;omega
  refine⟨_,rfl,ld,rfl,⟨_,SqL.of hld⟩,ZkS (K:=K) (a:=ld) (xs:=zs) (fun m us H'=>us=((ws.take m).map fun s=>V.int s.2)∧H6=H') ⟨rfl,rfl⟩ (by rw[pr.1];omega) (fun m us H' z=>by rw[z.1,Qaf,Qax];exact QdH _ _) (fun m us H' _ z=>by rw[←z.2];exact SqL.of hld) ?_ ?_⟩
  ·rintro m x us H7 pre qc hx ⟨rfl,rfl⟩;have ml:m<ws.length:=by rw[←pr.1];exact(Qab.mp hx).1
   obtain⟨e,ee⟩:∃e,ws[m]?=some e:=⟨_,Qad ml⟩;obtain⟨q3,w3,rfl,hq3,hw3⟩:=pr.2 m x e hx ee;rcases pre with _|⟨q0,_|⟨q1,_|⟨q2,pre⟩⟩⟩
   ·cases qc
   ·cases qc
   ·refine⟨q3,_,rfl,SqT.of hq3,rfl,_,_,rfl,_,_,rfl,rfl,⟨[some _,some _],rfl,rfl⟩,?_⟩;unfold Zes;dsimp only;rw[Qp (rfl:true=true)];refine⟨_,rfl,?_,rfl⟩;rw[ZaJ ee,Qau];rfl
   ·cases qc
  ·rintro us H7 ⟨rfl,rfl⟩ D hD;rw[pr.1,Qa3];have s7:=Zam.nw (o:=.lst (ws.map fun s=>V.int s.2)) (Zam.refl H6) hD;have f7:(upd H6 D (.lst (ws.map fun s=>V.int s.2))) D=some (.lst ((ws.map (·.2)).map V.int)):=by rw[Zad,Qbc];rfl
   generalize upd H6 D (.lst (ws.map fun s=>V.int s.2))=H7 at s7 f7⊢;have g7:=(g.up s6).up s7;have h7:=(h5.up s6).up s7;have hld7:=s7 _ _ hld;have pr7:=pr.up s7.tups;have s07:=s02.trans (s25.trans (s6.trans s7));refine⟨D,_,rfl,SqL.of f7,?_⟩;refine⟨2,rfl,by decide,by decide,Zci (n:=2) (fun j σ H'=>∃(x6 x7:Option V),σ=[some (.ref sc),some (.int (at0:Int)),some (.ref c),some (.ref q),some (.ref ld),some (.int (ws.map (·.2)).sum),x6,x7]∧Zam H7 H') ⟨_,_,rfl,Zam.refl _⟩ ?_ ?_⟩
   ·rintro j σ H8 hj ⟨x6,x7,rfl,s8⟩;refine⟨_,rfl,q,l1,l2,n,ps,L,ya,yb,wd,rfl,g7.up s8,sm,fun cc lw rs ws' zs' H9 s9 flw hcc hlw pr' so' qk tt=> ?_⟩;have ew:ws'=ws:=ZmR (Zld qk op (fun u=>(tt f hm u).symm) so') so;subst ew;have et:tot rs=(ws'.map (·.2)).sum:=by rw[←Zpw,Zfe so']
    rw[et] at hcc;have s79:=s8.trans s9;refine⟨_,rfl,_,rfl,_,rfl,zL2,fun t ht=> ?_⟩;have s10:=Zam.nw (o:=.tup [.int (ws'.map (·.2)).sum,.ref ld]) (Zam.refl H9) ht;have f10:(upd H9 t (.tup [.int (ws'.map (·.2)).sum,.ref ld])) t=some (.tup [.int (ws'.map (·.2)).sum,.ref ld]):=Zad;generalize upd H9 t (.tup [.int (ws'.map (·.2)).sum,.ref ld])=H10 at s10 f10⊢;have s710:=s79.trans s10;have hcc:=s10 _ _ hcc;have hlw:=s10 _ _ hlw;have pr':=pr'.up s10.tups;refine⟨_,_,ZnA hcc hlw pr',ZnA f10 (s710 _ _ hld7) (pr7.up s710.tups),ZgY _ _,ZgY _ _,Zpu _ _,_,rfl,?_⟩;rw[SeqAt.eqv_refl _ (ZgY _ _)];refine Zcd ?_;refine⟨_,rfl,cc,_,_,_,rfl,rfl,SqT.of hcc,rfl,_,rfl,true,rfl,Zcd ?_⟩;refine⟨_,rfl,_,rfl,_,_,(g7.up s710).di,(h7.up s710).di,Ze6 _ _ _,Ze6 _ _ _,ZoW _ _ _,_,rfl,?_⟩;rw[ZoV];refine Zcd ?_;have wl':ws'.length≤60:=wl;refine⟨_,rfl,cc,_,_,_,rfl,rfl,SqT.of hcc,rfl,lw,rfl,⟨_,SqL.of hlw⟩,ZkS (K:=K) (a:=lw) (xs:=zs') (fun m us H'=>us=(List.replicate m true).map V.bl∧H10=H') ⟨rfl,rfl⟩ (by rw[pr'.1];omega) (fun m us H' z=>by rw[z.1,Qaf,QaT];exact Qai _) (fun m us H' _ z=>by rw[←z.2];exact SqL.of hlw) ?_ ?_⟩
    ·rintro m x us H11 pre qc hx ⟨rfl,rfl⟩;have ml:m<ws'.length:=by rw[←pr'.1];exact(Qab.mp hx).1
     obtain⟨e,ee⟩:∃e,ws'[m]?=some e:=⟨_,Qad ml⟩;obtain⟨q3,w3,rfl,hq3,hw3⟩:=pr'.2 m x e hx ee;rcases pre with _|⟨q0,_|⟨q1,_|⟨q2,pre⟩⟩⟩
     ·cases qc
     ·cases qc
     ·refine⟨q3,_,rfl,SqT.of hq3,rfl,_,_,rfl,_,_,rfl,rfl,⟨[some _,some _],rfl,rfl⟩,?_⟩;unfold Zes;dsimp only;rw[Qp (rfl:true=true)];refine⟨_,rfl,V.ref w3,_,_,rfl,Zfw.tup hw3,ZpX,true,rfl,Zcl ?_⟩;refine⟨_,rfl,_,rfl,?_,rfl⟩;rw[Qcd,Qau];rfl
     ·cases qc
    ·rintro us H11 ⟨rfl,rfl⟩ D2 hD2;refine⟨D2,List.replicate zs'.length true,rfl,SqL.of Zad,true,by rw[List.all_replicate];simp,Zcd ?_⟩;have s11:=Zam.nw (o:=.lst ((List.replicate zs'.length true).map V.bl)) (Zam.refl H10) hD2;generalize upd H10 D2 (.lst ((List.replicate zs'.length true).map V.bl))=H11 at s11⊢;refine⟨_,rfl,cc,_,_,_,rfl,rfl,SqT.of (s11 _ _ hcc),rfl,.inl ⟨rfl,_,SqL.of (s11 _ _ hlw)⟩,lw,zs',_,rfl,rfl,s11 _ _ hlw,Zba (by rw[pr'.1];omega),?_⟩;exact⟨_,_,rfl,Zam.ow (s710.trans s11) (s8.free flw)⟩
   ·rintro σ H8 ⟨x6,x7,rfl,s8⟩;exact⟨_,_,_,_,_,_,_,rfl,s07.trans s8⟩
 ·rintro σ H1 ⟨x1,x2,x3,x4,x5,x6,x7,rfl,s1⟩;exact k H1
end
section
variable {K:FJ}
def ZgZ:Sp:=fun vs H Q _=>∃(a:Addr)(xs:List V)(A:Toy.Wl)(n:Nat)(t:Int),vs=[.ref a,.int t]∧H a=some (.lst xs)∧Wg H xs A∧A≠ []∧A.length≤59∧n≤24∧(∀e∈A,e.2.length=n)∧(∀e∈A,0<e.1∧e.1<2^60)∧0<t∧t<2^60∧
 ∀(r:Addr)(zs:List V)(R:Toy.Wl)(H':Hp),H r=none→H' r=some (.lst zs)→Wg H' zs R→Toy.HeapOf n (Toy.wst t A 0) 0 t R (A.length+3)→Zam H H'→Q (.ref r) H'
def Ztu (K:FJ):TS:=(sQ1 (Zau Zbt [] E0 (tQ1 1)) 5 (ZbB (Zau Zkr [] E0 (Zaa (Zag 3) (Zaa (tOp Jad (Zag 2) (Zag 5)) (Zaa (tIf (ZbE (tOp Jan (Zau (Zfb K) [] E0 (tQ1 4)) (Zag 5))) (Zag 4) (Zau ZgZ [] E0 (Zaa (Zag 4) (tQ1 5)))) Zap))))))
def Ztv (K:FJ):TS:=sQ1 (Zau (Zev K) [] E0 (Zaa (Zag 0) (Zaa (iQ1 0) (tQ1 2)))) 3 (sQ1 (Zau (Zev K) [] E0 (Zaa (Zag 0) (Zaa (Zag 2) (Zaa (Zau (Zfb K) [] E0 (tQ1 0)) Zap)))) 4 (ZaL (Zeq (tB (tOp (ZbO K) (Zag 1) (iQ1 3))) (ZbB (Zau Zkr [] E0 (Zaa (Zag 3) (Zaa (Jaw K) (Zaa (Zau (Zjf K) [] E0 (tQ1 4)) Zap))))) ZcK) (Ztu K)))
def Zpy (K:FJ):TS:=Zeq (Zn8 (tB (Zag 0))) (fun x x_1 x_2=>False) ZcK
theorem ZjA {xs:List V}(ha:H a=some (.lst xs))(g:Wg H xs L)(hq:H q=some (.tup (pV p)))(ok:ZuF n L p e wd)
  (k:∀(b:Addr)(ys:List V)(R:WL2)(H':Hp),H b=none→H' b=some (.lst ys)→Wg H' ys R→IsC L p e wd R→Zam H H'→Q (.ref b) H'):Ztv K {nx:=Z,rt:=Q } [some (.ref a),some (.ref q),some (.int e),none,none,none] H:=by
 obtain⟨m1,m2⟩:=Zql ok.ml;obtain⟨p0,p1,p2,p3⟩:=ok.pr;have lo:=ok.lo;have hi:=ok.hi;have en:=ok.en;have sm:=ok.sum;have n6:=ok.n6;have nL:=ok.nrm;have pos:∀d∈L,0<d.1:=fun d hd=>nL.pos d hd;have ll:=Zjm nL;have w2:=ok.w2;have e0:0≤e:=by omega
 refine⟨_,rfl,_,rfl,a,xs,L,0,e,rfl,SqL.of ha,g,by omega,pos,e0,fun b1 z1 H1 f1 h1 g1 s1=> ?_⟩;rw[ZfW nL (QaL _) e0] at g1;refine⟨_,rfl,_,rfl,_,rfl,a,xs,L,rfl,SqL.of (s1 _ _ ha),g.up s1.tups,by omega,fun H2 s2=> ?_⟩;have s12:=s1.trans s2;refine⟨a,xs,L,e,tot L,rfl,SqL.of (s12 _ _ ha),g.up s12.tups,by omega,pos,by omega,fun b2 z2 H3 f3 h3 g3 s3=> ?_⟩;rw[ZfW nL e0 (by omega)] at g3;have s23:=s2.trans s3;have s13:=s1.trans s23;have nP:ZbG (paF 0 e L):=Zcg (Zbx nL);have nO:ZbG (paF e (tot L) L):=Zcg (Zbx nL);have lP:=Zi8 nL (QaL 0) e0;have lO:=Zi8 nL e0 (show e≤tot L by omega);have wP:=Zi9 (p:=fun u=>u.length=wd) nL (QaL 0) e0 ok.wid;have wO:=Zi9 (p:=fun u=>u.length=wd) nL e0 (show e≤tot L by omega) ok.wid;have tP:tot (paF 0 e L)=e:=by rw[Toy.paF_0 pos];exact Toy.tot_takeF pos e0 (by omega)
 have tO:tot (paF e (tot L) L)=tot L-e:=by rw[Toy.paF_n nL e0 (by omega)];exact Toy.tot_dropF pos e0 (by omega)
 have hq3:=s13 _ _ hq;refine⟨_,rfl,q,_,_,_,rfl,rfl,SqT.of hq3,rfl,_,rfl,?_⟩
 cases hb:p.2.2.2 with
 |true=>
  have m3:=m2 hb;refine Zcl ⟨_,rfl,_,rfl,q,_,_,_,rfl,rfl,SqT.of hq3,rfl,_,rfl,b2,z2,rfl,SqL.of h3,fun c hc=> ?_⟩;have s4:=Zam.nw (o:=.lst z2.reverse) (Zam.refl H3) hc;have f4:(upd H3 c (.lst z2.reverse)) c=some (.lst z2.reverse):=Zad;generalize upd H3 c (.lst z2.reverse)=H4 at s4 f4⊢;refine⟨b1,c,z1,z2.reverse,paF 0 e L,(paF e (tot L) L).reverse,p.1,wd,rfl,(s23.trans s4) _ _ h1,f4,g1.up (s23.trans s4).tups,(Zuh g3).up s4.tups,nP,fun d hd=>nO.pos d (Qeo.mp hd),p0,by rw[Toy.tot_revC,tO,tP];omega,by omega,by rw[QcA];omega,w2,wP,fun d hd=>wO d (Qeo.mp hd),fun r zr R H5 f5 h5 g5 pt s5=> ?_⟩;refine k r zr R H5 (s13.free (s4.free f5)) h5 g5 ?_ (s13.trans (s4.trans s5));show Toy.IsCut L p.1 (p.2.1-p.1) e p.2.2.2 wd R;rw[hb];exact Toy.cut_turn nL ok.wid p0 e0 (by omega) (by omega) pt
 |false=>
  refine Zcd ⟨_,rfl,q,p,rfl,hq3,?_⟩;refine⟨_,rfl,_,rfl,_,rfl,_,_,rfl,rfl,_,rfl,b2,z2,_,rfl,SqL.of h3,g3,by omega,fun H4 s4=> ?_⟩;refine⟨_,rfl,_,_,rfl,rfl,_,rfl,Zfx (fun c=> ?_) (fun c=> ?_)⟩
  ·have c:tot (paF e (tot L) L)≤p.2.1-p.1:=Qar c;refine⟨_,rfl,b1,b2,z1,z2,paF 0 e L,paF e (tot L) L,e-(p.2.1-p.1),wd,rfl,(s23.trans s4) _ _ h1,s4 _ _ h3,g1.up (s23.trans s4).tups,g3.up s4.tups,nP,fun d hd=>nO.pos d hd,by omega,by rw[tO,tP];omega,by omega,by omega,w2,wP,wO,fun r zr R H5 f5 h5 g5 pt s5=> ?_⟩;refine k r zr R H5 (s13.free (s4.free f5)) h5 g5 ?_ (s13.trans (s4.trans s5));show Toy.IsCut L p.1 (p.2.1-p.1) e p.2.2.2 wd R;rw[hb];exact Toy.cut_off nL ok.wid e0 (by omega) (by omega) (by omega) (by omega) pt
  ·have c:¬tot (paF e (tot L) L)≤p.2.1-p.1:=fun z=>c (Qam z)
   have big:∀d∈paF e (tot L) L,d.1<2^60:=fun d hd=>by
    have:=Toy.tot_ge (fun x hx=>by have:=nO.pos x hx;omega) hd;omega
   have lA:=Zjm nO;refine⟨_,rfl,_,rfl,b2,z2,paF e (tot L) L,wd,p.2.1-p.1,rfl,s4 _ _ h3,g3.up s4.tups,fun z=>by rw[z,ZaI] at tO;omega,by omega,w2,wO,fun d hd=>⟨nO.pos d hd,big d hd⟩,by omega,by omega,fun r zr W H5 f5 h5 g5 hp s5=> ?_⟩;have s45:=s4.trans s5;have tW:tot W=p.2.1-p.1:=by rw[hp.sum];omega
   refine⟨b1,r,z1,zr,paF 0 e L,W,e-(p.2.1-p.1),wd,rfl,(s23.trans s45) _ _ h1,h5,g1.up (s23.trans s45).tups,g5,nP,fun d hd=>hp.nrm.pos d hd,by omega,by rw[tW,tP];omega,by omega,by have:=hp.len;omega,w2,wP,hp.wid,fun r2 zr2 R H6 f6 h6 g6 pt s6=> ?_⟩;refine k r2 zr2 R H6 (s13.free (s45.free f6)) h6 g6 ?_ (s13.trans (s45.trans s6));show Toy.IsCut L p.1 (p.2.1-p.1) e p.2.2.2 wd R;rw[hb];exact Toy.cut_wound nL ok.wid e0 (by omega) (by omega) (by omega) hp pt
theorem Zg0 {b:Bool}(hb:b=true)(k:Q .non H):Zpy K {nx:=fun _ H'=>Q .non H',rt:=Q } [some (.bl b)] H:=by
 subst hb;exact⟨_,rfl,_,rfl,Zcd k⟩
end
end L2
namespace Toy
open PySem L2 PyProof.Rows
variable {f aF aD aS g1 g2 g3 g4 g5 g6 C d1 d2 d3 d4 d5 d6:Addr}{fd:FuncData}{w:World}{mg:Str→Option Value}{P:Program}{base h:Heap}{ms u:List Int}{x:Str}{j i:Nat}{ps:List Str}{sp:Sp}{A M:Wl}{p m y c:Int}{l:PySem.W.OpenLaw}
def top (i:Nat):Stmt:=PySem.Challenge.pw_farcords_k37_counted_small.main.body.getD i (.Pass ⟨0,0,0,0⟩)
structure Kn (P:Program)(w:World)(K:FJ)(mg:Str→Option Value)(base:Heap)(x:Str)(k:Nat)(ps:List Str)(sp:Sp):Prop where
 ex:∃(f:Addr)(fd:FuncData),Za6 P w K mg base CX0 k f fd ps sp∧mg x=some (.ref f)∧PySem.W.keepIn K (.ref f)=true∧ZdA K fd ps []
theorem Zaf {X:Cx}{k:Nat}{e:Expr}{es:List Expr}{t:TA}{p pos:PySem.Pos}(G:Kn X.prog X.w X.K X.mg X.base x k ps sp)(hr:Zdr j X.A)(hg:Gl X x)(ha:PA X (e::es) t)(hle:k≤j:=by decide)
  (hdb:(x==("__debug__" :Str))=false:=by decide)
  (he:starEach (e::es) X.env=(false,eval e X.env)::starEach es X.env:=by rfl) (hpl:(backTo pos (starEach es X.env)).any (·.1)=false:=by rfl):PE X (.Call (.Name x p) (e::es) [] pos) (Zau sp [] E0 t):=by
 obtain⟨f,fd,F,hm,hk,hb⟩:=G.ex;exact ZqB F (hr.mono hle) hg hm hk hb .nil Zos ha hdb he hpl
structure Txt (mg:Str→Option Value):Prop where
 len:mg "len" =none
 range:mg "range" =none
 min:mg "min" =none
 max:mg "max" =none
 isinstance:mg "isinstance" =none
 bool:mg "bool" =none
 int:mg "int" =none
 tuple:mg "tuple" =none
 list:mg "list" =none
 str:mg "str" =none
 all:mg "all" =none
 sum:mg "sum" =none
 sorted:mg "sorted" =none
structure Gb (mg:Str→Option Value):Prop where
 ab:mg "abs" =none
 zp:mg "zip" =none
 dm:mg "divmod" =none
 en:mg "enumerate" =none
structure Nms (w:World)(K:FJ)(mg:Str→Option Value)(aF aD aS g1 g2 g3 g4 g5 g6 d1 d2 d3 d4 d5 d6:Addr):Prop where
 mF:mg "FORMS" =some (.ref aF)
 mD:mg "DEEDS" =some (.ref aD)
 mS:mg "SIDES" =some (.ref aS)
 kF:Zmy w K aF [("gone",g1),("folded",g2),("joined",g3),("carried",g4),("cut",g5),("free",g6)]
 kD:Zmy w K aD [("gone",d1),("folded",d2),("joined",d3),("carried",d4),("cut",d5),("free",d6)]
 tS:∀H,SqT K H aS [.str "low",.str "high"]
 t1:∀H,SqT K H g1 [.str "pairing"]
 t2:∀H,SqT K H g2 [.str "pairing"]
 t3:∀H,SqT K H g3 [.str "pairing",.str "pairing"]
 t4:∀H,SqT K H g4 [.str "pairing",.str "pairing",.str "side"]
 t5:∀H,SqT K H g5 [.str "pairing",.str "place"]
 t6:∀H,SqT K H g6 [.str "place"]
 dS:∃o,K.lookup aS=some o∧o.cls= .type "tuple" ∧o.dict=none
structure Dsk (w:World)(K:FJ)(mg:Str→Option Value)(C:Addr):Prop where
 cl:Cls K C
 nH:Zcc K C "hall"
 nD:Zcc K C "deeds"
theorem PgA {X:Cx}{x:Str}{pos:PySem.Pos}(sc:X.N.Nodup)(i:Nat)(hi:X.N[i]?=some x:=by rfl)(hx:Loc X.env.scope x:=by exact Or.inl rfl)(hf:X.fn x=true∨X.env.scope.names.lookup x=some .local:=by first|exact .inl rfl|exact .inr rfl|assumption):PG X (.Name x pos) (Zan i):=Zaj (i:=i) sc hi hx hf
theorem PgC {X:Cx}{x:Str}{pos:PySem.Pos}(l:List Str)(i:Nat)(hl:X.N=l:=by rfl)(nd:l.Nodup:=by decide +kernel)(hi:X.N[i]?=some x:=by rfl)(hx:Loc X.env.scope x:=by exact Or.inl (Qaj rfl))(hf:X.fn x=true∨X.env.scope.names.lookup x=some .local:=by exact Or.inr (Qaj rfl)):PG X (.Name x pos) (Zan i):=Zaj (i:=i) (by rw[hl];exact nd) hi hx hf
theorem PsA {X:Cx}{x:Str}{e:Expr}{te:TE}{pos qk:PySem.Pos}(sc:X.N.Nodup)(i:Nat)(he:PE X e te)(hi:X.N[i]?=some x:=by rfl)(hx:Loc X.env.scope x:=by exact Or.inl rfl)(hs:swapsWith e (some (.Name x qk)) pos.line X.env=pure false:=by rfl)(hf:X.fn x=true∨X.env.scope.names.lookup x=some .local:=by first|exact .inl rfl|exact .inr rfl|assumption):PS X (.Assign [.Name x qk] e pos) (ZaW te (Zan i)):=Zat (i:=i) sc hi hx he hs hf
section
variable {K:FJ}
abbrev Zec:Stmt:=top 4
theorem Zpz (F:Fun K "is_whole" "is_whole" Zec f fd)(M:Txt mg):Za6 P w K mg base CX0 1 f fd ["thing"] Zi4:=by
 refine F.okl ["thing"] ?_
 ·rintro sc _ _ _ s H _ Q E hr⟨i,rfl,k⟩;refine⟨_,(Zak (ZaA (Zb5 (Zay (Zbi (T:= "int") (K:=K)) (by rfl) M.isinstance Qcj (Zac (pv 0) (Zac (Zc6 (v:=.ty "int") rfl M.int boot_int rfl) Zab))) (Zcb (ZeQ (Zay (Zbi (T:= "bool") (K:=K)) (by rfl) M.isinstance Qcj (Zac (pv 0) (Zac (Zc6 (v:=.ty "bool") rfl M.bool boot_bool rfl) Zab)))))))),?_⟩;exact ZhU (K:=K) k
abbrev Zco:Stmt:=top 5
theorem ZrB (F:Fun K "is_whole_from" "is_whole_from" Zco f fd)(M:Txt mg)(gbo:Kn P w K mg base "is_whole" 1 ["thing"] Zi4):Za6 P w K mg base CX0 2 f fd ["thing", "least"] Zgo:=by
 refine F.okl ["thing","least"] ?_
 ·rintro sc _ _ _ s H _ Q E hr⟨i,l,rfl,k⟩;refine⟨_,(Zak (ZaA (Zb5 (Zaf gbo hr rfl (Zac (pv 0) Zab)) (Zcb (Zbo Zoi (pv 0) (pv 1) (ZaN _)))))),?_⟩;exact Zi5 k
abbrev Zg1:Stmt:=top 43
theorem ZnC (F:Fun K "demand" "demand" Zg1 f fd)(M:Txt mg):Za6 P w K mg base CX0 1 f fd ["is_deed"] Za2:=by
 refine F.okl ["is_deed"] ?_
 ·rintro sc _ _ _ s H _ Q E hr⟨b,rfl,hb,k⟩;refine⟨_,(Zak (Zb0 (Zdw (Zb4 (pv 0))) ZoQ Za8)),?_⟩;exact Zg0 (K:=K) hb k
abbrev Zed:Stmt:=top 44
theorem ZjD (F:Fun K "replaced" "replaced" Zed f fd)(M:Txt mg):Za6 P w K mg base CX0 1 f fd ["pairings", "k", "coming"] Za4:=by
 refine F.okl ["pairings","k","coming"] ?_
 ·rintro sc _ _ _ s H _ Q E hr⟨a,c,k,xs,zs,rfl,h1,h2,h3,h4,h5,kk⟩;refine⟨_,(Zak (ZaA (Zax ZfP (Zax ZfP (Zb2 ZeU (pv 0) ZcD (Zcj (pv 1))) (pv 2)) (Zb2 ZeU (pv 0) (Zcj (Zax ZaF (pv 1) Zai)) ZcD)))),?_⟩;exact ZfD (K:=K) h1 h2 h3 h4 h5 kk
abbrev ZnD:Stmt:=top 53
theorem ZrD (F:Fun K "fits" "fits" ZnD f fd)(M:Txt mg)(gbp:Kn P w K mg base "is_whole_from" 2 ["thing", "least"] Zgo)(N:Nms w K mg aF aD aS g1 g2 g3 g4 g5 g6 d1 d2 d3 d4 d5 d6):Za6 P w K mg base CX0 3 f fd ["thing", "kind", "hall"] Zjb:=by
 refine F.okl ["thing","kind","hall","bound"] ?_
 ·rintro sc _ _ _ s H _ Q E hr⟨u,kd,a,pa,pb,n,ps,L,ya,yb,rfl,h,hk,k⟩
  refine⟨_,(Zae (Zb0 (ZaQ Zdz (pv 1) Zdv (ZaN _)) (Zak (ZaA (Zb5 (Zay (Zbi (T:= "str") (K:=K)) (by rfl) M.isinstance Qcj (Zac (pv 0) (Zac (Zc6 (v:=.ty "str") rfl M.str boot_str rfl) Zab))) (Zcb (Zbo (ZsK (K:=K)) (pv 0) (ZlT (v:=.ref _) rfl N.mS rfl) rfl))))) Za8)
   (Zae (PsA sc 3 (Zdi (ZaQ Zdz (pv 1) Zdv (ZaN _)) (ZaB (Zaw (K:=K)) (pv 2) Zai (fun _ _=>rfl)) (Zay (Zcm (K:=K)) (by rfl) M.len QcF (Zao (ZaB (Zaw (K:=K)) (pv 2) Zai (fun _ _=>rfl)) Zab))))
   (Zak (ZaA (Zb5 (Zaf gbp hr rfl (Zac (pv 0) (Zav Zai Zab))) (Zcb (Zbo Zey (pv 0) (pv 3) (ZaN _)))))))),?_⟩
  exact Zjc (K:=K) (aS:=aS) N.tS h hk k
abbrev ZcV:Stmt:=top 54
theorem ZnE (F:Fun K "is_formed" "is_formed" ZcV f fd)(M:Txt mg)(gbh:Kn P w K mg base "fits" 3 ["thing", "kind", "hall"] Zjb)(N:Nms w K mg aF aD aS g1 g2 g3 g4 g5 g6 d1 d2 d3 d4 d5 d6)(B:Gb mg):Za6 P w K mg base CX0 4 f fd ["hall", "deed"] (Ze8 K [("gone",g1),("folded",g2),("joined",g3),("carried",g4),("cut",g5),("free",g6)]):=by
 refine F.okl ["hall","deed","form"] ?_
 ·rintro sc _ _ _ s H _ Q E hr⟨a,pa,pb,q,g,n,ps,L,ya,yb,wo,us,kds,rfl,h,hq,hv,hg,hl,h1,h3,hk,k⟩
  refine⟨_,(Zae (Zb0 (PW.pt (Zhn (Zdw (Zb4 (Zay (Zbi (T:= "tuple") (K:=K)) (by rfl) M.isinstance Qcj (Zac (pv 1) (Zac (Zc6 (v:=.ty "tuple") rfl M.tuple Qdx rfl) Zab))))) (Zhn (Zdw (ZeF (pv 1) (fun _=>rfl))) (Zhn (Zdw (Zb4 (Zay (Zbi (T:= "str") (K:=K)) (by rfl) M.isinstance Qcj (Zao (ZaB (Zaw (K:=K)) (pv 1) Zai (fun _ _=>rfl)) (Zac (Zc6 (v:=.ty "str") rfl M.str boot_str rfl) Zab))))) (Zhl (ZlU (ZmC N.kF rfl N.mF (ZaB (Zaw (K:=K)) (pv 1) Zai (fun _ _=>rfl))))))))) (Zak (ZaA Zhk)) Za8)
   (Zae (PsA sc 2 (ZmA N.kF rfl N.mF (ZaB (Zaw (K:=K)) (pv 1) Zai (fun _ _=>rfl)) (fun _ _=>rfl)) Zc1)
   (Zae (Zb0 (ZaQ Zl1 (Zay (Zcm (K:=K)) (by rfl) M.len QcF (Zac (pv 1) Zab)) (Zax ZaF Zai (Zay (Zcm (K:=K)) (by rfl) M.len QcF (Zac (pv 2) Zab))) (ZaN _)) (Zak (ZaA Zhk)) Za8)
   (Zak (ZaA (Zay (Zgc rfl) (by rfl) M.all boot_all (ZaH (Zbk (xs:=["thing", "kind"]) (Nb:=["hall", "deed", "form"]) rfl (ZiL rfl B.zp (Zao (Zb2 (ZdW (K:=K)) (pv 1) (Zcj Zai) ZcD) (Zac (pv 2) Zab))) rfl (by show∀p∈(List.zip ["hall", "deed", "form"] ["hall", "deed", "form"]:List (Str×Str)),_;decide +kernel) (by decide +kernel) (fun cl C s₂ H₂ fp=>(ZcF (K:=K) (n:=2) rfl (Zah (PgC ["thing","kind","hall","deed","form"] 0) (Zah (PgC ["thing","kind","hall","deed","form"] 1) ZaE)))) (fun cl C s₂ H₂ fp=>ZbT) (fun cl C s₂ H₂ fp=>(Zaf gbh hr rfl (Zac (pv 0) (Zac (pv 1) (Zac (pv 2) Zab))))) (by decide +kernel) rfl (by decide +kernel) (by show∀y∈(_:List (Str×NameKind)),y.2=NameKind.free→(Zal ZcV).names.lookup y.1=some .cell;decide +kernel)) Zab))))))),?_⟩
  exact Zgy (K:=K) h hq hv hg hl h1 h3 hk k
abbrev Zg2:Stmt:=top 8
theorem ZpA (F:Fun K "end_of" "end_of" Zg2 f fd)(M:Txt mg):Za6 P w K mg base CX0 1 f fd ["pairing"] Zbe:=by
 refine F.okl ["pairing"] ?_
 ·rintro sc _ _ _ s H _ Q E hr⟨q,p,rfl,h1,k⟩;refine⟨_,(Zak (ZaA (Zax ZaF (ZaB (Zaw (K:=K)) (pv 0) Zai (fun _ _=>rfl)) (ZaB (Zaw (K:=K)) (pv 0) Zai (fun _ _=>rfl))))),?_⟩;exact Zi6 (K:=K) h1 k
abbrev Zee:Stmt:=top 9
theorem Zln (F:Fun K "shift_of" "shift_of" Zee f fd)(M:Txt mg):Za6 P w K mg base CX0 1 f fd ["pairing"] Zbt:=by
 refine F.okl ["pairing"] ?_
 ·rintro sc _ _ _ s H _ Q E hr⟨q,p,rfl,h1,k⟩;refine⟨_,(Zak (ZaA (Zax Za0 (ZaB (Zaw (K:=K)) (pv 0) Zai (fun _ _=>rfl)) (ZaB (Zaw (K:=K)) (pv 0) Zai (fun _ _=>rfl))))),?_⟩;exact Zgt (K:=K) h1 k
abbrev ZeM:Stmt:=top 7
theorem Zlo (F:Fun K "paired" "paired" ZeM f fd)(M:Txt mg):Za6 P w K mg base CX0 1 f fd ["one", "other", "long", "turned"] Zh3:=by
 refine F.okl ["one","other","long","turned"] ?_
 ·rintro sc _ _ _ s H _ Q E hr⟨i,j,l,t,rfl,k⟩;refine⟨_,(Zak (ZaA (ZaO (Zd4 (Zay (Zbl rfl) (by rfl) M.min QcW (Zac (pv 0) (Zac (pv 1) Zab))) (Zay (ZbF rfl) (by rfl) M.max Qc5 (Zac (pv 0) (Zac (pv 1) Zab))) (pv 2) (pv 3) Zab)))),?_⟩;refine⟨_,rfl,_,rfl,_,_,rfl,_,rfl,_,rfl,_,_,rfl,_,rfl,_,rfl,zL4,fun p hp=>k p hp⟩
abbrev ZjF:Stmt:=top 12
theorem ZpC (F:Fun K "short" "short" ZjF f fd)(M:Txt mg)(gce:Kn P w K mg base "paired" 1 ["one", "other", "long", "turned"] Zh3):Za6 P w K mg base CX0 2 f fd ["pairing", "skip", "many"] ZeJ:=by
 refine F.okl ["pairing","skip","many","low","high","long","turned","ahead"] ?_
 ·rintro sc _ _ _ s H _ Q E hr⟨p,low,high,long,t,u,m,rfl,hp,k⟩
  refine⟨_,(Zae (Za9 (pv 0) (ZaY rfl (Zah (PgA sc 3) (Zah (PgA sc 4) (Zah (PgA sc 5) (Zah (PgA sc 6) ZaE))))))
   (Zae (PsA sc 7 (Zdi (Zb4 (pv 6)) (Zax Za0 (Zax Za0 (pv 5) (pv 1)) (pv 2)) (pv 1)))
   (Zak (ZaA (Zaf gce hr rfl (ZaT (Zax ZaF (pv 3) (pv 1)) (ZaT (Zax ZaF (pv 4) (pv 7)) (Zac (pv 2) (Zac (pv 6) Zab))))))))),?_⟩
  refine⟨_,rfl,p,_,rfl,SqT.of hp,rfl,_,_,rfl,_,_,rfl,_,_,rfl,_,_,rfl,rfl,?_⟩;refine⟨_,rfl,_,rfl,?_⟩
  cases t with
  |true=>
   refine Zcl ?_;refine⟨_,rfl,_,rfl,_,_,rfl,rfl,_,rfl,_,_,rfl,rfl,?_⟩;exact⟨_,rfl,_,rfl,_,_,rfl,rfl,_,rfl,_,rfl,_,_,rfl,rfl,_,rfl,_,rfl,_,_,_,_,rfl,k⟩
  |false=>
   refine Zcd ?_;refine⟨_,rfl,?_⟩;exact⟨_,rfl,_,rfl,_,_,rfl,rfl,_,rfl,_,rfl,_,_,rfl,rfl,_,rfl,_,rfl,_,_,_,_,rfl,k⟩
theorem ZnG (F:Fun K "paired" "paired" ZeM f fd)(M:Txt mg):Za6 P w K mg base CX0 1 f fd ["one", "other", "long", "turned"] ZeI:=by
 refine F.okl ["one","other","long","turned"] ?_
 ·rintro sc _ _ _ s H _ Q E hr⟨i,j,g,t,rfl,k⟩;refine⟨_,(Zak (ZaA (ZaO (Zd4 (Zay (Zbl rfl) (by rfl) M.min QcW (Zac (pv 0) (Zac (pv 1) Zab))) (Zay (ZbF rfl) (by rfl) M.max Qc5 (Zac (pv 0) (Zac (pv 1) Zab))) (pv 2) (pv 3) Zab)))),?_⟩;exact Zh1 k
abbrev ZrE:Stmt:=top 10
theorem Ztx (F:Fun K "led" "led" ZrE f fd)(M:Txt mg):Za6 P w K mg base CX0 1 f fd ["begin", "goal", "long", "turned", "place"] Zrf:=by
 refine F.okl ["begin","goal","long","turned","place","steps"] ?_
 ·rintro sc _ _ _ s H _ Q E hr⟨b,g,l,x,rfl,h1,h2,k⟩
  refine⟨_,(Zae (Zb0 (Zdw (Zok ZiA Zey (pv 0) (pv 4) (Zax ZaF (pv 0) (pv 2)))) (Zak (ZaA ZlS)) Za8)
   (Zae (PsA sc 5 (Zax Za0 (pv 4) (pv 0)))
   (Zak (ZaA (Zdi (Zb4 (pv 3)) (Zax Za0 (Zax Za0 (Zax ZaF (pv 1) (pv 2)) Zai) (pv 5)) (Zax ZaF (pv 1) (pv 5))))))),?_⟩
  exact Zm6 h1 h2 k
abbrev ZnH:Stmt:=top 11
theorem ZrG (F:Fun K "back" "back" ZnH f fd)(M:Txt mg)(gbv:Kn P w K mg base "led" 1 ["begin", "goal", "long", "turned", "place"] Zrf):Za6 P w K mg base CX0 2 f fd ["pairing", "place"] Zjd:=by
 refine F.okl ["pairing","place","low","high","long","turned"] ?_
 ·rintro sc _ _ _ s H _ Q E hr⟨q,p,x,rfl,h1,h2,h3,h4,k⟩
  refine⟨_,(Zae (Za9 (pv 0) (ZaY rfl (Zah (PgA sc 2) (Zah (PgA sc 3) (Zah (PgA sc 4) (Zah (PgA sc 5) ZaE))))))
   (Zak (ZaA (Zaf gbv hr rfl (Zac (pv 3) (Zac (pv 2) (Zac (pv 4) (Zac (pv 5) (Zac (pv 1) Zab))))))))),?_⟩
  exact Zje (K:=K) h1 h2 h3 h4 k
abbrev Zfm:Stmt:=top 13
theorem ZnI (F:Fun K "is_turn" "is_turn" Zfm f fd)(M:Txt mg):Za6 P w K mg base CX0 1 f fd ["pairing"] Zdn:=by
 refine F.okl ["pairing","low","high","long","turned"] ?_
 ·rintro sc _ _ _ s H _ Q E hr⟨q,p,rfl,h1,k⟩
  refine⟨_,(Zae (Za9 (pv 0) (ZaY rfl (Zah (PgA sc 1) (Zah (PgA sc 2) (Zah (PgA sc 3) (Zah (PgA sc 4) ZaE))))))
   (Zak (ZaA (Zb5 (ZeQ (pv 4)) (Zcb (Zoj Zey ZiA (pv 1) (pv 2) (Zax ZaF (pv 1) (pv 3)))))))),?_⟩
  exact Zgu (K:=K) h1 k
abbrev Zg3:Stmt:=top 31
theorem ZpD (F:Fun K "may_go" "may_go" Zg3 f fd)(M:Txt mg):Za6 P w K mg base CX0 1 f fd ["pairing"] ZdG:=by
 refine F.okl ["pairing","low","high","long","turned"] ?_
 ·rintro sc _ _ _ s H _ Q E hr⟨q,p,rfl,h1,k⟩
  refine⟨_,(Zae (Za9 (pv 0) (ZaY rfl (Zah (PgA sc 1) (Zah (PgA sc 2) (Zah (PgA sc 3) (Zah (PgA sc 4) ZaE))))))
   (Zak (ZaA (Zb5 (Zbo Zdz (pv 1) (pv 2) (ZaN _)) (Zcb (Zr5 (ZeQ (pv 4)) (Zcb (Zbo Zdz (pv 3) Zai (ZaN _))))))))),?_⟩
  exact ZiU (K:=K) h1 k
abbrev Zef:Stmt:=top 32
theorem Zlq (F:Fun K "may_fold" "may_fold" Zef f fd)(M:Txt mg)(gca:Kn P w K mg base "may_go" 1 ["pairing"] ZdG):Za6 P w K mg base CX0 2 f fd ["pairing"] Zdb:=by
 refine F.okl ["pairing","low","high","long","turned"] ?_
 ·rintro sc _ _ _ s H _ Q E hr⟨q,p,rfl,h1,k⟩
  refine⟨_,(Zae (Za9 (pv 0) (ZaY rfl (Zah (PgA sc 1) (Zah (PgA sc 2) (Zah (PgA sc 3) (Zah (PgA sc 4) ZaE))))))
   (Zak (ZaA (Zb5 (pv 4) (Zb5 (Zbo Zey (pv 2) (Zax ZaF (pv 1) (pv 3)) (ZaN _)) (Zcb (ZeQ (Zaf gca hr rfl (Zac (pv 0) Zab))))))))),?_⟩
  exact Zgr (K:=K) h1 k
abbrev Zg4:Stmt:=top 33
theorem ZnL (F:Fun K "folded" "folded" Zg4 f fd)(M:Txt mg):Za6 P w K mg base CX0 1 f fd ["pairing"] Zgs:=by
 refine F.okl ["pairing","low","high","long","turned","both","many"] ?_
 ·rintro sc _ _ _ s H _ Q E hr⟨q,p,rfl,h1,k⟩
  refine⟨_,(Zae (Za9 (pv 0) (ZaY rfl (Zah (PgA sc 1) (Zah (PgA sc 2) (Zah (PgA sc 3) (Zah (PgA sc 4) ZaE))))))
   (Zae (PsA sc 5 (Zax Za0 (Zax ZaF (Zax ZaF (pv 1) (pv 2)) (pv 3)) Zai))
   (Zae (PsA sc 6 (Zax Za0 (Zax Zdk (Zax ZaF (pv 5) Zai) Zai) (pv 1)))
   (Zak (ZaA (ZaO (Zd4 (pv 1) (Zax Za0 (Zax Za0 (Zax ZaF (pv 5) Zai) (pv 1)) (pv 6)) (pv 6) Zhk Zab))))))),?_⟩
  exact ZhV (K:=K) h1 k
abbrev Zeg:Stmt:=top 34
theorem Zlr (F:Fun K "may_join" "may_join" Zeg f fd)(M:Txt mg)(gbn:Kn P w K mg base "is_turn" 1 ["pairing"] Zdn)(gbg:Kn P w K mg base "end_of" 1 ["pairing"] Zbe)(gck:Kn P w K mg base "shift_of" 1 ["pairing"] Zbt):Za6 P w K mg base CX0 2 f fd ["one", "other"] Zdc:=by
 refine F.okl ["one","other","shared"] ?_
 ·rintro sc _ _ _ s H _ Q E hr⟨a,b,p,q,rfl,h1,h2,k⟩
  refine⟨_,(Zae (Zb0 (PW.pt (Zhn (Zdw (Zb4 (Zaf gbn hr rfl (Zac (pv 0) Zab)))) (Zhl (Zdw (Zb4 (Zaf gbn hr rfl (Zac (pv 1) Zab))))))) (Zak (ZaA Zhk)) Za8)
   (Zae (PsA sc 2 (Zax Za0 (Zay (Zbl rfl) (by rfl) M.min QcW (ZaG (Zaf gbg hr rfl (Zac (pv 0) Zab)) (ZaG (Zaf gbg hr rfl (Zac (pv 1) Zab)) Zab))) (Zay (ZbF rfl) (by rfl) M.max Qc5 (Zao (ZaB (Zaw (K:=K)) (pv 0) Zai (fun _ _=>rfl)) (Zao (ZaB (Zaw (K:=K)) (pv 1) Zai (fun _ _=>rfl)) Zab)))))
   (Zak (ZaA (Zbo Zoi (pv 2) (Zax ZaF (Zaf gck hr rfl (Zac (pv 0) Zab)) (Zaf gck hr rfl (Zac (pv 1) Zab))) (ZaN _)))))),?_⟩
  exact Zgv (K:=K) h1 h2 k
abbrev ZbW:Stmt:=top 35
theorem Zty (F:Fun K "greatest_divisor" "greatest_divisor" ZbW f fd)(M:Txt mg):Za6 P w K mg base CX0 1 f fd ["one", "other"] Zq9:=by
 refine F.okl ["one","other"] ?_
 ·rintro sc _ _ _ s H _ Q E hr⟨a,b,rfl,k⟩
  refine⟨_,(Zae (ZcO QaH (ZeF (pv 1) (fun _=>rfl)) (Zak (Zr7 (i:=0) (j:=1) rfl sc rfl rfl (by decide) rfl rfl (ZbZ (pv 1) (Zax Zcs (pv 0) (pv 1)) Zab) rfl)))
   (Zak (ZaA (pv 0)))),?_⟩
  exact Zm1 (K:=K) k
abbrev Zg5:Stmt:=top 36
theorem ZnN (F:Fun K "joined" "joined" Zg5 f fd)(M:Txt mg)(gbk:Kn P w K mg base "greatest_divisor" 1 ["one", "other"] Zq9)(gck:Kn P w K mg base "shift_of" 1 ["pairing"] Zbt)(gbg:Kn P w K mg base "end_of" 1 ["pairing"] Zbe):Za6 P w K mg base CX0 2 f fd ["one", "other"] Zgw:=by
 refine F.okl ["one","other","shift","low","end"] ?_
 ·rintro sc _ _ _ s H _ Q E hr⟨a,b,p,q,rfl,h1,h2,h3,k⟩
  refine⟨_,(Zae (PsA sc 2 (Zaf gbk hr rfl (ZaG (Zaf gck hr rfl (Zac (pv 0) Zab)) (ZaG (Zaf gck hr rfl (Zac (pv 1) Zab)) Zab))))
   (Zae (PsA sc 3 (Zay (Zbl rfl) (by rfl) M.min QcW (Zao (ZaB (Zaw (K:=K)) (pv 0) Zai (fun _ _=>rfl)) (Zao (ZaB (Zaw (K:=K)) (pv 1) Zai (fun _ _=>rfl)) Zab))))
   (Zae (PsA sc 4 (Zay (ZbF rfl) (by rfl) M.max Qc5 (ZaG (Zaf gbg hr rfl (Zac (pv 0) Zab)) (ZaG (Zaf gbg hr rfl (Zac (pv 1) Zab)) Zab))))
   (Zak (ZaA (ZaO (Zd4 (pv 3) (Zax ZaF (pv 3) (pv 2)) (Zax Za0 (Zax Za0 (pv 4) (pv 3)) (pv 2)) Zhk Zab))))))),?_⟩
  exact ZhW (K:=K) h1 h2 h3 k
abbrev Zeh:Stmt:=top 37
theorem Zls (F:Fun K "may_lead" "may_lead" Zeh f fd)(M:Txt mg):Za6 P w K mg base CX0 1 f fd ["pairing"] Zdd:=by
 refine F.okl ["pairing","low","high","long","turned"] ?_
 ·rintro sc _ _ _ s H _ Q E hr⟨q,p,rfl,h1,k⟩
  refine⟨_,(Zae (Za9 (pv 0) (ZaY rfl (Zah (PgA sc 1) (Zah (PgA sc 2) (Zah (PgA sc 3) (Zah (PgA sc 4) ZaE))))))
   (Zak (ZaA (Zb5 (Zbo Zey (pv 1) (pv 2) (ZaN _)) (Zcb (Zr5 (ZeQ (pv 4)) (Zcb (Zbo Zoi (pv 2) (Zax ZaF (pv 1) (pv 3)) (ZaN _))))))))),?_⟩
  exact Zgz (K:=K) h1 k
abbrev Zei:Stmt:=top 38
theorem Zlt (F:Fun K "begin_at" "begin_at" Zei f fd)(M:Txt mg)(N:Nms w K mg aF aD aS g1 g2 g3 g4 g5 g6 d1 d2 d3 d4 d5 d6):Za6 P w K mg base CX0 1 f fd ["pairing", "side"] Zde:=by
 refine F.okl ["pairing","side"] ?_
 ·rintro sc _ _ _ s H _ Q E hr⟨q,p,s0,rfl,h1,h2,k⟩;refine⟨_,(Zak (ZaA (ZaB (Zaw (K:=K)) (pv 0) (ZsI (K:=K) PySem.F.plainAttrs_tuple PySem.F.slot_tuple_index PySem.F.type_tuple_index (Zm5 (K:=K)) (ZlT (v:=.ref _) rfl N.mS rfl) (Zac (pv 1) Zab)) (fun _ _=>rfl)))),?_⟩;exact ZgA (K:=K) (aS:=aS) N.tS N.dS h1 h2 k
abbrev ZdK:Stmt:=top 39
theorem ZjK (F:Fun K "may_carry" "may_carry" ZdK f fd)(M:Txt mg)(gaq:Kn P w K mg base "begin_at" 1 ["pairing", "side"] Zde)(gcc:Kn P w K mg base "may_lead" 1 ["pairing"] Zdd)(gbg:Kn P w K mg base "end_of" 1 ["pairing"] Zbe):Za6 P w K mg base CX0 2 f fd ["leader", "pairing", "side"] ZcM:=by
 refine F.okl ["leader","pairing","side","begin"] ?_
 ·rintro sc _ _ _ s H _ Q E hr⟨a,b,l,p,s0,rfl,h1,h2,h3,k⟩
  refine⟨_,(Zae (PsA sc 3 (Zaf gaq hr rfl (Zac (pv 1) (Zac (pv 2) Zab))))
   (Zak (ZaA (Zb5 (Zaf gcc hr rfl (Zac (pv 0) Zab)) (Zb5 (Zbo ZiA (ZaB (Zaw (K:=K)) (pv 0) Zai (fun _ _=>rfl)) (pv 3) (ZaN _)) (Zcb (Zbo ZiA (Zax ZaF (pv 3) (ZaB (Zaw (K:=K)) (pv 1) Zai (fun _ _=>rfl))) (Zaf gbg hr rfl (Zac (pv 0) Zab)) (ZaN _)))))))),?_⟩
  exact ZfE (K:=K) h1 h2 h3 k
abbrev Zfn:Stmt:=top 40
theorem Zlv (F:Fun K "carried" "carried" Zfn f fd)(M:Txt mg)(gaq:Kn P w K mg base "begin_at" 1 ["pairing", "side"] Zde)(gce:Kn P w K mg base "paired" 1 ["one", "other", "long", "turned"] ZeI)(gao:Kn P w K mg base "back" 2 ["pairing", "place"] Zjd)(gck:Kn P w K mg base "shift_of" 1 ["pairing"] Zbt):Za6 P w K mg base CX0 3 f fd ["leader", "pairing", "side"] Ze9:=by
 refine F.okl ["leader","pairing","side","low","high","long","turned","begin","other","goal"] ?_
 ·rintro sc _ _ _ s H _ Q E hr⟨a,b,l,p,s0,rfl,h1,h2,h3,h4,h5,k⟩
  refine⟨_,(Zae (Za9 (pv 1) (ZaY rfl (Zah (PgA sc 3) (Zah (PgA sc 4) (Zah (PgA sc 5) (Zah (PgA sc 6) ZaE))))))
   (Zae (PsA sc 7 (Zaf gaq hr rfl (Zac (pv 1) (Zac (pv 2) Zab))))
   (Zae (PsA sc 8 (Zax Za0 (Zax ZaF (pv 3) (pv 4)) (pv 7)))
   (Zae (Zb0 (Zb4 (ZaB (Zaw (K:=K)) (pv 0) Zai (fun _ _=>rfl))) (Zak (ZaA (Zaf gce hr rfl (ZaG (Zaf gao hr rfl (Zac (pv 0) (ZaT (Zax Za0 (Zax ZaF (pv 7) (pv 5)) Zai) Zab))) (Zac (pv 8) (Zac (pv 5) (ZfS (ZeQ (pv 6)) Zab))))))) Za8)
   (Zae (PsA sc 9 (Zax ZaF (ZaB (Zaw (K:=K)) (pv 0) Zai (fun _ _=>rfl)) (Zax Zcs (Zax Za0 (pv 7) (ZaB (Zaw (K:=K)) (pv 0) Zai (fun _ _=>rfl))) (Zaf gck hr rfl (Zac (pv 0) Zab)))))
   (Zak (ZaA (Zaf gce hr rfl (Zac (pv 9) (Zac (pv 8) (Zac (pv 5) (Zac (pv 6) Zab)))))))))))),?_⟩
  exact ZgB (K:=K) h1 h2 h3 h4 h5 k
abbrev Zdf:Stmt:=top 41
theorem ZrH (F:Fun K "kept_below" "kept_below" Zdf f fd)(M:Txt mg)(gcl:Kn P w K mg base "short" 2 ["pairing", "skip", "many"] ZeJ):Za6 P w K mg base CX0 3 f fd ["pairing", "end"] Zjg:=by
 refine F.okl ["pairing","end","low","high","long","turned","many"] ?_
 ·rintro sc _ _ _ s H _ Q E hr⟨q,p,e,rfl,h1,h2,h3,h4,k⟩
  refine⟨_,(Zae (Za9 (pv 0) (ZaY rfl (Zah (PgA sc 2) (Zah (PgA sc 3) (Zah (PgA sc 4) (Zah (PgA sc 5) ZaE))))))
   (Zae (PsA sc 6 (Zax Za0 (pv 1) (pv 3)))
   (Zae (Zb0 (ZaQ Zdz (pv 6) Zai (ZaN _)) (Zak (ZaA (ZaR Zab))) Za8)
   (Zak (ZaA (ZaR (ZaG (Zaf gcl hr rfl (Zac (pv 0) (ZaH (Zdi (Zb4 (pv 5)) (Zax Za0 (pv 4) (pv 6)) Zai) (Zac (pv 6) Zab)))) Zab))))))),?_⟩
  exact Zlf (K:=K) h1 h2 h3 h4 k
abbrev ZcA:Stmt:=top 45
theorem ZnO (F:Fun K "all_end_by" "all_end_by" ZcA f fd)(M:Txt mg)(gbg:Kn P w K mg base "end_of" 1 ["pairing"] Zbe):Za6 P w K mg base CX0 2 f fd ["pairings", "end"] ZdX:=by
 refine F.okl ["pairings","end"] ?_
 ·rintro sc _ _ _ s H _ Q E hr⟨a,ya,ps,e,rfl,h1,h2,h3,k⟩;refine⟨_,(Zak (ZaA (Zay (Zgc rfl) (by rfl) M.all boot_all (ZaH (Zbk (xs:=["pairing"]) (Nb:=["pairings", "end"]) rfl (Zbn (pv 0)) rfl (by show∀p∈(List.zip ["pairings", "end"] ["pairings", "end"]:List (Str×Str)),_;decide +kernel) (by decide +kernel) (fun cl C s₂ H₂ fp=>(PgC ["pairing","pairings","end"] 0)) (fun cl C s₂ H₂ fp=>ZbT) (fun cl C s₂ H₂ fp=>(Zbo ZiA (Zaf gbg hr rfl (Zac (pv 0) Zab)) (pv 2) (ZaN _))) (by decide +kernel) rfl (by decide +kernel) (by show∀y∈(_:List (Str×NameKind)),y.2=NameKind.free→(Zal ZcA).names.lookup y.1=some .cell;decide +kernel)) Zab)))),?_⟩;exact ZhZ (K:=K) h1 h2 h3 k
abbrev Zg8:Stmt:=top 15
theorem ZnQ (F:Fun K "shaped" "shaped" Zg8 f fd)(M:Txt mg):Za6 P w K mg base CX0 1 f fd ["pieces"] (Zcy K):=by
 refine F.okl ["pieces","runs","many","weights"] ?_
 ·rintro sc _ _ _ s H _ Q E hr⟨a,xs,L,rfl,h1,h2,h3,h4,k⟩
  refine⟨_,(Zae (PsA sc 1 (ZaR Zab))
   (Zae (ZbC QaH rfl (Zbn (pv 0)) (ZaY rfl (Zah (PgA sc 2) (Zah (PgA sc 3) ZaE)))
   (Zae (Zb0 (ZaQ Zdz (pv 2) Zai (ZaN _)) (Zak Ziz) Za8)
   (Zak (Zb0 (PW.pt (Zhm (ZeF (pv 1) (fun _=>rfl)) (Zf1 (ZaQ (ZpW hr) (ZaB (Zaw (K:=K)) (ZaB (Zaz (K:=K)) (pv 1) (Zex ZcZ Zai) (fun _ _=>rfl)) Zai (fun _ _=>rfl)) (pv 3) (ZaN _))))) (Zak (Za9 (ZaO (ZbZ (Zax ZaF (ZaB (Zaw (K:=K)) (ZaB (Zaz (K:=K)) (pv 1) (Zex ZcZ Zai) (fun _ _=>rfl)) Zai (fun _ _=>rfl)) (pv 2)) (pv 3) Zab)) (Zho (pv 1) (Zex ZcZ Zai) ZdU))) (Zak (ZaP (ZdB QaV Qa1 Qa2 Zbm (pv 1) (Zbb (ZaO (ZbZ (pv 2) (pv 3) Zab)) Zab))))))))
   (Zak (ZaA (pv 1))))),?_⟩
  exact ZhX h1 h2 h3 h4 k
abbrev ZdL:Stmt:=top 17
theorem ZrI (F:Fun K "laid_from" "laid_from" ZdL f fd)(M:Txt mg):Za6 P w K mg base CX0 1 f fd ["weighing", "begin"] (ZhY K):=by
 refine F.okl ["weighing","begin","stretches","many","weights"] ?_
 ·rintro sc _ _ _ s H _ Q E hr⟨a,xs,L,bg,rfl,h1,h2,h3,k⟩
  refine⟨_,(Zae (PsA sc 2 (ZaR Zab))
   (Zae (ZbC QaH rfl (Zbn (pv 0)) (ZaY rfl (Zah (PgA sc 3) (Zah (PgA sc 4) ZaE)))
   (Zae (ZaP (ZdB QaV Qa1 Qa2 Zbm (pv 2) (Zbb (ZaO (Zds (pv 1) (Zax ZaF (pv 1) (pv 3)) (pv 4) Zab)) Zab)))
   (Zak (ZjZ (i:=1) sc rfl (Or.inl rfl) (pv 3) Zj0))))
   (Zak (ZaA (pv 2))))),?_⟩
  exact Zla h1 h2 h3 k
abbrev ZnR:Stmt:=top 18
theorem ZrK (F:Fun K "part" "part" ZnR f fd)(M:Txt mg)(gbt:Kn P w K mg base "laid_from" 1 ["weighing", "begin"] (ZhY K))(gcj:Kn P w K mg base "shaped" 1 ["pieces"] (Zcy K)):Za6 P w K mg base CX0 2 f fd ["weighing", "begin", "end"] (Zev K):=by
 refine F.okl ["weighing","begin","end","pieces","low","high","weights"] ?_
 ·rintro sc _ _ _ s H _ Q E hr⟨a,xs,L,bg,en,rfl,h1,h2,h3,h4,h5,k⟩
  refine⟨_,(Zae (PsA sc 3 (ZaR Zab))
   (Zae (ZbC QaH rfl (Zbn (Zaf gbt hr rfl (Zac (pv 0) (Zav Zai Zab)))) (ZaY rfl (Zah (PgA sc 4) (Zah (PgA sc 5) (Zah (PgA sc 6) ZaE))))
   (Zak (Zb0 (PW.pt (Zhm (ZaQ Zey (pv 4) (pv 2) (ZaN _)) (Zf1 (ZaQ Zey (pv 1) (pv 5) (ZaN _))))) (Zak (ZaP (ZdB QaV Qa1 Qa2 Zbm (pv 3) (Zbb (ZaO (ZbZ (Zax Za0 (Zay (Zbl rfl) (by rfl) M.min QcW (Zac (pv 5) (Zac (pv 2) Zab))) (Zay (ZbF rfl) (by rfl) M.max Qc5 (Zac (pv 4) (Zac (pv 1) Zab)))) (pv 6) Zab)) Zab)))) Za8)))
   (Zak (ZaA (Zaf gcj hr rfl (Zac (pv 3) Zab)))))),?_⟩
  exact Zlb h1 h2 h3 h4 h5 k
abbrev ZjL:Stmt:=top 27
theorem ZpF (F:Fun K "sorts" "sorts" ZjL f fd)(M:Txt mg):Za6 P w K mg base CX0 1 f fd ["weighing"] (Ze7 K):=by
 refine F.okl ["weighing","manys","many","weights"] ?_
 ·rintro sc _ _ _ s H _ Q E hr⟨a,xs,W,rfl,h1,h2,h3,k⟩
  refine⟨_,(Zae (PsA sc 1 Zkg)
   (Zae (ZbC QaH rfl (Zbn (pv 0)) (ZaY rfl (Zah (PgA sc 2) (Zah (PgA sc 3) ZaE)))
   (Zak (Ze2 (Zd2 hr) (pv 1) (pv 3) (Zax ZaF (ZeH (Zd2 hr) (pv 1) (pv 3) Zai ⟨rfl,rfl,rfl,rfl⟩) (pv 2)) rfl)))
   (Zak (ZaA (Zay (Zeu hr) (by rfl) M.sorted boot_sorted (ZaG (ZhQ (pv 1)) Zab)))))),?_⟩
  exact Zi7 h1 h2 h3 k
end
section
variable {K:FJ}
abbrev ZeN:Stmt:=top 16
theorem ZnT (F:Fun K "length" "length" ZeN f fd)(M:Txt mg):Za6 P w K mg base CX0 1 f fd ["weighing"] (Zfb K):=by
 refine F.okl ["weighing"] ?_
 ·rintro sc _ _ _ s H _ Q E hr⟨a,xs,L,rfl,hS,g,hL,k⟩;refine⟨_,(Zak (ZaA (Zay (Zj9 rfl) (by rfl) M.sum boot_sum (ZaH (Zbk (xs:=["many", "weights"]) (Nb:=["weighing"]) rfl (Zbn (pv 0)) rfl (by show∀p∈(List.zip ["weighing"] ["weighing"]:List (Str×Str)),_;decide +kernel) (by decide +kernel) (fun cl C s₂ H₂ fp=>(ZcF (K:=K) (n:=2) rfl (Zah (PgC ["many","weights","weighing"] 0) (Zah (PgC ["many","weights","weighing"] 1) ZaE)))) (fun cl C s₂ H₂ fp=>ZbT) (fun cl C s₂ H₂ fp=>(pv 0)) (by decide +kernel) rfl (by decide +kernel) (by show∀y∈(_:List (Str×NameKind)),y.2=NameKind.free→(Zal ZeN).names.lookup y.1=some .cell;decide +kernel)) Zab)))),?_⟩;refine⟨_,rfl,a,rfl,⟨_,hS⟩,ZkS (K:=K) (a:=a) (xs:=xs) (fun i ys H'=>ys=((L.take i).map (·.1)).map V.int∧H=H') ⟨rfl,rfl⟩ (by rw[g.1];exact hL) (fun i ys H' h=>by rw[h.1,Qaf,Qaf,Qax];omega) (fun i ys H' _ h=>by rw[←h.2];exact hS) ?_ ?_⟩
  ·rintro i x ys H' pre hp hx ⟨rfl,rfl⟩;obtain⟨e,hei,q,wq,rfl,hq,hw⟩:=g.at' hx;rcases pre with _|⟨p0,_|⟨p1,_|⟨p2,pre⟩⟩⟩
   ·cases hp
   ·cases hp
   ·refine⟨q,_,rfl,SqT.of hq,rfl,_,_,rfl,_,_,rfl,rfl,⟨[some _,some _],rfl,rfl⟩,?_⟩;unfold Zes;dsimp only;rw[Qp (rfl:true=true)];refine⟨_,rfl,?_,rfl⟩;rw[ZaJ hei];simp
   ·cases hp
  ·rintro ys H' ⟨rfl,rfl⟩ D hD;refine⟨D,_,rfl,SqL.of Zad,?_⟩;have e:L.take xs.length=L:=by rw[g.1];exact Qa3
   rw[e];exact k _ (Zam.nw (Zam.refl _) hD)
end
section
variable {K:FJ}
abbrev ZbM:Stmt:=top 20
theorem Ztz (F:Fun K "sum_of_weights" "sum_of_weights" ZbM f fd)(M:Txt mg)(B:Gb mg):Za6 P w K mg base CX0 1 f fd ["one", "other"] Zfl:=by
 refine F.okl ["one","other"] ?_
 ·rintro sc _ _ _ s H _ Q E hr⟨p,q,us,ws,rfl,h1,h2,h3,h4,k⟩;refine⟨_,(Zak (ZaA (Za1 ZbS (by rfl) M.tuple Qdx (ZaH (Zbk (xs:=["weight", "more"]) (Nb:=["one", "other"]) rfl (ZiL rfl B.zp (Zac (pv 0) (Zac (pv 1) Zab))) rfl (by show∀p∈(List.zip ["one", "other"] ["one", "other"]:List (Str×Str)),_;decide +kernel) (by decide +kernel) (fun cl C s₂ H₂ fp=>(ZcF (K:=K) (n:=2) rfl (Zah (PgC ["weight","more","one","other"] 0) (Zah (PgC ["weight","more","one","other"] 1) ZaE)))) (fun cl C s₂ H₂ fp=>ZbT) (fun cl C s₂ H₂ fp=>(Zax ZaF (pv 0) (pv 1))) (by decide +kernel) rfl (by decide +kernel) (by show∀y∈(_:List (Str×NameKind)),y.2=NameKind.free→(Zal ZbM).names.lookup y.1=some .cell;decide +kernel)) Zab)))),?_⟩;exact ZfZ h1 h2 h3 h4 k
abbrev ZcW:Stmt:=top 78
theorem ZpG (F:Fun K "_law_plus" "_law_plus" ZcW f fd)(M:Txt mg)(B:Gb mg):Za6 P w K mg base CX0 1 f fd ["_law_one", "_law_other"] Zfl:=by
 refine F.okl ["_law_one","_law_other"] ?_
 ·rintro sc _ _ _ s H _ Q E hr⟨p,q,us,ws,rfl,h1,h2,h3,h4,k⟩;refine⟨_,(Zak (ZaA (Za1 ZbS (by rfl) M.tuple Qdx (ZaH (Zbk (xs:=["_law_here", "_law_there"]) (Nb:=["_law_one", "_law_other"]) rfl (ZiL rfl B.zp (Zac (pv 0) (Zac (pv 1) Zab))) rfl (by show∀p∈(List.zip ["_law_one", "_law_other"] ["_law_one", "_law_other"]:List (Str×Str)),_;decide +kernel) (by decide +kernel) (fun cl C s₂ H₂ fp=>(ZcF (K:=K) (n:=2) rfl (Zah (PgC ["_law_here","_law_there","_law_one","_law_other"] 0) (Zah (PgC ["_law_here","_law_there","_law_one","_law_other"] 1) ZaE)))) (fun cl C s₂ H₂ fp=>ZbT) (fun cl C s₂ H₂ fp=>(Zax ZaF (pv 0) (pv 1))) (by decide +kernel) rfl (by decide +kernel) (by show∀y∈(_:List (Str×NameKind)),y.2=NameKind.free→(Zal ZcW).names.lookup y.1=some .cell;decide +kernel)) Zab)))),?_⟩;exact ZfZ h1 h2 h3 h4 k
end
structure Zus (A B R:Wl):Prop where
 nrm:ZbG R
 sum:tot R=tot A
 at':∀p,0≤p→p<tot A→atW R p=plusW (atW A p) (atW B p)
 wid:∀n:Nat,(∀e∈A,e.2.length=n)→(∀e∈B,e.2.length=n)→∀e∈R,e.2.length=n
 len:R.length≤A.length+B.length+1
theorem Zqp {e:Int×List Int}(hA:∀e∈A,0≤e.1)(he:A[i]?=some e)(h1:tot (A.take i)≤p)(h2:p<tot (A.take (i+1))):atW A p=e.2:=by
 obtain⟨hi,ee⟩:=Qab.mp he
 have sp:A=A.take i++e::A.drop (i+1):=by
  conv=>lhs;rw[←Qcr i A,Qb5 hi,ee]
 rw[ZcQ he] at h2;obtain⟨m,u⟩:=e;have h2:p<tot (A.take i)+m:=h2;rw[congrArg (fun z=>atW z p) sp];show atW (A.take i++(m,u)::A.drop (i+1)) p=u;rw[ZbV (fun e he=>hA e (Qbf he)) h1,atW_lt (by omega)]
theorem ZrL (hM:∀e∈M,0≤e.1)(h1:tot M≤p)(h2:p<tot M+m):atW (M++ [(m,u)]) p=u:=by
 rw[ZbV hM h1,atW_lt (by omega)]
def Cur (A:Wl)(i:Nat)(bg:Int):Prop:=(∃e,A[i]?=some e∧tot (A.take i)≤bg∧bg<tot (A.take (i+1)))∨(i=A.length∧bg=tot A)
theorem Zf0 (pA:∀e∈A,0<e.1)(h:i≤A.length):Cur A i (tot (A.take i)):=by
 by_cases z:i<A.length
 ·refine .inl ⟨_,Qad z,QaL _,?_⟩;rw[ZcQ (Qad z)]
  have:=pA _ (List.getElem_mem z);omega
 ·have e:i=A.length:=by omega
  exact .inr ⟨e,by rw[e,Qa3]⟩
section
variable {K:FJ}
def ZnU:Sp:=fun vs H Q _=>∃(a b:Addr)(xs ys:List V)(A B:Wl)(wd:Nat),vs=[.ref a,.ref b]∧H a=some (.lst xs)∧H b=some (.lst ys)∧Wg H xs A∧Wg H ys B∧(∀e∈A,0<e.1)∧(∀e∈B,0<e.1)∧tot A=tot B∧A.length≤200∧B.length≤200∧wd≤24∧(∀e∈A,e.2.length=wd)∧(∀e∈B,e.2.length=wd)∧
 ∀(r:Addr)(zs:List V)(R:Wl)(H':Hp),H r=none→H' r=some (.lst zs)→Wg H' zs R→Zus A B R→Zam H H'→Q (.ref r) H'
abbrev ZjM:Stmt:=top 24
theorem ZpH:Zas ["one", "other", "stretches", "others", "pieces", "begin", "at", "by", "end"] ["one", "other"] (Zal ZjM):=⟨rfl,rfl,rfl,by decide +kernel,rfl,by decide +kernel,by decide +kernel⟩
theorem ZpI (F:Fun K "added" "added" ZjM f fd)(M:Txt mg)(gbt:Kn P w K mg base "laid_from" 1 ["weighing", "begin"] (ZhY K))(gcn:Kn P w K mg base "sum_of_weights" 1 ["one", "other"] Zfl)(gcj:Kn P w K mg base "shaped" 1 ["pieces"] (Zcy K)):Za6 P w K mg base CX0 2 f fd ["one", "other"] ZnU:=by
 have sd:=ZpH;have sc:=sd.nd;refine F.ok sd (fun vs H Q E h=> ?_) (fun cdv A' outer s H vs Q E hr h=> ?_)
 ·obtain⟨a,b,xs,ys,A,B,wd,rfl,_⟩:=h;rfl
 ·obtain⟨a,b,xs,ys,A,B,wd,rfl,ha,hb,ga,gb,pA,pB,ht,lA,lB,w24,wA,wB,k⟩:=h
  refine⟨_,(Zae (PsA sc 2 (Zaf gbt hr rfl (Zac (pv 0) (Zav Zai Zab))))
   (Zae (PsA sc 3 (Zaf gbt hr rfl (Zac (pv 1) (Zav Zai Zab))))
   (Zae (PsA sc 4 (ZaR Zab))
   (Zae (ZqK Zai (PgA sc 5) (PgA sc 6) (PgA sc 7))
   (Zae (ZcO QaH (ZaQ Zey (pv 6) (Zay (Zcm (K:=K)) (by rfl) M.len QcF (Zac (pv 2) Zab)) (ZaN _)) (Zae (PsA sc 8 (Zay (Zbl rfl) (by rfl) M.min QcW (Zao (ZaB (Zaw (K:=K)) (ZaB (Zaz (K:=K)) (pv 2) (pv 6) (fun _ _=>rfl)) Zai (fun _ _=>rfl)) (Zao (ZaB (Zaw (K:=K)) (ZaB (Zaz (K:=K)) (pv 3) (pv 7) (fun _ _=>rfl)) Zai (fun _ _=>rfl)) Zab))))
   (Zae (ZaP (ZdB QaV Qa1 Qa2 Zbm (pv 4) (Zbb (ZaO (ZbZ (Zax Za0 (pv 8) (pv 5)) (Zaf gcn hr rfl (Zao (ZaB (Zaw (K:=K)) (ZaB (Zaz (K:=K)) (pv 2) (pv 6) (fun _ _=>rfl)) Zai (fun _ _=>rfl)) (Zao (ZaB (Zaw (K:=K)) (ZaB (Zaz (K:=K)) (pv 3) (pv 7) (fun _ _=>rfl)) Zai (fun _ _=>rfl)) Zab))) Zab)) Zab)))
   (Zae (PsA sc 5 (pv 8))
   (Zae (Zb0 (ZaQ Zdz (ZaB (Zaw (K:=K)) (ZaB (Zaz (K:=K)) (pv 2) (pv 6) (fun _ _=>rfl)) Zai (fun _ _=>rfl)) (pv 8) (ZaN _)) (Zak (ZjZ (i:=6) sc rfl (Or.inl rfl) Zai Zj0)) Za8)
   (Zak (Zb0 (ZaQ Zdz (ZaB (Zaw (K:=K)) (ZaB (Zaz (K:=K)) (pv 3) (pv 7) (fun _ _=>rfl)) Zai (fun _ _=>rfl)) (pv 8) (ZaN _)) (Zak (ZjZ (i:=7) sc rfl (Or.inl rfl) Zai Zj0)) Za8)))))))
   (Zak (ZaA (Zaf gcj hr rfl (Zac (pv 4) Zab))))))))),?_⟩
  have nA:∀e∈A,0≤e.1:=fun e he=>Qa9 (pA e he);have nB:∀e∈B,0≤e.1:=fun e he=>Qa9 (pB e he);refine⟨_,rfl,a,xs,A,0,rfl,SqL.of ha,ga,by omega,fun la za H1 f1 h1 y1 s1=> ?_⟩;refine⟨_,rfl,b,ys,B,0,rfl,SqL.of (s1 _ _ hb),gb.up s1.tups,by omega,fun lb zb H2 f2 h2 y2 s2=> ?_⟩;refine⟨zL0,fun c hc=> ?_⟩;have s3:=Zam.nw (o:=.lst []) (Zam.refl H2) hc;have hc3:(upd H2 c (.lst [])) c=some (.lst []):=Zad;generalize upd H2 c (.lst [])=H3 at s3 hc3⊢;have fc:H c=none:=(s1.trans s2).free hc;have hla:=s3 _ _ (s2 _ _ h1);have hlb:=s3 _ _ h2;have ya:=y1.up (s2.trans s3).tups;have yb:=y2.up s3.tups;have s03:=(s1.trans s2).trans s3;have nca:c≠la:=fun z=>by rw[z,s2 _ _ h1] at hc;cases hc
  have ncb:c≠lb:=fun z=>by rw[z,h2] at hc;cases hc
  refine Zj1 (fun σ H'=>∃(i j:Nat)(bg:Int)(x8:Option V)(zs:List V)(M:Wl),σ=[some (.ref a),some (.ref b),some (.ref la),some (.ref lb),some (.ref c),some (.int bg),some (.int i),some (.int j),x8]∧0≤bg∧Cur A i bg∧Cur B j bg∧i≤A.length∧j≤B.length∧H' c=some (.lst zs)∧Wg H' zs M∧(∀e∈M,0<e.1)∧tot M=bg∧(∀p,0≤p→p<bg→atW M p=plusW (atW A p) (atW B p))∧(∀e∈M,e.2.length=wd)∧M.length≤i+j∧Zam H H'∧H' la=some (.lst za)∧H' lb=some (.lst zb)∧Za7 H3 H')
   (fun σ _=>(A.length+B.length)-((match σ[6]? with|some (some (V.int i))=>i.toNat|_=>0)+(match σ[7]? with|some (some (V.int i))=>i.toNat|_=>0)))
   ⟨0,0,0,_,[],[],rfl,QaL _,by have:=Zf0 pA (QaS A.length);rw[Qct,ZaI] at this;exact this,by have:=Zf0 pB (QaS B.length);rw[Qct,ZaI] at this;exact this,QaS _,QaS _,hc3,Wg.nil _,fun e he=>(by cases he),rfl,fun p p0 p1=>(by omega),fun e he=>(by cases he),QaS _,s03,hla,hlb,Za7.refl _⟩ ?_ ?_
  ·rintro σ H4 ⟨i,j,bg,x8,zs,M,rfl,b0,cA,cB,li,lj,hc4,g4,pM,tM,aM,wM,lM,s4,hla4,hlb4,T4⟩;refine⟨_,rfl,_,rfl,la,_,rfl,.inl (SqL.of hla4),_,_,rfl,rfl,_,rfl,Zfx (fun q=> ?_) (fun q=> ?_)⟩
   ·have q:(i:Int)<(za.length:Int):=Qar q;have hi:i<A.length:=by rw[←y1.1];omega
    obtain⟨e,he,ea1,ea2⟩:∃e,A[i]?=some e∧tot (A.take i)≤bg∧bg<tot (A.take (i+1)):=by
     rcases cA with z|⟨z,_⟩
     ·exact z
     ·omega
    have bgA:bg<tot A:=Int.lt_of_lt_of_le ea2 (ZdE (fun e he=>pA e he) (i+1))
    obtain⟨f',hf,fb1,fb2⟩:∃e,B[j]?=some e∧tot (B.take j)≤bg∧bg<tot (B.take (j+1)):=by
     rcases cB with z|⟨_,z⟩
     ·exact z
     ·omega
    have hj:j<B.length:=(Qab.mp hf).1;obtain⟨pa,wa,ha1,ha2,ha3⟩:=(ya.up T4).2 i e he;obtain⟨pb,wb,hb1,hb2,hb3⟩:=(yb.up T4).2 j f' hf;refine⟨_,rfl,_,rfl,la,_,_,V.ref pa,rfl,rfl,SqL.of hla4,ZaK ha1,pa,_,_,_,rfl,rfl,SqT.of ha2,rfl,_,rfl,_,rfl,lb,_,_,V.ref pb,rfl,rfl,SqL.of hlb4,ZaK hb1,pb,_,_,_,rfl,rfl,SqT.of hb2,rfl,_,_,rfl,?_⟩;have key:∃en:Int,(if 0+tot (B.take (j+1))<0+tot (A.take (i+1)) then 0+tot (B.take (j+1)) else 0+tot (A.take (i+1)))=en∧bg<en∧en≤tot (A.take (i+1))∧en≤tot (B.take (j+1))∧(en=tot (A.take (i+1))∨en=tot (B.take (j+1))):=⟨_,rfl,by split<;>omega,by split<;>omega,by split<;>omega,by split<;>omega⟩;obtain⟨en,een,en0,en1,en2,en3⟩:=key;rw[een];refine⟨_,rfl,.inl ⟨rfl,_,SqL.of hc4⟩,_,rfl,_,rfl,_,_,rfl,rfl,_,rfl,_,rfl,la,_,_,V.ref pa,rfl,rfl,SqL.of hla4,ZaK ha1,pa,_,_,_,rfl,rfl,SqT.of ha2,rfl,?_⟩;refine⟨_,rfl,_,rfl,lb,_,_,V.ref pb,rfl,rfl,SqL.of hlb4,ZaK hb1,pb,_,_,_,rfl,rfl,SqT.of hb2,rfl,wa,wb,e.2,f'.2,rfl,ha3,hb3,by rw[wA e (Qav he)];omega,by rw[wA e (Qav he),wB f' (Qav hf)],fun r H5 fr hr5 s5=>⟨zL2,fun pp hpp=> ?_⟩⟩;have s6:=Zam.nw (o:=.tup [.int (en-bg),.ref r]) s5 hpp;have h6p:(upd H5 pp (.tup [.int (en-bg),.ref r])) pp=some (.tup [.int (en-bg),.ref r]):=Zad;have h6r:(upd H5 pp (.tup [.int (en-bg),.ref r])) r=some (.tup ((plusW e.2 f'.2).map V.int)):=by rw[Zaq (Zar hr5 hpp)];exact hr5
    generalize upd H5 pp (.tup [.int (en-bg),.ref r])=H6 at s6 h6p h6r⊢;have hzl:zs.length≤400:=by rw[g4.1];omega
    refine⟨c,zs,_,rfl,rfl,s6 _ _ hc4,QaF (by omega:zs.length≤1000) (by decide),?_⟩;have T7:Za7 H6 (upd H6 c (.lst (zs++ [.ref pp]))):=(Za7.refl H6).lst (s6 _ _ hc4);have h7c:(upd H6 c (.lst (zs++ [.ref pp]))) c=some (.lst (zs++ [.ref pp])):=Zad;have h7a:(upd H6 c (.lst (zs++ [.ref pp]))) la=some (.lst za):=by rw[Zaq (Ne.symm nca)];exact s6 _ _ hla4
    have h7b:(upd H6 c (.lst (zs++ [.ref pp]))) lb=some (.lst zb):=by rw[Zaq (Ne.symm ncb)];exact s6 _ _ hlb4
    have s7:Zam H (upd H6 c (.lst (zs++ [.ref pp]))):=fun d o z=>by rw[Zaq (Zar z fc)];exact s6 _ _ (s4 _ _ z)
    generalize upd H6 c (.lst (zs++ [.ref pp]))=H7 at T7 h7c h7a h7b s7⊢;have T47:Za7 H4 H7:=s6.tups.trans T7;have g7:Wg H7 (zs++ [.ref pp]) (M++ [(en-bg,plusW e.2 f'.2)]):=Wg.snoc (g4.up T47) ⟨pp,r,rfl,T7 _ _ h6p,T7 _ _ h6r⟩;have nM:∀e∈M,0≤e.1:=fun e he=>Qa9 (pM e he)
    have pM7:∀x∈M++ [(en-bg,plusW e.2 f'.2)],0<x.1:=fun x hx=>by
     rcases Qap.mp hx with z|z
     ·exact pM x z
     ·rw[Qal.mp z];show 0<en-bg;omega
    have tM7:tot (M++ [(en-bg,plusW e.2 f'.2)])=en:=by rw[ZaZ,ZaD,ZaI,tM];show bg+(en-bg+0)=en;omega
    have aM7:∀p,0≤p→p<en→atW (M++ [(en-bg,plusW e.2 f'.2)]) p=plusW (atW A p) (atW B p):=fun p p0 p1=>by
     by_cases z:p<bg
     ·rw[Zcw nM p0 (by omega)];exact aM p p0 z
     ·rw[ZrL nM (by omega) (by omega),Zqp nA he (by omega) (by omega),Zqp nB hf (by omega) (by omega)]
    have wM7:∀x∈M++ [(en-bg,plusW e.2 f'.2)],x.2.length=wd:=fun x hx=>by
     rcases Qap.mp hx with z|z
     ·exact wM x z
     ·rw[Qal.mp z];show(plusW e.2 f'.2).length=wd;unfold plusW;rw[Qb1,wA e (Qav he),wB f' (Qav hf),QdR]
    have lM7:(M++ [(en-bg,plusW e.2 f'.2)]).length=M.length+1:=by rw[Qae];rfl
    have sq7:=SqL.of (K:=K) h7a;have ha27:=T47 _ _ ha2;have hb27:=T47 _ _ hb2;have T37:=T4.trans T47;refine⟨_,rfl,?_⟩;refine⟨_,rfl,_,rfl,la,_,_,V.ref pa,rfl,rfl,SqL.of h7a,ZaK ha1,pa,_,_,_,rfl,rfl,SqT.of ha27,rfl,_,rfl,rfl,_,rfl,Zfx (fun u=> ?_) (fun u=> ?_)⟩
    ·have u:0+tot (A.take (i+1))=en:=V.int.inj (Qar u);refine⟨_,rfl,_,_,rfl,rfl,?_⟩;refine⟨_,rfl,_,rfl,lb,_,_,V.ref pb,rfl,rfl,SqL.of h7b,ZaK hb1,pb,_,_,_,rfl,rfl,SqT.of hb27,rfl,_,rfl,rfl,_,rfl,Zfx (fun u2=> ?_) (fun u2=> ?_)⟩
     ·have u2:0+tot (B.take (j+1))=en:=V.int.inj (Qar u2);refine⟨_,rfl,_,_,rfl,rfl,⟨i+1,j+1,en,_,_,_,rfl,by omega,by rw[←show tot (A.take (i+1))=en by omega];exact Zf0 pA hi,by rw[←show tot (B.take (j+1))=en by omega];exact Zf0 pB hj,hi,hj,h7c,g7,pM7,tM7,aM7,wM7,by omega,s7,h7a,h7b,T37⟩,?_⟩;show(A.length+B.length)-(((i:Int)+1).toNat+((j:Int)+1).toNat)<(A.length+B.length)-((i:Int).toNat+(j:Int).toNat);omega
     ·have u2:¬0+tot (B.take (j+1))=en:=fun z=>u2 (Qam (congrArg V.int z));refine⟨⟨i+1,j,en,_,_,_,rfl,by omega,by rw[←show tot (A.take (i+1))=en by omega];exact Zf0 pA hi,.inl ⟨f',hf,by omega,by omega⟩,hi,lj,h7c,g7,pM7,tM7,aM7,wM7,by omega,s7,h7a,h7b,T37⟩,?_⟩;show(A.length+B.length)-(((i:Int)+1).toNat+(j:Int).toNat)<(A.length+B.length)-((i:Int).toNat+(j:Int).toNat);omega
    ·have u:¬0+tot (A.take (i+1))=en:=fun z=>u (Qam (congrArg V.int z));refine⟨_,rfl,_,rfl,lb,_,_,V.ref pb,rfl,rfl,SqL.of h7b,ZaK hb1,pb,_,_,_,rfl,rfl,SqT.of hb27,rfl,_,rfl,rfl,_,rfl,Zfx (fun u2=> ?_) (fun u2=> ?_)⟩
     ·have u2:0+tot (B.take (j+1))=en:=V.int.inj (Qar u2);refine⟨_,rfl,_,_,rfl,rfl,⟨i,j+1,en,_,_,_,rfl,by omega,.inl ⟨e,he,by omega,by omega⟩,by rw[←show tot (B.take (j+1))=en by omega];exact Zf0 pB hj,li,hj,h7c,g7,pM7,tM7,aM7,wM7,by omega,s7,h7a,h7b,T37⟩,?_⟩;show(A.length+B.length)-((i:Int).toNat+((j:Int)+1).toNat)<(A.length+B.length)-((i:Int).toNat+(j:Int).toNat);omega
     ·have u2:¬0+tot (B.take (j+1))=en:=fun z=>u2 (Qam (congrArg V.int z));omega
   ·have q:¬(i:Int)<(za.length:Int):=fun z=>q (Qam z);have e:i=A.length:=by rw[y1.1] at q;omega
    have ebg:bg=tot A:=by
     rcases cA with⟨x,hx,_⟩|⟨_,z⟩
     ·have:=(Qab.mp hx).1;omega
     ·exact z
    subst ebg;have nM:∀e∈M,0≤e.1:=fun e he=>Qa9 (pM e he);refine⟨_,rfl,c,zs,M,rfl,SqL.of hc4,g4,by omega,nM,fun r zr H5 f5 h5 g5 s5=> ?_⟩;refine k r zr (ZaM M) H5 (s4.free f5) h5 g5 ⟨ZbQ M,by rw[Toy.shape_tot nM];exact tM,fun p p0 p1=>by rw[Zgh nM p0];exact aM p p0 p1,fun n hA hB=> ?_,QaW (Zb7 M) (by omega)⟩ (s4.trans s5)
    have ew:∀x∈M,x.2.length=n:=fun x hx=>by
     rw[wM x hx]
     cases A with
     |nil=>rw[ZaI] at tM;exact absurd (tot_ge (fun e he=>pM e he) hx) (by have:=pM x hx;omega)
     |cons y A=>rw[←wA y Qah];exact hA y Qah
    exact ZcL (p:=fun u=>u.length=n) ew
  ·intro σ H' Q1 Q2 hQ h;obtain⟨v0,e0,v1,e1,p1,l1,a1,a2,i3,j3,c1,c2,v4,c3,q4⟩:=h;exact⟨v0,e0,v1,e1,p1,l1,a1,a2,i3,j3,c1,c2,v4,c3,hQ _ _ q4⟩
end
def Zqq (L:List (Int×List Int))(i:Nat):List Int:=(List.range (i+1)).map fun j=>tot (L.take j)
theorem ZkA (L:List (Int×List Int))(i:Nat):(Zqq L i).length=i+1:=by simp[Zqq]
section
variable {K:FJ}
abbrev ZbX:Stmt:=top 21
def Zg9:Sp:=fun vs H Q _=>∃(p:Addr)(us:List Int)(k:Int),vs=[.ref p,.int k]∧H p=some (.tup (us.map V.int))∧us.length≤100∧(-(2^64)<k∧k<2^64)∧∀(r:Addr)(H':Hp),H r=none→H' r=some (.tup ((us.map (· *k)).map V.int))→Zam H H'→Q (.ref r) H'
theorem ZpJ (F:Fun K "weights_times" "weights_times" ZbX f fd)(M:Txt mg):Za6 P w K mg base CX0 1 f fd ["weights", "times"] Zg9:=by
 refine F.okl ["weights","times"] ?_
 ·rintro sc _ _ _ s H _ Q E hr⟨p,us,k0,rfl,hp,hl,kw,k⟩;refine⟨_,(Zak (ZaA (Za1 ZbS (by rfl) M.tuple Qdx (ZaH (Zbk (xs:=["weight"]) (Nb:=["weights", "times"]) rfl (Zr8 (pv 0)) rfl (by show∀p∈(List.zip ["weights", "times"] ["weights", "times"]:List (Str×Str)),_;decide +kernel) (by decide +kernel) (fun cl C s₂ H₂ fp=>(PgC ["weight","weights","times"] 0)) (fun cl C s₂ H₂ fp=>ZbT) (fun cl C s₂ H₂ fp=>(Zax Zdx (pv 0) (pv 2))) (by decide +kernel) rfl (by decide +kernel) (by show∀y∈(_:List (Str×NameKind)),y.2=NameKind.free→(Zal ZbX).names.lookup y.1=some .cell;decide +kernel)) Zab)))),?_⟩;refine⟨_,rfl,p,rfl,⟨_,SqT.of hp⟩,ZtU (K:=K) (a:=p) (xs:=us.map V.int) (fun i zs H'=>zs=((us.map (· *k0)).take i).map V.int∧H=H') ⟨rfl,rfl⟩ (by rw[Qaf];omega) (fun i zs H' h=>by rw[h.1,Qaf,Qax];omega) (fun i zs H' _ h=>by rw[←h.2];exact SqT.of hp) ?_ ?_⟩
  ·rintro i x zs H' pre qc hx ⟨rfl,rfl⟩
   have hx':∃m,us[i]?=some m∧x=V.int m:=by
    rw[Qao] at hx
    cases zz:us[i]? with
    |none=>rw[zz] at hx;cases hx
    |some m=>rw[zz] at hx;cases hx;exact⟨m,rfl,rfl⟩
   obtain⟨m,hm,rfl⟩:=hx';rcases pre with _|⟨p0,_|⟨p1,pre⟩⟩
   ·cases qc
   ·refine⟨⟨[some _],rfl,rfl⟩,?_⟩;unfold Zes;dsimp only;rw[Qp (rfl:true=true)];refine⟨_,rfl,_,rfl,_,_,rfl,rfl,.inr kw,?_,rfl⟩;have ez:(us.map (· *k0))[i]?=some (m*k0):=by rw[Qao,hm];rfl
    rw[ZaJ ez,Qau];rfl
   ·cases qc
  ·rintro zs H' ⟨rfl,rfl⟩ D hD;have et:(us.map (· *k0)).take (us.map V.int).length=us.map (· *k0):=Qbx (by rw[Qaf,Qaf];exact Qai _);rw[et];refine⟨D,_,rfl,.inl ⟨SqL.of Zad,fun l hl'=> ?_⟩⟩;have s2:=Zam.nw (o:=.lst ((us.map (· *k0)).map V.int)) (Zam.refl H) hD;exact k l _ (Zam.free s2 hl') Zad (Zam.nw s2 hl')
abbrev Zek:Stmt:=top 22
def ZnV:Sp:=fun vs H Q _=>∃(a:Addr)(xs:List V)(S:Sl)(n:Nat),vs=[.ref a]∧H a=some (.lst xs)∧Stg H xs S∧S.length≤600∧n≤24∧(∀s∈S,s.2.2.length=n)∧∀(d:Addr)(kvs:List (Key×V))(H':Hp),H d=none→DR H' d n (evs S) kvs→Zam H H'→Q (.ref d) H'
theorem ZpK (F:Fun K "rises_of" "rises_of" Zek f fd)(M:Txt mg)(gcp:Kn P w K mg base "weights_times" 1 ["weights", "times"] Zg9)(gcn:Kn P w K mg base "sum_of_weights" 1 ["one", "other"] Zfl):Za6 P w K mg base CX0 2 f fd ["stretches"] ZnV:=by
 refine F.okl ["stretches","rises","begin","end","weights","noughts","fall"] ?_
 ·rintro sc _ _ _ s H _ Q E hr⟨a,xs,S,n,rfl,ha,g,hl,hn,wid,k⟩
  refine⟨_,(Zae (PsA sc 1 Zkf)
   (Zae (ZbC QaH rfl (Zbn (pv 0)) (ZaY rfl (Zah (PgA sc 2) (Zah (PgA sc 3) (Zah (PgA sc 4) ZaE))))
   (Zae (PsA sc 5 (Zaf gcp hr rfl (Zac (pv 4) (Zav Zai Zab))))
   (Zae (PsA sc 6 (Zaf gcp hr rfl (Zac (pv 4) (ZfS (Zex ZcZ Zai) Zab))))
   (Zae (Ze2 (Zd2 hr) (pv 1) (pv 2) (Zaf gcn hr rfl (ZaG (ZeH (Zd2 hr) (pv 1) (pv 2) (pv 5) ⟨rfl,rfl,rfl,rfl⟩) (Zac (pv 4) Zab))) rfl)
   (Zak (Ze2 (Zd2 hr) (pv 1) (pv 3) (Zaf gcn hr rfl (ZaG (ZeH (Zd2 hr) (pv 1) (pv 3) (pv 5) ⟨rfl,rfl,rfl,rfl⟩) (Zac (pv 6) Zab))) rfl))))))
   (Zak (ZaA (pv 1))))),?_⟩
  intro d fd0;have s1:=Zam.nw (o:=.dK []) (Zam.refl H) fd0;have D0:DR (upd H d (.dK [])) d n [] []:=DR.new Zad;generalize upd H d (.dK [])=H1 at s1 D0⊢;refine⟨_,rfl,a,rfl,⟨xs,SqL.of (s1 _ _ ha)⟩,ZbL (K:=K) (a:=a) (xs:=xs) (fun i σ H'=>∃(x2 x3 x4 x5 x6:Option V)(kvs:List (Key×V)),σ=[some (.ref a),some (.ref d),x2,x3,x4,x5,x6]∧DR H' d n (evs (S.take i)) kvs∧kvs.length≤2*i∧Zam H H') ⟨_,_,_,_,_,[],rfl,D0,Qai _,s1⟩ (fun i σ H' _ ⟨_,_,_,_,_,_,_,_,_,s⟩=>SqL.of (s _ _ ha)) ?_ ?_⟩
  ·rintro i x σ H' hx ⟨x2,x3,x4,x5,x6,kvs,rfl,D,lk,s2⟩;obtain⟨s,hsi,q,wq,rfl,hq,hw⟩:=g.at' hx;have hmem:s∈S:=Qav hsi;have hi:i<S.length:=(Qab.mp hsi).1;have hw2:=s2 _ _ hw;have hws:=wid s hmem;refine⟨q,_,rfl,SqT.of (s2 _ _ hq),rfl,_,_,rfl,_,_,rfl,_,_,rfl,rfl,?_⟩;refine⟨_,rfl,wq,s.2.2,0,rfl,hw2,by omega,⟨by decide,by decide⟩,fun r5 H3 f5 h5 s3=> ?_⟩;refine⟨_,rfl,_,rfl,wq,s.2.2,-1,rfl,s3 _ _ hw2,by omega,⟨by decide,by decide⟩,fun r6 H4 f6 h6 s4=> ?_⟩;have s34:=s3.trans s4;have D4:=D.up (s34 _ _ D.hd) s34.tups;have h54:=s4 _ _ h5;have hw4:=s34 _ _ hw2;obtain⟨p,us,he,hp,lu,cu⟩:=D4.get s.1 h54 hws;refine⟨_,rfl,d,rfl,.inl ⟨_,.inl D4.hd⟩,_,rfl,_,rfl,_,ZfT.k (k:=Sum.inl s.1) D4.hd,_,rfl,p,wq,us,s.2.2,by show [_,_]=_;rw[he],hp,hw4,by omega,by omega,fun r7 H5 f7 h7 s5=> ?_⟩;have hd5:=s5 _ _ D4.hd;refine⟨_,rfl,_,rfl,d,_,rfl,ZlL.k (k:=Sum.inl s.1) hd5 (QaF (show kvs.length≤2000 by omega) (by decide)),?_⟩;have T6:Za7 H4 (upd H5 d (.dK (Zc3 kvs (Sum.inl s.1) (.ref r7)))):=Za7.dk s5.tups hd5;have n7:r7≠d:=Zob h7 hd5 (by intro z;cases z);have h76:(upd H5 d (.dK (Zc3 kvs (Sum.inl s.1) (.ref r7)))) r7=some (.tup ((plusW us s.2.2).map V.int)):=by rw[Zaq n7];exact h7
   have lpu:(plusW us s.2.2).length=n:=by unfold plusW;rw[Qb1];omega
   have D6:=D4.put (H':=upd H5 d (.dK (Zc3 kvs (Sum.inl s.1) (.ref r7)))) (k:=s.1) (u:=s.2.2) h76 lpu (fun i=>by unfold plusW;rw[Zgi i (by omega),cu]) Zad T6;have s6:Zam H (upd H5 d (.dK (Zc3 kvs (Sum.inl s.1) (.ref r7)))):=Zam.ow ((s2.trans s34).trans s5) fd0;have h56:=T6 _ _ h54;have h66:=T6 _ _ h6;have lk6:=ZcS kvs (Sum.inl s.1) (V.ref r7);generalize upd H5 d (.dK (Zc3 kvs (Sum.inl s.1) (.ref r7)))=H6 at D6 s6 h56 h66⊢;generalize Zc3 kvs (Sum.inl s.1) (.ref r7)=kv6 at D6 lk6;obtain⟨p2,us2,he2,hp2,lu2,cu2⟩:=D6.get s.2.1 h56 hws;refine⟨_,rfl,d,rfl,.inl ⟨_,.inl D6.hd⟩,_,rfl,_,rfl,_,ZfT.k (k:=Sum.inl s.2.1) D6.hd,_,rfl,p2,r6,us2,s.2.2.map (· * -1),by show [_,_]=_;rw[he2],hp2,h66,by omega,by rw[Qaf];omega,fun r8 H7 f8 h8 s7=> ?_⟩;have hd7:=s7 _ _ D6.hd;refine⟨_,rfl,_,rfl,d,_,rfl,ZlL.k (k:=Sum.inl s.2.1) hd7 (QaF (show kv6.length≤2000 by omega) (by decide)),?_⟩;have T8:Za7 H6 (upd H7 d (.dK (Zc3 kv6 (Sum.inl s.2.1) (.ref r8)))):=Za7.dk s7.tups hd7;have n8:r8≠d:=Zob h8 hd7 (by intro z;cases z);have h88:(upd H7 d (.dK (Zc3 kv6 (Sum.inl s.2.1) (.ref r8)))) r8=some (.tup ((plusW us2 (s.2.2.map (· * -1))).map V.int)):=by rw[Zaq n8];exact h8
   have lpu2:(plusW us2 (s.2.2.map (· * -1))).length=n:=by unfold plusW;rw[Qb1,Qaf];omega
   have D8:=D6.put (H':=upd H7 d (.dK (Zc3 kv6 (Sum.inl s.2.1) (.ref r8)))) (k:=s.2.1) (u:=s.2.2.map (· * -1)) h88 lpu2 (fun i=>by unfold plusW;rw[Zgi i (by rw[Qaf];omega),cu2]) Zad T8;have lk8:=ZcS kv6 (Sum.inl s.2.1) (V.ref r8);refine⟨_,_,_,_,_,Zc3 kv6 (Sum.inl s.2.1) (.ref r8),rfl,?_,?_,Zam.ow (s6.trans s7) fd0⟩
   ·rw[ZaJ hsi,ZqP];rw[Qa7] at D8;exact D8
   ·omega
  ·rintro σ H' ⟨x2,x3,x4,x5,x6,kvs,rfl,D,lk,s2⟩;have et:S.take xs.length=S:=by rw[g.1];exact Qa3
   rw[et] at D;exact⟨_,rfl,k d kvs H' fd0 D s2⟩
theorem Zha (so:ms.Pairwise (· < ·)){x:Int}(hi:ms[i]?=some x)(hj:ms[j]?=some y)(h:i<j):x<y:=by
 obtain⟨a,rfl⟩:=Qab.mp hi;obtain⟨b,rfl⟩:=Qab.mp hj;exact QcS.mp so i j a b h
theorem Zil (so:ms.Pairwise (· < ·)){x k:Int}(hj:ms[j]?=some x)(hn:ms[j+1]?=some y)(hk:k∈ms)(h:k<y):k≤x:=by
 obtain⟨i,hi⟩:=QaZ.mp hk;rcases Nat.lt_trichotomy i j with z|z|z
 ·exact Qa9 (Zha so hi hj z)
 ·subst z;rw[hi] at hj;cases hj;exact QaL _
 ·rcases QbJ (show j+1≤i from z) with q|q
  ·have:=Zha so hn hi q;omega
  ·subst q;rw[hi] at hn;cases hn;omega
theorem Zlw (so:ms.Pairwise (· < ·))(hc:c∈ms)(h:∀k∈ms,c≤k):ms[0]?=some c:=by
 cases ms with
 |nil=>cases hc
 |cons a ms=>
  have h1:=h a Qah;rcases Qaw.mp hc with z|z
  ·rw[z];rfl
  ·have:=(Qc2.mp so).1 c z;omega
theorem ZnW (so:ms.Pairwise (· < ·))(hc:c∈ms)(h:∀k∈ms,k≤c):ms[ms.length-1]?=some c:=by
 obtain⟨i,hi⟩:=QaZ.mp hc;have hl:=(Qab.mp hi).1;have hg:ms[ms.length-1]?=some ms[ms.length-1]:=Qad (by omega);have h1:=h _ (Qav hg);rcases Nat.lt_or_ge i (ms.length-1) with z|z
 ·have:=Zha so hi hg z;omega
 ·have e:i=ms.length-1:=by omega
  rw[←e];exact hi
theorem ZpL (hM:∀e∈M,0≤e.1)(h1:tot M≤p)(h2:p<tot M+m):atW (M++ [(m,u)]) p=u:=by
 rw[ZbV hM h1,atW_lt (by omega)]
abbrev Zhb:Stmt:=top 23
def ZkB:Sp:=fun vs H Q _=>∃(a:Addr)(xs:List V)(S:Sl)(n:Nat)(c0 c1:Int)(kk:List Int),vs=[.ref a]∧H a=some (.lst xs)∧Stg H xs S∧S≠ []∧S.length≤600∧n≤24∧(∀s∈S,s.2.2.length=n)∧kk.length≤62∧(∀k,Ze1 S k→k∈kk)∧Ze1 S c0∧Ze1 S c1∧(∀k,Ze1 S k→c0≤k∧k≤c1)∧
 ∀(r:Addr)(zs:List V)(R:Wl)(H':Hp),H r=none→H' r=some (.lst zs)→Wg H' zs R→HeapOf n S c0 c1 R kk.length→Zam H H'→Q (.ref r) H'
theorem ZnY (F:Fun K "heaped" "heaped" Zhb f fd)(M:Txt mg)(gci:Kn P w K mg base "rises_of" 2 ["stretches"] ZnV)(gcp:Kn P w K mg base "weights_times" 1 ["weights", "times"] Zg9)(gcn:Kn P w K mg base "sum_of_weights" 1 ["one", "other"] Zfl)(gcj:Kn P w K mg base "shaped" 1 ["pieces"] (Zcy K))(B:Gb mg):Za6 P w K mg base CX0 3 f fd ["stretches"] ZkB:=by
 refine F.okl ["stretches","rises","cuts","weights","pieces","begin","end"] ?_
 ·rintro sc _ _ _ s H _ Q E hr⟨a,xs,S,n,c0,c1,kk,rfl,ha,g,ne,hl,hn,wid,lk,hkk,k0,k1,kb,k⟩
  refine⟨_,(Zae (Zb0 (Zdw (ZeF (pv 0) (fun _=>rfl))) (Zak (ZaA (ZaR Zab))) Za8)
   (Zae (PsA sc 1 (Zaf gci hr rfl (Zac (pv 0) Zab)))
   (Zae (PsA sc 2 (Zay (ZhO rfl) (by rfl) M.sorted boot_sorted (ZaG (ZoF (pv 1)) Zab)))
   (Zae (PsA sc 3 (Zaf gcp hr rfl (Zao (ZaB (Zaw (K:=K)) (ZaB (Zaz (K:=K)) (pv 0) Zai (fun _ _=>rfl)) Zai (fun _ _=>rfl)) (Zav Zai Zab))))
   (Zae (PsA sc 4 (ZaR Zab))
   (Zae (ZbC QaH rfl (Zsr rfl B.zp (Zac (pv 2) (Zao (Zb2 ZeU (pv 2) (Zcj Zai) ZcD) Zab))) (ZaY rfl (Zah (PgA sc 5) (Zah (PgA sc 6) ZaE)))
   (Zae (PsA sc 3 (Zaf gcn hr rfl (Zac (pv 3) (Zao (ZiN (Zd2 hr) (pv 1) (pv 5) (fun _ _=>rfl)) Zab))))
   (Zak (ZaP (ZdB QaV Qa1 Qa2 Zbm (pv 4) (Zbb (ZaO (ZbZ (Zax Za0 (pv 6) (pv 5)) (pv 3) Zab)) Zab))))))
   (Zak (ZaA (Zaf gcj hr rfl (Zac (pv 4) Zab)))))))))),?_⟩
  have hxl:∃x0,xs[0]?=some x0:=by
   cases xs with
   |nil=>exact absurd (Qdq g.1.symm) ne
   |cons x _=>exact⟨x,rfl⟩
  obtain⟨x0,hx0⟩:=hxl
  have hemp:true= !xs.isEmpty:=by cases xs with
   |nil=>cases hx0
   |cons _ _=>rfl
  refine⟨_,rfl,true,.inl ⟨xs,SqL.of ha,hemp⟩,Zcd ?_⟩;refine⟨_,rfl,a,xs,S,n,rfl,ha,g,hl,hn,wid,fun d kvs H1 f1 D s1=> ?_⟩;obtain⟨ks,hks,nd,hkm⟩:=D.keys;have km:∀k,k∈ks↔Ze1 S k:=fun k=>(hkm k).trans ZqQ;have lks:ks.length≤kk.length:=Zkd nd fun x hx=>hkk x ((km x).mp hx);refine⟨_,rfl,d,kvs,rfl,D.hd,fun v fv=> ?_⟩;have s2:=Zam.nw (o:=.ext (ZhN v d)) (Zam.refl H1) fv;have hv2:(upd H1 v (.ext (ZhN v d))) v=some (.ext (ZhN v d)):=Zad;generalize upd H1 v (.ext (ZhN v d))=H2 at s2 hv2⊢;refine⟨v,d,kvs,ks,rfl,hv2,s2 _ _ D.hd,hks,by omega,fun c ms fc hp hw=> ?_⟩;have s3:=Zam.nw (o:=.lst (ms.map V.int)) (Zam.refl H2) fc;have hc3:(upd H2 c (.lst (ms.map V.int))) c=some (.lst (ms.map V.int)):=Zad;generalize upd H2 c (.lst (ms.map V.int))=H3 at s3 hc3⊢;have s13:=s2.trans s3;have s03:=s1.trans s13;have so:ms.Pairwise (· < ·):=Zfa hw ((hp.nodup_iff).mpr nd);have mm:∀k,k∈ms↔Ze1 S k:=fun k=>hp.mem_iff.trans (km k);have lms:ms.length≤kk.length:=by rw[hp.length_eq];exact lks
  obtain⟨e0,he0,q0,w0,rfl,hq0,hw0⟩:=g.at' hx0;have me0:e0∈S:=Qav he0;have we0:=wid e0 me0;refine⟨_,rfl,a,_,_,_,rfl,rfl,SqL.of (s03 _ _ ha),ZaK (j:=0) hx0,q0,_,_,_,rfl,rfl,SqT.of (s03 _ _ hq0),rfl,w0,e0.2.2,0,rfl,s03 _ _ hw0,by omega,⟨by decide,by decide⟩,fun wr H4 fw4 hwr s4=> ?_⟩;refine⟨zL0,fun pc fpc=> ?_⟩;have s5:=Zam.nw (o:=.lst []) (Zam.refl H4) fpc;have hpc5:(upd H4 pc (.lst [])) pc=some (.lst []):=Zad;generalize upd H4 pc (.lst [])=H5 at s5 hpc5⊢;have s35:=s4.trans s5;refine⟨_,rfl,_,rfl,?_⟩;refine⟨_,rfl,c,_,rfl,SqL.of (s35 _ _ hc3),fun c2 fc2=> ?_⟩;rw[Zrg];have s6:=Zam.nw (o:=.lst ((ms.map V.int).drop 1)) (Zam.refl H5) fc2;have hc6:(upd H5 c2 (.lst ((ms.map V.int).drop 1))) c2=some (.lst ((ms.map V.int).drop 1)):=Zad;have hc56:=s6 _ _ (s35 _ _ hc3);have hpc6:=s6 _ _ hpc5;have npc2:pc≠c2:=Zar hpc5 fc2;have fpcH:H pc=none:=(s03.trans s4).free fpc;have npcc:pc≠c:=fun z=>by rw[z,s4 _ _ hc3] at fpc;cases fpc
  have hd5:=s6 _ _ (s35 _ _ (s13 _ _ D.hd));have npcd:pc≠d:=fun z=>by rw[z,s4 _ _ (s13 _ _ D.hd)] at fpc;cases fpc
  generalize upd H5 c2 (.lst ((ms.map V.int).drop 1))=H6 at s6 hc6 hc56 hpc6 hd5⊢;have s36:=s35.trans s6;have hm0:ms[0]?=some c0:=Zlw so ((mm c0).mpr k0) fun k hk=>(kb k ((mm k).mp hk)).1;have hml:ms[ms.length-1]?=some c1:=ZnW so ((mm c1).mpr k1) fun k hk=>(kb k ((mm k).mp hk)).2;have lm1:1≤ms.length:=by have:=(Qab.mp hm0).1;omega
  have low:∀i,FF S (c0-1) i=0:=fun i=>ZpZ i fun k hk=>by have:=(kb k hk).1;omega
  refine⟨c,c2,rfl,⟨_,SqL.of hc56⟩,⟨_,SqL.of hc6⟩,ZqO (K:=K) (a:=c) (b:=c2) (n:=ms.length-1) (xs:=ms.map V.int) (ys:=(ms.map V.int).drop 1) (fun j σ H'=>∃(x5 x6:Option V)(wq:Addr)(us:List Int)(zs:List V)(M:Wl)(cj pv:Int),σ=[some (.ref a),some (.ref d),some (.ref c),some (.ref wq),some (.ref pc),x5,x6]∧H' wq=some (.tup (us.map V.int))∧us.length=n∧ms[j]?=some cj∧pv<cj∧(∀k∈ms,k<cj→k≤pv)∧(∀i,co us i=FF S pv i)∧H' pc=some (.lst zs)∧Wg H' zs M∧M.length=j∧(∀e∈M,0<e.1)∧tot M=cj-c0∧(∀p,c0≤p→p<cj→∀i,co (atW M (p-c0)) i=FF S p i)∧(∀e∈M,e.2.length=n)∧Zam H H'∧H' c=some (.lst (ms.map V.int))∧H' c2=some (.lst ((ms.map V.int).drop 1))∧H' d=some (.dK kvs)∧Za7 H3 H')
   ⟨_,_,wr,e0.2.2.map (· *0),[],[],c0,c0-1,rfl,s6 _ _ (s5 _ _ hwr),by rw[Qaf];exact we0,hm0,by omega,fun k hk hlt=>by have:=(kb k ((mm k).mp hk)).1;omega,fun i=>by rw[ZeG,low,Qcz],hpc6,Wg.nil _,rfl,fun e he=>(by cases he),by rw[ZaI];omega,fun p p0 p1=>(by omega),fun e he=>(by cases he),s03.trans s36,hc56,hc6,hd5,s36.tups⟩ (by rw[Qbd,Qaf];omega) (fun j σ H' _ ⟨_,_,_,_,_,_,_,_,_,_,_,_,_,_,_,_,_,_,_,_,_,_,_,q1,q2,_⟩=>⟨SqL.of q1,SqL.of q2⟩) ?_ ?_⟩
  ·rintro j x y σ H7 pr hx hy ⟨x5,x6,wq,us,zs,M,cj,pv,rfl,hwq,lus,hcj,pvl,pvk,cus,hpc7,g7,lM,pM,tM,aM,wM,s7,h7c,h7c2,h7d,T7⟩ hpr;have ex:x=V.int cj:=by rw[Qao,hcj] at hx;cases hx;rfl
   obtain⟨cn,hcn,ey⟩:∃cn,ms[j+1]?=some cn∧y=V.int cn:=by
    rw[Qcs,Qao,Nat.add_comm 1 j] at hy
    cases z:ms[j+1]? with
    |none=>rw[z] at hy;cases hy
    |some cn=>rw[z] at hy;cases hy;exact⟨cn,rfl,rfl⟩
   subst ex ey;have ltn:cj<cn:=Zha so hcj hcn (QcU _);have hj1:j+1<ms.length:=(Qab.mp hcn).1;have s8:=Zam.nw (o:=.tup [.int cj,.int cn]) (Zam.refl H7) hpr;have f8:(upd H7 pr (.tup [.int cj,.int cn])) pr=some (.tup [.int cj,.int cn]):=Zad;generalize upd H7 pr (.tup [.int cj,.int cn])=H8 at s8 f8⊢;refine⟨pr,_,rfl,SqT.of f8,rfl,_,_,rfl,_,_,rfl,rfl,?_⟩;have D8:DR H8 d n (evs S) kvs:=D.up (s8 _ _ h7d) ((s13.tups.trans T7).trans s8.tups);have mcj:Ze1 S cj:=(mm cj).mp (Qav hcj)
   cases zv:Zc5 kvs (Sum.inl cj:Key) with
   |none=>exact absurd (by rw[hks];exact QaR.mpr ⟨cj,(km cj).mpr mcj,rfl⟩) (Zgl zv)
   |some vv=>
    obtain⟨p,vs,rfl,hp8,lvs,cvs⟩:=D8.vals cj vv zv
    have dg:ZfT H8 d (.int cj) (some (.ref p)):=by
     have q:=ZfT.k (k:=Sum.inl cj) D8.hd;rw[zv] at q;exact q
    refine⟨_,rfl,_,rfl,_,rfl,d,_,rfl,dg,wq,p,us,vs,rfl,s8 _ _ hwq,hp8,by omega,by omega,fun r H9 fr hr9 s9=> ?_⟩;have s89:=s8.trans s9;refine⟨_,rfl,.inl ⟨rfl,_,SqL.of (s89 _ _ hpc7)⟩,_,rfl,_,rfl,_,_,rfl,rfl,_,rfl,zL2,fun pp hpp=> ?_⟩;have sA:=Zam.nw (o:=.tup [.int (cn-cj),.ref r]) s89 hpp;have fA:(upd H9 pp (.tup [.int (cn-cj),.ref r])) pp=some (.tup [.int (cn-cj),.ref r]):=Zad;have rA:(upd H9 pp (.tup [.int (cn-cj),.ref r])) r=some (.tup ((plusW us vs).map V.int)):=by rw[Zaq (Zar hr9 hpp)];exact hr9
    generalize upd H9 pp (.tup [.int (cn-cj),.ref r])=HA at sA fA rA⊢;refine⟨pc,zs,_,rfl,rfl,sA _ _ hpc7,QaF (by rw[g7.1];omega:zs.length≤1000) (by decide),?_⟩;have TA:Za7 HA (upd HA pc (.lst (zs++ [.ref pp]))):=(Za7.refl HA).lst (sA _ _ hpc7)
    have cw:∀i,co (plusW us vs) i=FF S cj i:=fun i=>by
     unfold plusW;rw[Zgi i (by omega),cus,cvs,Zp1];refine(Zmo i pvl fun k hk hle=> ?_).symm;rcases Int.lt_or_eq_of_le hle with q|q
     ·exact .inl (pvk k ((mm k).mpr hk) q)
     ·exact .inr q
    have btw:∀k∈ms,k<cn→k≤cj:=fun k hk hlt=>Zil so hcj hcn hk hlt;refine⟨_,_,r,plusW us vs,_,M++ [(cn-cj,plusW us vs)],cn,cj,rfl,TA _ _ rA,by unfold plusW;rw[Qb1];omega,hcn,ltn,btw,cw,Zad,Wg.snoc (g7.up (sA.tups.trans TA)) ⟨pp,r,rfl,TA _ _ fA,TA _ _ rA⟩,by rw[Qae,lM];rfl,?_,?_,?_,?_,?_,by rw[Zaq (Ne.symm npcc)];exact sA _ _ h7c,by rw[Zaq (Ne.symm npc2)];exact sA _ _ h7c2,by rw[Zaq (Ne.symm npcd)];exact sA _ _ h7d,T7.trans (sA.tups.trans TA)⟩
    ·intro z hz;rcases Qap.mp hz with q|q
     ·exact pM z q
     ·rw[Qal.mp q];show 0<cn-cj;omega
    ·rw[ZaZ,ZaD,ZaI,tM];show cj-c0+(cn-cj+0)=_;omega
    ·intro p' p0 p1 i;have nM:∀e∈M,0≤e.1:=fun e he=>Qa9 (pM e he);by_cases z:p'<cj
     ·rw[Zcw nM (by omega) (by omega)];exact aM p' p0 z i
     ·have e9:atW (M++ [(cn-cj,plusW us vs)]) (p'-c0)=plusW us vs:=ZpL nM (by omega) (by omega);rw[e9,cw];exact(Zmp i (by omega) fun k hk hle=>btw k ((mm k).mpr hk) (by omega)).symm
    ·intro z hz;rcases Qap.mp hz with q|q
     ·exact wM z q
     ·rw[Qal.mp q];show(plusW us vs).length=n;unfold plusW;rw[Qb1];omega
    ·intro b o z;rw[Zaq (Zar z fpcH)];exact sA _ _ (s7 _ _ z)
  ·rintro σ H7 ⟨x5,x6,wq,us,zs,M,cj,pv,rfl,hwq,lus,hcj,pvl,pvk,cus,hpc7,g7,lM,pM,tM,aM,wM,s7,h7c,h7c2,h7d,T7⟩;rw[hml] at hcj;cases hcj;have nM:∀e∈M,0≤e.1:=fun e he=>Qa9 (pM e he);refine⟨_,rfl,pc,zs,M,rfl,SqL.of hpc7,g7,by omega,nM,fun r zr H8 f8 h8 g8 s8=> ?_⟩;refine k r zr (ZaM M) H8 (s7.free f8) h8 g8 ⟨ZbQ M,by rw[Toy.shape_tot nM,tM],ZcL (p:=fun u=>u.length=n) wM,fun p p0 p1 i=> ?_,?_⟩ (s7.trans s8)
   ·rw[Zgh nM (by omega)];exact aM p p0 p1 i
   ·have:=Zb7 M;omega
theorem ZjO {t:Int}:∀{A:Wl} {lo:Int},(wst t A lo).length=3*A.length
 | [],_=>rfl
 |e::A,lo=>by
  show(ws1 t e lo++wst t A (lo+e.1)).length=3*(A.length+1);rw[Qae,ZjO];show 3+_=_;omega
theorem ZrM {z:Int}(h: -(10^200)<z∧z<10^200):z.natAbs<2^9000:=by
 have h1:z.natAbs<10^200:=by omega
 exact Nat.lt_trans h1 (by decide)
theorem ZnZ {a t:Int}(h0:0<a)(h1:a<2^60)(ht:0<t):0≤a/t∧a/t<2^60:=by
 refine⟨QdJ (by omega) (by omega),?_⟩
 have:=Int.ediv_le_self t (by omega:0≤a);omega
abbrev ZjP:Stmt:=top 26
theorem ZpN (F:Fun K "wound" "wound" ZjP f fd)(M:Txt mg)(gbt:Kn P w K mg base "laid_from" 1 ["weighing", "begin"] (ZhY K))(gcp:Kn P w K mg base "weights_times" 1 ["weights", "times"] Zg9)(gbl:Kn P w K mg base "heaped" 3 ["stretches"] ZkB)(B:Gb mg):Za6 P w K mg base CX0 4 f fd ["weighing", "t"] ZgZ:=by
 refine F.okl ["weighing","t","stretches","low","high","weights","rounds","left","begin"] ?_
 ·rintro sc _ _ _ s H _ Q E hr⟨a,xs,A,n,t,rfl,ha,g,ne,hl,hn,wid,pos,t0,t1,k⟩
  refine⟨_,(Zae (PsA sc 2 (ZaR Zab))
   (Zae (ZbC QaH rfl (Zbn (Zaf gbt hr rfl (Zac (pv 0) (Zav Zai Zab)))) (ZaY rfl (Zah (PgA sc 3) (Zah (PgA sc 4) (Zah (PgA sc 5) ZaE))))
   (Zae (Za9 (Zay ZhM (by rfl) B.dm boot_divmod (ZaT (Zax Za0 (pv 4) (pv 3)) (Zac (pv 1) Zab))) (ZaY rfl (Zah (PgA sc 6) (Zah (PgA sc 7) ZaE))))
   (Zae (PsA sc 8 (Zax Zcs (pv 3) (pv 1)))
   (Zae (ZaP (ZdB QaV Qa1 Qa2 Zbm (pv 2) (Zbb (ZaO (Zds Zai (pv 1) (Zaf gcp hr rfl (Zac (pv 5) (Zac (pv 6) Zab))) Zab)) Zab)))
   (Zae (ZaP (ZdB QaV Qa1 Qa2 Zbm (pv 2) (Zbb (ZaO (Zds (pv 8) (Zay (Zbl rfl) (by rfl) M.min QcW (ZaT (Zax ZaF (pv 8) (pv 7)) (Zac (pv 1) Zab))) (pv 5) Zab)) Zab)))
   (Zak (ZaP (ZdB QaV Qa1 Qa2 Zbm (pv 2) (Zbb (ZaO (Zds Zai (Zay (ZbF rfl) (by rfl) M.max Qc5 (ZaT (Zax Za0 (Zax ZaF (pv 8) (pv 7)) (pv 1)) (Zav Zai Zab))) (pv 5) Zab)) Zab)))))))))
   (Zak (ZaA (Zaf gbl hr rfl (Zac (pv 2) Zab)))))),?_⟩
  refine⟨zL0,fun st fst=> ?_⟩;have s1:=Zam.nw (o:=.lst []) (Zam.refl H) fst;have hst1:(upd H st (.lst [])) st=some (.lst []):=Zad;generalize upd H st (.lst [])=H1 at s1 hst1⊢;refine⟨_,rfl,a,xs,A,0,rfl,SqL.of (s1 _ _ ha),g.up s1.tups,by omega,fun lb lz H2 f2 h2 ly s2=>⟨lb,rfl,⟨lz,SqL.of h2⟩,?_⟩⟩;have s12:=s1.trans s2;have hst2:=s2 _ _ hst1;have nsl:st≠lb:=fun z=>by rw[z] at hst1;rw[hst1] at f2;cases f2
  have lt9:t.natAbs.log2<9000:=(Nat.log2_lt (by omega)).mpr (ZrM (by omega));refine ZbL (K:=K) (a:=lb) (xs:=lz) (fun i σ H'=>∃(x3 x4 x5 x6 x7 x8:Option V)(zs:List V),σ=[some (.ref a),some (.int t),some (.ref st),x3,x4,x5,x6,x7,x8]∧H' st=some (.lst zs)∧Stg H' zs (wst t (A.take i) 0)∧Zam H H'∧H' lb=some (.lst lz)∧Za7 H2 H') ⟨_,_,_,_,_,_,[],rfl,hst2,Stg.nil _,s12,h2,Za7.refl _⟩ (fun i σ H' _ ⟨_,_,_,_,_,_,_,_,_,_,_,q,_⟩=>SqL.of q) ?_ ?_
  ·rintro i x σ H3 hx ⟨x3,x4,x5,x6,x7,x8,zs,rfl,hst3,g3,s3,hlb3,T3⟩;have hi:i<A.length:=by have:=(Qab.mp hx).1;rw[ly.1] at this;exact this
   obtain⟨e,he⟩:∃e,A[i]?=some e:=⟨A[i],Qad hi⟩;have hem:e∈A:=Qav he;obtain⟨q,wq,hq1,hq2,hq3⟩:=ly.2 i e he;rw[hx] at hq1;cases hq1;have hw3:=T3 _ _ hq3;have ehl:(0+tot (A.take (i+1)))-(0+tot (A.take i))=e.1:=by rw[ZcQ he];omega
   have lzs:zs.length≤450:=by rw[g3.1,ZjO,Qax];omega
   obtain⟨d0,d1⟩:=ZnZ (pos e hem).1 (pos e hem).2 t0;have wlen:=wid e hem;refine⟨q,_,rfl,SqT.of (T3 _ _ hq2),rfl,_,_,rfl,_,_,rfl,_,_,rfl,rfl,?_⟩;refine⟨_,rfl,_,rfl,_,_,rfl,rfl,_,rfl,_,t,rfl,⟨t0,lt9⟩,fun dp hdp=> ?_⟩;rw[ehl];have s4:=Zam.nw (o:=.tup [.int (e.1/t),.int (e.1%t)]) (Zam.refl H3) hdp;have f4:(upd H3 dp (.tup [.int (e.1/t),.int (e.1%t)])) dp=some (.tup [.int (e.1/t),.int (e.1%t)]):=Zad;generalize upd H3 dp (.tup [.int (e.1/t),.int (e.1%t)])=H4 at s4 f4⊢;refine⟨dp,_,rfl,SqT.of f4,rfl,_,_,rfl,_,_,rfl,rfl,?_⟩;refine⟨_,rfl,_,rfl,_,_,rfl,rfl,t0,?_⟩;refine⟨_,rfl,.inl ⟨rfl,_,SqL.of (s4 _ _ hst3)⟩,_,rfl,_,rfl,_,rfl,wq,e.2,e.1/t,rfl,s4 _ _ hw3,by omega,⟨by omega,by omega⟩,fun r5 H5 f5 h5 s5=>⟨zL3,fun p1 hp1=> ?_⟩⟩;have s6:=Zam.nw (o:=.tup [.int 0,.int t,.ref r5]) (s4.trans s5) hp1;have f6:(upd H5 p1 (.tup [.int 0,.int t,.ref r5])) p1=some (.tup [.int 0,.int t,.ref r5]):=Zad;have r6:(upd H5 p1 (.tup [.int 0,.int t,.ref r5])) r5=some (.tup ((e.2.map (· *(e.1/t))).map V.int)):=by rw[Zaq (Zar h5 hp1)];exact h5
   generalize upd H5 p1 (.tup [.int 0,.int t,.ref r5])=H6 at s6 f6 r6⊢;have hst6:=s6 _ _ hst3;refine⟨st,zs,_,rfl,rfl,hst6,QaF (by omega:zs.length≤1000) (by decide),?_⟩;have T7:Za7 H6 (upd H6 st (.lst (zs++ [.ref p1]))):=(Za7.refl H6).lst hst6;have hst7:(upd H6 st (.lst (zs++ [.ref p1]))) st=some (.lst (zs++ [.ref p1])):=Zad;have s7:Zam H (upd H6 st (.lst (zs++ [.ref p1]))):=Zam.ow (s3.trans s6) fst;have hlb7:(upd H6 st (.lst (zs++ [.ref p1]))) lb=some (.lst lz):=by rw[Zaq (Ne.symm nsl)];exact s6 _ _ hlb3
   have g7:=Stg.snoc (g3.up (s6.tups.trans T7)) (s:=(0,t,e.2.map (· *(e.1/t)))) ⟨p1,r5,rfl,T7 _ _ f6,T7 _ _ r6⟩;have hw7:=T7 _ _ (s6.tups _ _ hw3);have T37:=T3.trans (s6.tups.trans T7);generalize upd H6 st (.lst (zs++ [.ref p1]))=H7 at hst7 s7 hlb7 g7 hw7 T37⊢;refine⟨_,rfl,.inl ⟨rfl,_,SqL.of hst7⟩,_,rfl,_,rfl,_,rfl,_,_,rfl,rfl,_,rfl,_,_,rfl,_,rfl,zL3,fun p2 hp2=> ?_⟩;have sh:∀z:HO,upd H7 p2 z p2=some z:=fun z=>Zad;generalize hlo:0+tot (A.take i)=lo at*;have s8:=Zam.nw (o:=.tup [.int (lo%t),.int (mn (lo%t+e.1%t) t),.ref wq]) (Zam.refl H7) hp2;have f8:(upd H7 p2 (.tup [.int (lo%t),.int (mn (lo%t+e.1%t) t),.ref wq])) p2=some (.tup [.int (lo%t),.int (mn (lo%t+e.1%t) t),.ref wq]):=Zad;have e8:(HO.tup [(fun i j=>V.int (i%j)) lo t,V.int (if t<lo%t+e.1%t then t else lo%t+e.1%t),V.ref wq])= .tup [.int (lo%t),.int (mn (lo%t+e.1%t) t),.ref wq]:=rfl;rw[e8];generalize upd H7 p2 (.tup [.int (lo%t),.int (mn (lo%t+e.1%t) t),.ref wq])=H8 at s8 f8⊢;have hst8:=s8 _ _ hst7;have l8:(zs++ [V.ref p1]).length=zs.length+1:=by rw[Qae];rfl
   refine⟨st,_,_,rfl,rfl,hst8,QaF (by omega:(zs++ [V.ref p1]).length≤1000) (by decide),?_⟩;have T9:Za7 H8 (upd H8 st (.lst ((zs++ [.ref p1])++ [.ref p2]))):=(Za7.refl H8).lst hst8;have hst9:(upd H8 st (.lst ((zs++ [.ref p1])++ [.ref p2]))) st=some (.lst ((zs++ [.ref p1])++ [.ref p2])):=Zad;have s9:Zam H (upd H8 st (.lst ((zs++ [.ref p1])++ [.ref p2]))):=Zam.ow (s7.trans s8) fst;have hlb9:(upd H8 st (.lst ((zs++ [.ref p1])++ [.ref p2]))) lb=some (.lst lz):=by rw[Zaq (Ne.symm nsl)];exact s8 _ _ hlb7
   have hw9:=T9 _ _ (s8.tups _ _ hw7);have g9:=Stg.snoc (g7.up (s8.tups.trans T9)) (s:=(lo%t,mn (lo%t+e.1%t) t,e.2)) ⟨p2,wq,rfl,T9 _ _ f8,hw9⟩;have T39:=T37.trans (s8.tups.trans T9);generalize upd H8 st (.lst ((zs++ [.ref p1])++ [.ref p2]))=H9 at hst9 s9 hlb9 g9 hw9 T39⊢;refine⟨_,rfl,.inl ⟨rfl,_,SqL.of hst9⟩,_,rfl,_,rfl,_,_,rfl,rfl,_,rfl,_,_,rfl,rfl,_,_,rfl,_,rfl,zL3,fun p3 hp3=> ?_⟩;have sA:=Zam.nw (o:=.tup [.int 0,.int (mx (lo%t+e.1%t-t)),.ref wq]) (Zam.refl H9) hp3;have fA:(upd H9 p3 (.tup [.int 0,.int (mx (lo%t+e.1%t-t)),.ref wq])) p3=some (.tup [.int 0,.int (mx (lo%t+e.1%t-t)),.ref wq]):=Zad;have eA:(HO.tup [V.int 0,V.int (if(0:Int)>lo%t+e.1%t-t then 0 else lo%t+e.1%t-t),V.ref wq])= .tup [.int 0,.int (mx (lo%t+e.1%t-t)),.ref wq]:=rfl;rw[eA];generalize upd H9 p3 (.tup [.int 0,.int (mx (lo%t+e.1%t-t)),.ref wq])=HA at sA fA⊢;have hstA:=sA _ _ hst9;have lA:((zs++ [V.ref p1])++ [V.ref p2]).length=zs.length+2:=by rw[Qae,l8];rfl
   refine⟨st,_,_,rfl,rfl,hstA,QaF (by omega:((zs++ [V.ref p1])++ [V.ref p2]).length≤1000) (by decide),?_⟩;have TB:Za7 HA (upd HA st (.lst (((zs++ [.ref p1])++ [.ref p2])++ [.ref p3]))):=(Za7.refl HA).lst hstA;have gB:=Stg.snoc (g9.up (sA.tups.trans TB)) (s:=(0,mx (lo%t+e.1%t-t),e.2)) ⟨p3,wq,rfl,TB _ _ fA,TB _ _ (sA.tups _ _ hw9)⟩;refine⟨_,_,_,_,_,_,_,rfl,Zad,?_,Zam.ow (s9.trans sA) fst,by rw[Zaq (Ne.symm nsl)];exact sA _ _ hlb9,T39.trans (sA.tups.trans TB)⟩
   have ew:wst t (A.take (i+1)) 0=((wst t (A.take i) 0++ [(0,t,e.2.map (· *(e.1/t)))])++ [(lo%t,mn (lo%t+e.1%t) t,e.2)])++ [(0,mx (lo%t+e.1%t-t),e.2)]:=by
    rw[ZaJ he,Zkc,hlo,Qa7,Qa7];rfl
   rw[ew];exact gB
  ·rintro σ H3 ⟨x3,x4,x5,x6,x7,x8,zs,rfl,hst3,g3,s3,hlb3,T3⟩;have et:A.take lz.length=A:=by rw[ly.1];exact Qa3
   rw[et] at g3
   have nA:∃e A',A=e::A':=by
    cases A with
    |nil=>exact absurd rfl ne
    |cons e A'=>exact⟨e,A',rfl⟩
   have kin:∀s∈wst t A 0,(s.1=0∨s.1∈(Zqq A A.length).map (· %t))∧(s.2.1=0∨s.2.1=t∨s.2.1∈(Zqq A A.length).map (· %t)):=fun s hs=>by
    obtain⟨_,_,_,_,_,q1,q2⟩:=Zgj t0 hs
    have key:∀z,(∃j,j≤A.length∧z=(0+tot (A.take j)) %t)→z∈(Zqq A A.length).map (· %t):=fun z ⟨j,hj,e⟩=>by
     refine QaR.mpr ⟨tot (A.take j),?_,by rw[e,QbS]⟩;unfold Zqq;exact QaR.mpr ⟨j,QbD.mpr (by omega),rfl⟩
    exact⟨q1.imp id (key _),q2.imp id (Or.imp id (key _))⟩
   obtain⟨e0,A',eA⟩:=nA;have k0:(0,t,e0.2.map (· *(e0.1/t)))∈wst t A 0:=by rw[eA];exact QaY _ Qah
   refine⟨_,rfl,st,zs,wst t A 0,n,0,t,0::t::(Zqq A A.length).map (· %t),rfl,hst3,g3,fun z=>(by rw[z] at k0;cases k0),by rw[ZjO];omega,hn,fun s hs=> ?_,?_,fun z ⟨s,hs,hz⟩=> ?_,⟨_,k0,.inl rfl⟩,⟨_,k0,.inr rfl⟩,fun z ⟨s,hs,hz⟩=> ?_,fun r zr R H4 f4 h4 g4 hR s4=> ?_⟩
   ·obtain⟨_,_,_,_,⟨e,he,q⟩,_⟩:=Zgj t0 hs;rw[q];exact wid e he
   ·simp only[QaB,Qaf,ZkA];omega
   ·obtain⟨q1,q2⟩:=kin s hs;rcases hz with rfl|rfl
    ·rcases q1 with q|q
     ·rw[q];exact Qah
     ·exact Qag _ (Qag _ q)
    ·rcases q2 with q|q|q
     ·rw[q];exact Qah
     ·rw[q];exact Qag _ Qah
     ·exact Qag _ (Qag _ q)
   ·obtain⟨q1,q2,q3,q4,_⟩:=Zgj t0 hs;rcases hz with rfl|rfl
    ·exact⟨q1,q2⟩
    ·exact⟨q3,q4⟩
   ·have ek:(0::t::(Zqq A A.length).map (· %t)).length=A.length+3:=by simp only[QaB,Qaf,ZkA]
    rw[ek] at hR;exact k r zr R H4 (s3.free f4) h4 g4 hR (s3.trans s4)
end
theorem Zkx {H:Hp}{xs ys:List V}{B:Wl}(a:Wg H xs A)(b:Wg H ys B):Wg H (xs++ys) (A++B):=by
 refine⟨by rw[Qae,Qae,a.1,b.1],fun i x e h1 h2=> ?_⟩;by_cases z:i<xs.length
 ·rw[Qas z] at h1;rw[Qas (a.1 ▸ z)] at h2;exact a.2 i x e h1 h2
 ·rw[Qaq (by omega)] at h1;rw[Qaq (by have:=a.1;omega),←a.1] at h2;exact b.2 _ x e h1 h2
section
variable {K:FJ}
abbrev Zhc:Stmt:=top 25
theorem Zn0:Zas ["weighing", "begin", "other", "end", "between"] ["weighing", "begin", "other"] (Zal Zhc):=⟨rfl,rfl,rfl,by decide +kernel,rfl,by decide +kernel,by decide +kernel⟩
theorem ZtA (F:Fun K "put_to" "put_to" Zhc f fd)(M:Txt mg)(gbw:Kn P w K mg base "length" 1 ["weighing"] (Zfb K))(gcf:Kn P w K mg base "part" 2 ["weighing", "begin", "end"] (Zev K))(gam:Kn P w K mg base "added" 2 ["one", "other"] ZnU)(gcj:Kn P w K mg base "shaped" 1 ["pieces"] (Zcy K)):Za6 P w K mg base CX0 3 f fd ["weighing", "begin", "other"] Zkr:=by
 have sd:=Zn0;have sc:=sd.nd;refine F.ok sd (fun vs H Q E h=> ?_) (fun cdv A' outer s H vs Q E hr h=> ?_)
 ·obtain⟨a,b,xs,ys,A,C,bg,wd,rfl,_⟩:=h;rfl
 ·obtain⟨a,b,xs,ys,A,C,bg,wd,rfl,ha,hb,ga,gc,nA,pC,b0,b1,lA,lC,w24,wA,wC,k⟩:=h
  refine⟨_,(Zae (PsA sc 3 (Zax ZaF (pv 1) (Zaf gbw hr rfl (Zac (pv 2) Zab))))
   (Zae (PsA sc 4 (Zaf gam hr rfl (ZaG (Zaf gcf hr rfl (Zac (pv 0) (Zac (pv 1) (Zac (pv 3) Zab)))) (Zac (pv 2) Zab))))
   (Zak (ZaA (Zaf gcj hr rfl (ZaT (Zax ZfP (Zax ZfP (Zaf gcf hr rfl (Zac (pv 0) (Zav Zai (Zac (pv 1) Zab)))) (pv 4)) (Zaf gcf hr rfl (Zac (pv 0) (Zac (pv 3) (ZaG (Zaf gbw hr rfl (Zac (pv 0) Zab)) Zab))))) Zab)))))),?_⟩
  have pA:∀e∈A,0<e.1:=nA.pos;have c0:0≤tot C:=tot_pos0 fun e he=>Qa9 (pC e he);refine⟨_,rfl,_,rfl,b,ys,C,rfl,SqL.of hb,gc,by omega,fun H1 s1=>⟨_,_,rfl,rfl,?_⟩⟩;refine⟨_,rfl,_,rfl,_,rfl,a,xs,A,bg,bg+tot C,rfl,SqL.of (s1 _ _ ha),ga.up s1.tups,by omega,pA,by omega,fun p1 z1 H2 f2 h2 g2 s2=> ?_⟩;have s02:=s1.trans s2;have l2:(ZaM (Zcf bg (bg+tot C) 0 A)).length≤200:=QaW (Zb7 _) (QaW (ZcR _ _ _ _) lA);have w2:∀e∈ZaM (Zcf bg (bg+tot C) 0 A),e.2.length=wd:=ZcL (p:=fun u=>u.length=wd) (Zgg (p:=fun u=>u.length=wd) wA);have l0:(ZaM (Zcf 0 bg 0 A)).length≤200:=QaW (Zb7 _) (QaW (ZcR _ _ _ _) lA);have l9:(ZaM (Zcf (bg+tot C) (tot A) 0 A)).length≤200:=QaW (Zb7 _) (QaW (ZcR _ _ _ _) lA);have e2:ZaM (Zcf bg (bg+tot C) 0 A)=Zbh (tot C) (ZbH bg A):=by rw[Zgf nA b0 (by omega),show bg+tot C-bg=tot C by omega]
  have e0:ZaM (Zcf 0 bg 0 A)=Zbh bg (ZbH 0 A):=by rw[Zgf nA (QaL _) b0,Qde]
  have e9:ZaM (Zcf (bg+tot C) (tot A) 0 A)=Zbh (tot A-(bg+tot C)) (ZbH (bg+tot C) A):=Zgf nA (by omega) b1;have pD:∀x,∀e∈ZbH x A,0<e.1:=fun x=>(Zbx nA).pos;have p2:∀e∈ZaM (Zcf bg (bg+tot C) 0 A),0<e.1:=(ZbQ _).pos;have p0:∀e∈ZaM (Zcf 0 bg 0 A),0<e.1:=(ZbQ _).pos;have p9:∀e∈ZaM (Zcf (bg+tot C) (tot A) 0 A),0<e.1:=(ZbQ _).pos;have t2:tot (ZaM (Zcf bg (bg+tot C) 0 A))=tot C:=by rw[e2,tot_takeF (pD _) c0 (by rw[tot_dropF pA b0 (by omega)];omega)]
  have t0:tot (ZaM (Zcf 0 bg 0 A))=bg:=by rw[e0,tot_takeF (pD _) b0 (by rw[tot_dropF pA (QaL _) (by omega)];omega)]
  have t9:tot (ZaM (Zcf (bg+tot C) (tot A) 0 A))=tot A-(bg+tot C):=by rw[e9,tot_takeF (pD _) (by omega) (by rw[tot_dropF pA (by omega) b1];omega)]
  have a2:∀p,0≤p→p<tot C→atW (ZaM (Zcf bg (bg+tot C) 0 A)) p=atW A (p+bg):=fun p q0 q1=>by rw[e2,ZbJ (pD _) q0 q1,ZbK pA b0 q0]
  have a0:∀p,0≤p→p<bg→atW (ZaM (Zcf 0 bg 0 A)) p=atW A p:=fun p q0 q1=>by rw[e0,ZbJ (pD _) q0 q1,ZbK pA (QaL _) q0,QbB]
  have a9:∀p,0≤p→p<tot A-(bg+tot C)→atW (ZaM (Zcf (bg+tot C) (tot A) 0 A)) p=atW A (p+(bg+tot C)):=fun p q0 q1=>by rw[e9,ZbJ (pD _) q0 q1,ZbK pA (by omega) q0]
  generalize ZaM (Zcf bg (bg+tot C) 0 A)=X2 at*;refine⟨_,rfl,p1,b,z1,ys,X2,C,wd,rfl,h2,s02 _ _ hb,g2,gc.up s02.tups,p2,pC,t2,l2,lC,w24,w2,wC,fun r zr R H3 f3 h3 g3 so s3=> ?_⟩;have s03:=s02.trans s3;refine⟨_,rfl,_,rfl,a,xs,A,0,bg,rfl,SqL.of (s03 _ _ ha),ga.up s03.tups,by omega,pA,b0,fun q0 y0 H4 f4 h4 g4 s4=> ?_⟩;have tR:tot R=tot C:=by rw[so.sum];exact t2
  have lR:R.length≤401:=by have:=so.len;omega
  have nX0:∀e∈ZaM (Zcf 0 bg 0 A),0≤e.1:=fun e he=>Qa9 (p0 e he);have nR:∀e∈R,0≤e.1:=fun e he=>Qa9 (so.nrm.pos e he);have nX9:∀e∈ZaM (Zcf (bg+tot C) (tot A) 0 A),0≤e.1:=fun e he=>Qa9 (p9 e he);have ly0:y0.length≤200:=by rw[g4.1];exact l0
  have lzr:zr.length≤401:=by rw[g3.1];exact lR
  refine⟨_,rfl,q0,r,_,_,rfl,rfl,h4,s4 _ _ h3,QaW (show y0.length+zr.length≤1000 by omega) (by decide),fun c1 hc1=> ?_⟩;have s5:=Zam.nw (o:=.lst (y0++zr)) (Zam.refl H4) hc1;have f5:(upd H4 c1 (.lst (y0++zr))) c1=some (.lst (y0++zr)):=Zad;generalize upd H4 c1 (.lst (y0++zr))=H5 at s5 f5⊢;have s05:=(s03.trans s4).trans s5;refine⟨_,rfl,_,rfl,_,rfl,a,xs,A,rfl,SqL.of (s05 _ _ ha),ga.up s05.tups,by omega,fun H6 s6=> ?_⟩;have s06:=s05.trans s6;refine⟨a,xs,A,bg+tot C,tot A,rfl,SqL.of (s06 _ _ ha),ga.up s06.tups,by omega,pA,b1,fun q9 y9 H7 f7 h7 g7 s7=> ?_⟩;have s07:=s06.trans s7;have ly9:y9.length≤200:=by rw[g7.1];exact l9
  refine⟨c1,q9,_,_,rfl,rfl,s7 _ _ (s6 _ _ f5),h7,QaW (show(y0++zr).length+y9.length≤1000 by rw[Qae];omega) (by decide),fun c2 hc2=> ?_⟩;have s8:=Zam.nw (o:=.lst ((y0++zr)++y9)) (Zam.refl H7) hc2;have f8:(upd H7 c2 (.lst ((y0++zr)++y9))) c2=some (.lst ((y0++zr)++y9)):=Zad;generalize upd H7 c2 (.lst ((y0++zr)++y9))=H8 at s8 f8⊢;have s48:=((s5.trans s6).trans s7).trans s8;have gL:Wg H8 ((y0++zr)++y9) ((ZaM (Zcf 0 bg 0 A)++R)++ZaM (Zcf (bg+tot C) (tot A) 0 A)):=Zkx (Zkx (g4.up s48.tups) (g3.up (s4.trans s48).tups)) (g7.up s8.tups);have lL:((ZaM (Zcf 0 bg 0 A)++R)++ZaM (Zcf (bg+tot C) (tot A) 0 A)).length≤900:=by rw[Qae,Qae];omega
  have nX:∀e∈ZaM (Zcf 0 bg 0 A)++R,0≤e.1:=fun e he=>(Qap.mp he).elim (nX0 e) (nR e);have nL:∀e∈(ZaM (Zcf 0 bg 0 A)++R)++ZaM (Zcf (bg+tot C) (tot A) 0 A),0≤e.1:=fun e he=>(Qap.mp he).elim (nX e) (nX9 e);have tX:tot (ZaM (Zcf 0 bg 0 A)++R)=bg+tot C:=by rw[ZaZ,t0,tR]
  refine⟨c2,_,_,rfl,SqL.of f8,gL,by omega,nL,fun rr zz H9 f9 h9 g9 s9=> ?_⟩;refine k rr zz _ H9 ((s07.trans s8).free f9) h9 g9 ⟨ZbQ _,by rw[Toy.shape_tot nL,ZaZ,tX,t9];omega,fun p q1 q2=> ?_,QaW (Zb7 _) lL⟩ ((s07.trans s8).trans s9);rw[Zgh nL q1];by_cases z:p<bg
  ·rw[Qn (by omega),Qa7,Zcw nX0 q1 (by omega)];exact a0 p q1 z
  ·by_cases z2:p<bg+tot C
   ·rw[Qp (by omega),Zcw nX q1 (by omega),ZbV nX0 (by omega),t0,so.at' (p-bg) (by omega) (by omega),a2 (p-bg) (by omega) (by omega),show p-bg+bg=p by omega]
   ·rw[Qn (by omega),ZbV nX (by omega),tX,a9 _ (by omega) (by omega),show p-(bg+tot C)+(bg+tot C)=p by omega]
end
section
variable {K:FJ}
abbrev Zel:Stmt:=top 19
theorem ZjR (F:Fun K "backward" "backward" Zel f fd)(M:Txt mg):Za6 P w K mg base CX0 1 f fd ["weighing"] (Zjf K):=by
 refine F.okl ["weighing"] ?_
 ·rintro sc _ _ _ s H _ Q E hr⟨a,xs,rfl,hS,k⟩;refine⟨_,(Zak (ZaA (Zsq (pv 0) (Zcj (Zex ZcZ Zai))))),?_⟩;exact⟨_,rfl,_,rfl,_,rfl,rfl,a,xs,rfl,hS,k⟩
end
section
variable {K:FJ}
abbrev ZcH:Stmt:=top 42
theorem ZrN (F:Fun K "cut_weighing" "cut_weighing" ZcH f fd)(M:Txt mg)(gcf:Kn P w K mg base "part" 2 ["weighing", "begin", "end"] (Zev K))(gbw:Kn P w K mg base "length" 1 ["weighing"] (Zfb K))(gcg:Kn P w K mg base "put_to" 3 ["weighing", "begin", "other"] Zkr)(gap:Kn P w K mg base "backward" 1 ["weighing"] (Zjf K))(gck:Kn P w K mg base "shift_of" 1 ["pairing"] Zbt)(gcq:Kn P w K mg base "wound" 4 ["weighing", "t"] ZgZ):Za6 P w K mg base CX0 5 f fd ["weighing", "leader", "end"] Zjl:=by
 refine F.okl ["weighing","leader","end","kept","off","shift"] ?_
 ·rintro sc _ _ _ s H _ Q E hr⟨a,q,xs,n,L,p,e,wd,rfl,h1,h2,h3,h4,k⟩
  refine⟨_,(Zae (PsA sc 3 (Zaf gcf hr rfl (Zac (pv 0) (Zav Zai (Zac (pv 2) Zab)))))
   (Zae (PsA sc 4 (Zaf gcf hr rfl (Zac (pv 0) (Zac (pv 2) (ZaG (Zaf gbw hr rfl (Zac (pv 0) Zab)) Zab)))))
   (Zae (Zb0 (Zb4 (ZaB (Zaw (K:=K)) (pv 1) Zai (fun _ _=>rfl))) (Zak (ZaA (Zaf gcg hr rfl (Zac (pv 3) (Zao (ZaB (Zaw (K:=K)) (pv 1) Zai (fun _ _=>rfl)) (ZaG (Zaf gap hr rfl (Zac (pv 4) Zab)) Zab)))))) Za8)
   (Zae (PsA sc 5 (Zaf gck hr rfl (Zac (pv 1) Zab)))
   (Zak (ZaA (Zaf gcg hr rfl (Zac (pv 3) (ZaT (Zax Za0 (pv 2) (pv 5)) (ZaH (Zdi (ZaQ ZiA (Zaf gbw hr rfl (Zac (pv 4) Zab)) (pv 5) (ZaN _)) (pv 4) (Zaf gcq hr rfl (Zac (pv 4) (Zac (pv 5) Zab)))) Zab)))))))))),?_⟩
  exact ZjA (K:=K) h1 h2 h3 h4 k
abbrev Zfp:Stmt:=top 46
theorem Zly (F:Fun K "do_gone" "do_gone" Zfp f fd)(M:Txt mg)(gax:Kn P w K mg base "demand" 1 ["is_deed"] Za2)(gca:Kn P w K mg base "may_go" 1 ["pairing"] ZdG)(gch:Kn P w K mg base "replaced" 1 ["pairings", "k", "coming"] Za4):Za6 P w K mg base CX0 6 f fd ["hall", "deed"] (ZdY fun d=>∃k,d= .gone k):=by
 refine F.okl ["hall","deed","n","pairings","weighing","k"] ?_
 ·rintro sc _ _ _ s H _ Q E hr⟨a,pa,pb,q,n,ps,L,ya,yb,wd,d,rfl,h,sm,hq,cn,e,kk⟩
  refine⟨_,(Zae (Za9 (pv 0) (ZaY rfl (Zah (PgA sc 2) (Zah (PgA sc 3) (Zah (PgA sc 4) ZaE)))))
   (Zae (PsA sc 5 (ZaB (Zaw (K:=K)) (pv 1) Zai (fun _ _=>rfl)) Zc1)
   (Zae (ZaP (Zaf gax hr rfl (ZaG (Zaf gca hr rfl (Zao (ZaB (Zaz (K:=K)) (pv 3) (pv 5) (fun _ _=>rfl)) Zab)) Zab)))
   (Zak (ZaA (ZaO (ZbZ (ZaO (Zds (pv 2) (Zaf gch hr rfl (Zac (pv 3) (Zac (pv 5) (ZdD (ZaR Zab) Zab)))) (Za1 Zbr (by rfl) M.list QdK (Zac (pv 4) Zab)) Zab)) (ZaR Zab) Zab))))))),?_⟩
  exact ZgE (K:=K) h sm hq cn e kk
abbrev ZdM:Stmt:=top 47
theorem Zin (F:Fun K "do_folded" "do_folded" ZdM f fd)(M:Txt mg)(gax:Kn P w K mg base "demand" 1 ["is_deed"] Za2)(gbz:Kn P w K mg base "may_fold" 2 ["pairing"] Zdb)(gch:Kn P w K mg base "replaced" 1 ["pairings", "k", "coming"] Za4)(gbj:Kn P w K mg base "folded" 1 ["pairing"] Zgs):Za6 P w K mg base CX0 6 f fd ["hall", "deed"] (ZdY fun d=>∃k,d= .folded k):=by
 refine F.okl ["hall","deed","n","pairings","weighing","k"] ?_
 ·rintro sc _ _ _ s H _ Q E hr⟨a,pa,pb,q,n,ps,L,ya,yb,wd,d,rfl,h,sm,hq,cn,e,kk⟩
  refine⟨_,(Zae (Za9 (pv 0) (ZaY rfl (Zah (PgA sc 2) (Zah (PgA sc 3) (Zah (PgA sc 4) ZaE)))))
   (Zae (PsA sc 5 (ZaB (Zaw (K:=K)) (pv 1) Zai (fun _ _=>rfl)) Zc1)
   (Zae (ZaP (Zaf gax hr rfl (ZaG (Zaf gbz hr rfl (Zao (ZaB (Zaz (K:=K)) (pv 3) (pv 5) (fun _ _=>rfl)) Zab)) Zab)))
   (Zak (ZaA (ZaO (ZbZ (ZaO (Zds (pv 2) (Zaf gch hr rfl (Zac (pv 3) (Zac (pv 5) (ZdD (ZaR (ZaG (Zaf gbj hr rfl (Zao (ZaB (Zaz (K:=K)) (pv 3) (pv 5) (fun _ _=>rfl)) Zab)) Zab)) Zab)))) (Za1 Zbr (by rfl) M.list QdK (Zac (pv 4) Zab)) Zab)) (ZaR Zab) Zab))))))),?_⟩
  exact ZgF (K:=K) h sm hq cn e kk
abbrev ZdN:Stmt:=top 48
theorem Zip (F:Fun K "do_joined" "do_joined" ZdN f fd)(M:Txt mg)(gax:Kn P w K mg base "demand" 1 ["is_deed"] Za2)(gcb:Kn P w K mg base "may_join" 2 ["one", "other"] Zdc)(gch:Kn P w K mg base "replaced" 1 ["pairings", "k", "coming"] Za4)(gbr:Kn P w K mg base "joined" 2 ["one", "other"] Zgw):Za6 P w K mg base CX0 6 f fd ["hall", "deed"] (ZdY fun d=>∃j k,d= .joined j k):=by
 refine F.okl ["hall","deed","n","pairings","weighing","j","k","fewer"] ?_
 ·rintro sc _ _ _ s H _ Q E hr⟨a,pa,pb,q,n,ps,L,ya,yb,wd,d,rfl,h,sm,hq,cn,e,kk⟩
  refine⟨_,(Zae (Za9 (pv 0) (ZaY rfl (Zah (PgA sc 2) (Zah (PgA sc 3) (Zah (PgA sc 4) ZaE)))))
   (Zae (Za9 (Zb2 (ZdW (K:=K)) (pv 1) (Zcj Zai) ZcD) (ZaY rfl (Zah (PgA sc 5) (Zah (PgA sc 6) ZaE))))
   (Zae (ZaP (Zaf gax hr rfl (ZaH (Zb5 (Zbo Zey (pv 5) (pv 6) (ZaN _)) (Zcb (Zaf gcb hr rfl (Zao (ZaB (Zaz (K:=K)) (pv 3) (pv 5) (fun _ _=>rfl)) (Zao (ZaB (Zaz (K:=K)) (pv 3) (pv 6) (fun _ _=>rfl)) Zab))))) Zab)))
   (Zae (PsA sc 7 (Zaf gch hr rfl (Zac (pv 3) (Zac (pv 6) (ZdD (ZaR Zab) Zab)))))
   (Zak (ZaA (ZaO (ZbZ (ZaO (Zds (pv 2) (Zaf gch hr rfl (Zac (pv 7) (Zac (pv 5) (ZdD (ZaR (ZaG (Zaf gbr hr rfl (Zao (ZaB (Zaz (K:=K)) (pv 3) (pv 5) (fun _ _=>rfl)) (Zao (ZaB (Zaz (K:=K)) (pv 3) (pv 6) (fun _ _=>rfl)) Zab))) Zab)) Zab)))) (Za1 Zbr (by rfl) M.list QdK (Zac (pv 4) Zab)) Zab)) (ZaR Zab) Zab)))))))),?_⟩
  exact ZgG (K:=K) h sm hq cn e kk
abbrev Zdg:Stmt:=top 49
theorem Zhe (F:Fun K "do_carried" "do_carried" Zdg f fd)(M:Txt mg)(gax:Kn P w K mg base "demand" 1 ["is_deed"] Za2)(gby:Kn P w K mg base "may_carry" 2 ["leader", "pairing", "side"] ZcM)(gch:Kn P w K mg base "replaced" 1 ["pairings", "k", "coming"] Za4)(gar:Kn P w K mg base "carried" 3 ["leader", "pairing", "side"] Ze9):Za6 P w K mg base CX0 6 f fd ["hall", "deed"] (ZdY fun d=>∃j k s,d= .carried j k s):=by
 refine F.okl ["hall","deed","n","pairings","weighing","j","k","side"] ?_
 ·rintro sc _ _ _ s H _ Q E hr⟨a,pa,pb,q,n,ps,L,ya,yb,wd,d,rfl,h,sm,hq,cn,e,kk⟩
  refine⟨_,(Zae (Za9 (pv 0) (ZaY rfl (Zah (PgA sc 2) (Zah (PgA sc 3) (Zah (PgA sc 4) ZaE)))))
   (Zae (Za9 (Zb2 (ZdW (K:=K)) (pv 1) (Zcj Zai) ZcD) (ZaY rfl (Zah (PgA sc 5) (Zah (PgA sc 6) (Zah (PgA sc 7) ZaE)))))
   (Zae (ZaP (Zaf gax hr rfl (ZaH (Zb5 (Zbo Zl1 (pv 5) (pv 6) (ZaN _)) (Zcb (Zaf gby hr rfl (Zao (ZaB (Zaz (K:=K)) (pv 3) (pv 5) (fun _ _=>rfl)) (Zao (ZaB (Zaz (K:=K)) (pv 3) (pv 6) (fun _ _=>rfl)) (Zac (pv 7) Zab)))))) Zab)))
   (Zak (ZaA (ZaO (ZbZ (ZaO (Zds (pv 2) (Zaf gch hr rfl (Zac (pv 3) (Zac (pv 6) (ZdD (ZaR (ZaG (Zaf gar hr rfl (Zao (ZaB (Zaz (K:=K)) (pv 3) (pv 5) (fun _ _=>rfl)) (Zao (ZaB (Zaz (K:=K)) (pv 3) (pv 6) (fun _ _=>rfl)) (Zac (pv 7) Zab)))) Zab)) Zab)))) (Za1 Zbr (by rfl) M.list QdK (Zac (pv 4) Zab)) Zab)) (ZaR Zab) Zab))))))),?_⟩
  exact ZfF (K:=K) h sm hq cn e kk
abbrev Zhf:Stmt:=top 50
theorem Zn2 (F:Fun K "do_cut" "do_cut" Zhf f fd)(M:Txt mg)(gax:Kn P w K mg base "demand" 1 ["is_deed"] Za2)(gcc:Kn P w K mg base "may_lead" 1 ["pairing"] Zdd)(gbg:Kn P w K mg base "end_of" 1 ["pairing"] Zbe)(gan:Kn P w K mg base "all_end_by" 2 ["pairings", "end"] ZdX)(gch:Kn P w K mg base "replaced" 1 ["pairings", "k", "coming"] Za4)(gbs:Kn P w K mg base "kept_below" 3 ["pairing", "end"] Zjg)(gav:Kn P w K mg base "cut_weighing" 5 ["weighing", "leader", "end"] Zjl):Za6 P w K mg base CX0 6 f fd ["hall", "deed"] (ZdY fun d=>∃j e,d= .cut j e):=by
 refine F.okl ["hall","deed","n","pairings","weighing","j","end","leader"] ?_
 ·rintro sc _ _ _ s H _ Q E hr⟨a,pa,pb,q,n,ps,L,ya,yb,wd,d,rfl,h,sm,hq,cn,e,kk⟩
  refine⟨_,(Zae (Za9 (pv 0) (ZaY rfl (Zah (PgA sc 2) (Zah (PgA sc 3) (Zah (PgA sc 4) ZaE)))))
   (Zae (Za9 (Zb2 (ZdW (K:=K)) (pv 1) (Zcj Zai) ZcD) (ZaY rfl (Zah (PgA sc 5) (Zah (PgA sc 6) ZaE))))
   (Zae (PsA sc 7 (ZaB (Zaz (K:=K)) (pv 3) (pv 5) (fun _ _=>rfl)) Zc1)
   (Zae (ZaP (Zaf gax hr rfl (ZaH (Zb5 (Zaf gcc hr rfl (Zac (pv 7) Zab)) (Zb5 (Zbo Zdz (Zaf gbg hr rfl (Zac (pv 7) Zab)) (pv 2) (ZaN _)) (Zcb (Zbo ZiA (ZaB (Zaw (K:=K)) (pv 7) Zai (fun _ _=>rfl)) (pv 6) (ZaN _))))) Zab)))
   (Zae (ZaP (Zaf gax hr rfl (ZaG (Zaf gan hr rfl (ZaG (Zaf gch hr rfl (Zac (pv 3) (Zac (pv 5) (ZdD (ZaR Zab) Zab)))) (Zac (pv 6) Zab))) Zab)))
   (Zak (ZaA (ZaO (ZbZ (ZaO (Zds (pv 6) (Zaf gch hr rfl (Zac (pv 3) (Zac (pv 5) (ZaG (Zaf gbs hr rfl (Zac (pv 7) (Zac (pv 6) Zab))) Zab)))) (Zaf gav hr rfl (Zac (pv 4) (Zac (pv 7) (Zac (pv 6) Zab)))) Zab)) (ZaR Zab) Zab))))))))),?_⟩
  exact Zh8 (K:=K) h sm hq cn e kk
abbrev Zfq:Stmt:=top 51
theorem ZlA (F:Fun K "do_free" "do_free" Zfq f fd)(M:Txt mg)(gax:Kn P w K mg base "demand" 1 ["is_deed"] Za2)(gan:Kn P w K mg base "all_end_by" 2 ["pairings", "end"] ZdX)(gcf:Kn P w K mg base "part" 2 ["weighing", "begin", "end"] (Zev K))(gcm:Kn P w K mg base "sorts" 1 ["weighing"] (Ze7 K)):Za6 P w K mg base CX0 6 f fd ["hall", "deed"] (ZdY fun d=>∃e,d= .free e):=by
 refine F.okl ["hall","deed","n","pairings","weighing","end"] ?_
 ·rintro sc _ _ _ s H _ Q E hr⟨a,pa,pb,q,n,ps,L,ya,yb,wd,d,rfl,h,sm,hq,cn,e,kk⟩
  refine⟨_,(Zae (Za9 (pv 0) (ZaY rfl (Zah (PgA sc 2) (Zah (PgA sc 3) (Zah (PgA sc 4) ZaE)))))
   (Zae (PsA sc 5 (ZaB (Zaw (K:=K)) (pv 1) Zai (fun _ _=>rfl)) Zc1)
   (Zae (ZaP (Zaf gax hr rfl (ZaG (Zaf gan hr rfl (Zac (pv 3) (Zac (pv 5) Zab))) Zab)))
   (Zak (ZaA (ZaO (ZbZ (ZaO (Zds (pv 5) (Za1 Zbr (by rfl) M.list QdK (Zac (pv 3) Zab)) (Zaf gcf hr rfl (Zac (pv 4) (Zav Zai (Zac (pv 5) Zab)))) Zab)) (Zaf gcm hr rfl (ZaG (Zaf gcf hr rfl (Zac (pv 4) (Zac (pv 5) (Zac (pv 2) Zab)))) Zab)) Zab))))))),?_⟩
  exact ZgH (K:=K) h sm hq cn e kk
abbrev ZdO:Stmt:=top 55
theorem ZrO (F:Fun K "deed_done" "deed_done" ZdO f fd)(M:Txt mg)(FT:∀f sp,DoT d1 d2 d3 d4 d5 d6 f sp→∃fd,Za6 P w K mg base CX0 6 f fd ["hall", "deed"] sp∧PySem.W.keepIn K (.ref f)=true∧ZdA K fd ["hall", "deed"] [])(gax:Kn P w K mg base "demand" 1 ["is_deed"] Za2)(gbm:Kn P w K mg base "is_formed" 4 ["hall", "deed"] (Ze8 K [("gone",g1),("folded",g2),("joined",g3),("carried",g4),("cut",g5),("free",g6)]))(N:Nms w K mg aF aD aS g1 g2 g3 g4 g5 g6 d1 d2 d3 d4 d5 d6):Za6 P w K mg base CX0 7 f fd ["hall", "deed"] Zff:=by
 refine F.okl ["hall","deed","doing"] ?_
 ·rintro sc _ _ _ s H _ Q E hr⟨a,pa,pb,q,n,ps,L,ya,yb,wd,d,rfl,h,sm,hq,cn,_,kk⟩
  refine⟨_,(Zae (ZaP (Zaf gax hr rfl (ZaG (Zaf gbm hr rfl (Zac (pv 0) (Zac (pv 1) Zab))) Zab)))
   (Zae (PsA sc 2 (ZmA N.kD rfl N.mD (ZaB (Zaw (K:=K)) (pv 1) Zai (fun _ _=>rfl)) (fun _ _=>rfl)) Zc1)
   (Zak (ZaA (Zpa FT hr (pv 2) (Zac (pv 0) (Zac (pv 1) Zab))))))),?_⟩
  exact Zjo (K:=K) N.t1 N.t2 N.t3 N.t4 N.t5 N.t6 h sm hq cn kk
abbrev ZaX:Stmt:=Zmd (top 57) 0
theorem ZpO (F:Fun K "__init__" "Emptying.__init__" ZaX f fd)(M:Txt mg)(gcj:Kn P w K mg base "shaped" 1 ["pieces"] (Zcy K))(W:Dsk w K mg C):Za6 P w K mg base CX0 2 f fd ["self", "hall"] (ZgR K C):=by
 refine F.okl ["self","hall","n","pairings","weighing"] ?_
 ·rintro sc _ _ _ s H _ Q E hr⟨p,dx,a,pa,pb,n,ps,L,ya,yb,wd,rfl,hp,h,sm,k⟩
  refine⟨_,(Zae (Za9 (pv 1) (ZaY rfl (Zah (PgA sc 2) (Zah (PgA sc 3) (Zah (PgA sc 4) ZaE)))))
   (Zae (ZpU (pv 0) (ZaO (Zds (pv 2) (pv 3) (Zaf gcj hr rfl (ZdD (ZaR (Zbb (ZaO (ZbZ (pv 2) (ZaO (Zav Zai Zab)) Zab)) Zab)) Zab)) Zab)) rfl)
   (Zak (ZpU (pv 0) (ZaR Zab) rfl)))),?_⟩
  exact Zid W.cl W.nH W.nD hp h sm k
abbrev ZbA:Stmt:=Zmd (top 57) 1
theorem ZtB (F:Fun K "do" "Emptying.do" ZbA f fd)(M:Txt mg)(gaw:Kn P w K mg base "deed_done" 7 ["hall", "deed"] Zff)(W:Dsk w K mg C):Za6 P w K mg base CX0 8 f fd ["self", "deed"] (Zcz C):=by
 refine F.okl ["self","deed","counted_there"] ?_
 ·rintro sc _ _ _ s H _ Q E hr⟨p,l,q,s0,n,ps,ds,d,rfl,h,hq,cn,ln,k⟩
  refine⟨_,(Zae (Za9 (Zaf gaw hr rfl (ZaH (Zct (pv 0) rfl) (Zac (pv 1) Zab))) (ZaY rfl (Zah (Zs9 (pv 0)) (Zah (PgA sc 2) ZaE))))
   (Zak (ZaP (ZdB QaV Qa1 Qa2 Zbm (Zct (pv 0) rfl) (Zac (pv 1) Zab))))),?_⟩
  exact Zlg W.cl W.nH W.nD h hq cn ln k
abbrev Zem:Stmt:=top 58
theorem ZlB (F:Fun K "fold_all" "fold_all" Zem f fd)(M:Txt mg)(gbz:Kn P w K mg base "may_fold" 2 ["pairing"] Zdb)(gca:Kn P w K mg base "may_go" 1 ["pairing"] ZdG)(qb:KnM P w K mg base C "do" 8 ["self", "deed"] (Zcz C))(W:Dsk w K mg C):Za6 P w K mg base CX0 9 f fd ["emptying"] (Zfg C):=by
 refine F.okl ["emptying","k","pairing"] ?_
 ·rintro sc _ _ _ s H _ Q E hr⟨p,l,s0,n,ps,ds,rfl,h,ln,kk⟩
  refine⟨_,(Zae (PsA sc 1 Zai)
   (Zak (ZcO QaH (ZaQ Zey (pv 1) (Zay (Zcm (K:=K)) (by rfl) M.len QcF (Zao (ZaB (Zaw (K:=K)) (Zct (pv 0) rfl) Zai (fun _ _=>rfl)) Zab)) (ZaN _)) (Zae (PsA sc 2 (ZaB (Zaz (K:=K)) (ZaB (Zaw (K:=K)) (Zct (pv 0) rfl) Zai (fun _ _=>rfl)) (pv 1) (fun _ _=>rfl)) Zc1)
   (Zak (Zb0 (Zb4 (Zaf gbz hr rfl (Zac (pv 2) Zab))) (Zak (ZaP (Zdp W.cl qb hr (pv 0) (Zbb (ZaO (ZbZ Zdv (pv 1) Zab)) Zab)))) (Zak (Zb0 (Zb4 (Zaf gca hr rfl (Zac (pv 2) Zab))) (Zak (ZaP (Zdp W.cl qb hr (pv 0) (Zbb (ZaO (ZbZ Zdv (pv 1) Zab)) Zab)))) (Zak (ZjZ (i:=1) sc rfl (Or.inl rfl) Zai Zj0)))))))))),?_⟩
  exact ZgK W.cl W.nH h ln kk
abbrev ZbY:Stmt:=top 59
theorem ZtC (F:Fun K "turns_to_join" "turns_to_join" ZbY f fd)(M:Txt mg)(gbn:Kn P w K mg base "is_turn" 1 ["pairing"] Zdn)(gcb:Kn P w K mg base "may_join" 2 ["one", "other"] Zdc)(B:Gb mg):Za6 P w K mg base CX0 3 f fd ["pairings"] Zli:=by
 refine F.okl ["pairings","turns","at","j","k"] ?_
 ·rintro sc _ _ _ s H _ Q E hr⟨pa,ya,ps,rfl,ha,ca,pl,k1,k2⟩
  refine⟨_,(Zae (Zj5 (xs:=["k", "pairing"]) (Nb:=["pairings", "turns", "at", "j", ""]) (PgA sc 1) rfl rfl (Zgm rfl B.en (Zac (pv 0) Zab)) rfl (by show∀p∈(List.zip ["pairings", "turns", "at", "j", ""] ["pairings", "turns", "at", "j", "k"]:List (Str×Str)),_;decide +kernel) (by decide +kernel) (fun cl C s₂ H₂ fp=>(ZcF (K:=K) (n:=2) rfl (Zah (PgC ["k","pairing","pairings","turns","at","j",""] 0) (Zah (PgC ["k","pairing","pairings","turns","at","j",""] 1) ZaE)))) (fun cl C s₂ H₂ fp=>(ZiF (Zb4 (Zaf gbn hr rfl (Zac (pv 1) Zab))))) (fun cl C s₂ H₂ fp=>(pv 0)) (by decide +kernel) rfl (by decide +kernel) (by show∀y∈(_:List (Str×NameKind)),y.2=NameKind.free→(Zal ZbY).names.lookup y.1=some .cell;decide +kernel))
   (Zae (ZbC QaH rfl (Zgm rfl B.en (Zac (pv 1) Zab)) (ZaY rfl (Zah (PgA sc 2) (Zah (PgA sc 3) ZaE)))
   (Zak (ZbC QaH rfl (Zbn (Zb2 ZeU (pv 1) (Zcj (Zax ZaF (pv 2) Zai)) ZcD)) (PgA sc 4)
   (Zak (Zb0 (Zb4 (Zaf gcb hr rfl (Zao (ZaB (Zaz (K:=K)) (pv 0) (pv 3) (fun _ _=>rfl)) (Zao (ZaB (Zaz (K:=K)) (pv 0) (pv 4) (fun _ _=>rfl)) Zab)))) (Zak (ZaA (ZaO (ZbZ (pv 3) (pv 4) Zab)))) Za8)))))
   (Zak (ZaA ZlS)))),?_⟩
  exact Zno ha ca pl k1 k2
abbrev Zen:Stmt:=top 60
theorem ZlC (F:Fun K "join_all" "join_all" Zen f fd)(M:Txt mg)(gco:Kn P w K mg base "turns_to_join" 3 ["pairings"] Zli)(qb:KnM P w K mg base C "do" 8 ["self", "deed"] (Zcz C))(W:Dsk w K mg C):Za6 P w K mg base CX0 9 f fd ["emptying"] (Zfh C):=by
 refine F.okl ["emptying","both"] ?_
 ·rintro sc _ _ _ s H _ Q E hr⟨p,l,s0,n,ps,ds,rfl,h,ln,ml,kk⟩
  refine⟨_,(Zae (PsA sc 1 (Zaf gco hr rfl (Zao (ZaB (Zaw (K:=K)) (Zct (pv 0) rfl) Zai (fun _ _=>rfl)) Zab)))
   (Zak (ZcO QaH (ZlU (Zqu (pv 1))) (Zae (ZaP (Zdp W.cl qb hr (pv 0) (Zbb (ZaO (Zds Zdv (ZaB (Zaw (K:=K)) (pv 1) Zai (fun _ _=>rfl)) (ZaB (Zaw (K:=K)) (pv 1) Zai (fun _ _=>rfl)) Zab)) Zab)))
   (Zak (PsA sc 1 (Zaf gco hr rfl (Zao (ZaB (Zaw (K:=K)) (Zct (pv 0) rfl) Zai (fun _ _=>rfl)) Zab)))))))),?_⟩
  exact ZgL W.cl W.nH h ln ml kk
abbrev ZcX:Stmt:=top 61
theorem Zn3 (F:Fun K "leader_of" "leader_of" ZcX f fd)(M:Txt mg)(gbg:Kn P w K mg base "end_of" 1 ["pairing"] Zbe)(B:Gb mg):Za6 P w K mg base CX0 2 f fd ["n", "pairings"] ZgN:=by
 refine F.okl ["n","pairings"] ?_
 ·rintro sc _ _ _ s H _ Q E hr⟨pa,ya,n,ps,rfl,ha,ca,pl,ex,k⟩;refine⟨_,(Zak (ZaA (ZaB (Zaw (K:=K)) (Zay (Zlk (K:=K) rfl hr) (by rfl) M.min QcW (ZaH (Zbk (xs:=["k", "pairing"]) (Nb:=["n", "pairings"]) rfl (Zgm rfl B.en (Zac (pv 1) Zab)) rfl (by show∀p∈(List.zip ["n", "pairings"] ["n", "pairings"]:List (Str×Str)),_;decide +kernel) (by decide +kernel) (fun cl C s₂ H₂ fp=>(ZcF (K:=K) (n:=2) rfl (Zah (PgC ["k","pairing","n","pairings"] 0) (Zah (PgC ["k","pairing","n","pairings"] 1) ZaE)))) (fun cl C s₂ H₂ fp=>(ZiF (ZaQ Zdz (Zaf gbg hr rfl (Zac (pv 1) Zab)) (pv 2) (ZaN _)))) (fun cl C s₂ H₂ fp=>(ZaO (ZbZ (ZaB (Zaw (K:=K)) (pv 1) Zai (fun _ _=>rfl)) (pv 0) Zab))) (by decide +kernel) rfl (by decide +kernel) (by show∀y∈(_:List (Str×NameKind)),y.2=NameKind.free→(Zal ZcX).names.lookup y.1=some .cell;decide +kernel)) Zab)) Zai (fun _ _=>rfl)))),?_⟩;exact Zib ha ca pl ex k
abbrev ZdP:Stmt:=top 62
theorem ZjU (F:Fun K "carry_all" "carry_all" ZdP f fd)(M:Txt mg)(gby:Kn P w K mg base "may_carry" 2 ["leader", "pairing", "side"] ZcM)(qb:KnM P w K mg base C "do" 8 ["self", "deed"] (Zcz C))(W:Dsk w K mg C):Za6 P w K mg base CX0 9 f fd ["emptying", "j"] (Zeb C):=by
 refine F.okl ["emptying","j","k"] ?_
 ·rintro sc _ _ _ s H _ Q E hr⟨p,l,s0,n,ps,ds,j,ld,rfl,h,ln,hl,kk⟩
  refine⟨_,(Zak (ZbC QaH rfl (Zbq rfl M.range (ZaG (Zay (Zcm (K:=K)) (by rfl) M.len QcF (Zao (ZaB (Zaw (K:=K)) (Zct (pv 0) rfl) Zai (fun _ _=>rfl)) Zab)) Zab)) (PgA sc 2)
   (Zak (ZcO QaH (PW.pt (Zhm (ZaQ Zl1 (pv 2) (pv 1) (ZaN _)) (Zf1 (Zb4 (Zaf gby hr rfl (Zao (ZaB (Zaz (K:=K)) (ZaB (Zaw (K:=K)) (Zct (pv 0) rfl) Zai (fun _ _=>rfl)) (pv 1) (fun _ _=>rfl)) (Zao (ZaB (Zaz (K:=K)) (ZaB (Zaw (K:=K)) (Zct (pv 0) rfl) Zai (fun _ _=>rfl)) (pv 2) (fun _ _=>rfl)) (Zav Zdv Zab)))))))) (Zak (ZaP (Zdp W.cl qb hr (pv 0) (Zbb (ZaO (Zd4 Zdv (pv 1) (pv 2) Zdv Zab)) Zab)))))))),?_⟩
  exact ZfG W.cl W.nH h ln hl kk
abbrev Zdq:Stmt:=top 63
theorem ZlD (F:Fun K "cut_last" "cut_last" Zdq f fd)(M:Txt mg)(gbu:Kn P w K mg base "leader_of" 2 ["n", "pairings"] ZgN)(gas:Kn P w K mg base "carry_all" 9 ["emptying", "j"] (Zeb C))(gbg:Kn P w K mg base "end_of" 1 ["pairing"] Zbe)(qb:KnM P w K mg base C "do" 8 ["self", "deed"] (Zcz C))(W:Dsk w K mg C)(B:Gb mg):Za6 P w K mg base CX0 10 f fd ["emptying"] (Zd0 C):=by
 refine F.okl ["emptying","n","pairings","weighing","j","ends"] ?_
 ·rintro sc _ _ _ s H _ Q E hr⟨p,l,s0,n,ps,ds,rfl,h,ln,ml,ex,kk⟩
  refine⟨_,(Zae (Za9 (Zct (pv 0) rfl) (ZaY rfl (Zah (PgA sc 1) (Zah (PgA sc 2) (Zah (PgA sc 3) ZaE)))))
   (Zae (Zat (i:=4) sc rfl (Or.inr rfl) (Zaf gbu hr rfl (Zac (pv 1) (Zac (pv 2) Zab))))
   (Zae (ZaP (Zaf gas hr rfl (Zac (pv 0) (Zac (pv 4) Zab))))
   (Zae (PsA sc 2 (ZaB (Zaw (K:=K)) (Zct (pv 0) rfl) Zai (fun _ _=>rfl)) Zc1)
   (Zae (Zj5 (xs:=["k", "pairing"]) (Nb:=["emptying", "n", "pairings", "weighing", "j", "ends"]) (PgA sc 5) rfl rfl (Zgm rfl B.en (Zac (pv 2) Zab)) rfl (by show∀p∈(List.zip ["emptying", "n", "pairings", "weighing", "j", "ends"] ["emptying", "n", "pairings", "weighing", "j", "ends"]:List (Str×Str)),_;decide +kernel) (by decide +kernel) (fun cl C s₂ H₂ fp=>(ZcF (K:=K) (n:=2) rfl (Zah (PgC ["k","pairing","emptying","n","pairings","weighing","j","ends"] 0) (Zah (PgC ["k","pairing","emptying","n","pairings","weighing","j","ends"] 1) ZaE)))) (fun cl C s₂ H₂ fp=>(ZiF (ZaQ Zl1 (pv 0) (pv 6) (ZaN _)))) (fun cl C s₂ H₂ fp=>(Zaf gbg hr rfl (Zac (pv 1) Zab))) (by decide +kernel) rfl (by decide +kernel) (by show∀y∈(_:List (Str×NameKind)),y.2=NameKind.free→(Zal Zdq).names.lookup y.1=some .cell;decide +kernel))
   (Zak (ZaP (Zdp W.cl qb hr (pv 0) (Zbb (ZaO (Zds Zdv (pv 4) (Zay (ZmT rfl) (by rfl) M.max Qc5 (ZaT (Zax ZfP (ZaR (Zao (ZaB (Zaw (K:=K)) (ZaB (Zaz (K:=K)) (pv 2) (pv 4) (fun _ _=>rfl)) Zai (fun _ _=>rfl)) Zab)) (pv 5)) Zab)) Zab)) Zab))))))))),?_⟩
  exact ZgQ W.cl W.nH h ln ml ex kk
abbrev ZeO:Stmt:=top 64
theorem Zn5 (F:Fun K "lessen" "lessen" ZeO f fd)(M:Txt mg)(gbi:Kn P w K mg base "fold_all" 9 ["emptying"] (Zfg C))(gbq:Kn P w K mg base "join_all" 9 ["emptying"] (Zfh C))(gbg:Kn P w K mg base "end_of" 1 ["pairing"] Zbe)(qb:KnM P w K mg base C "do" 8 ["self", "deed"] (Zcz C))(gau:Kn P w K mg base "cut_last" 10 ["emptying"] (Zd0 C))(W:Dsk w K mg C):Za6 P w K mg base CX0 11 f fd ["emptying"] (ZgP C):=by
 refine F.okl ["emptying","n","pairings","weighing","end"] ?_
 ·rintro sc _ _ _ s H _ Q E hr⟨p,l,s0,n,ps,ds,rfl,h,ln,np,kk⟩
  refine⟨_,(Zae (ZaP (Zaf gbi hr rfl (Zac (pv 0) Zab)))
   (Zae (ZaP (Zaf gbq hr rfl (Zac (pv 0) Zab)))
   (Zae (Za9 (Zct (pv 0) rfl) (ZaY rfl (Zah (PgA sc 1) (Zah (PgA sc 2) (Zah (PgA sc 3) ZaE)))))
   (Zae (PsA sc 4 (Zru rfl rfl M.max (ZaH (Zbk (xs:=["pairing"]) (Nb:=["emptying", "n", "pairings", "weighing", "end"]) rfl (Zbn (pv 2)) rfl (by show∀p∈(List.zip ["emptying", "n", "pairings", "weighing", "end"] ["emptying", "n", "pairings", "weighing", "end"]:List (Str×Str)),_;decide +kernel) (by decide +kernel) (fun cl C s₂ H₂ fp=>(PgC ["pairing","emptying","n","pairings","weighing","end"] 0)) (fun cl C s₂ H₂ fp=>ZbT) (fun cl C s₂ H₂ fp=>(Zaf gbg hr rfl (Zac (pv 0) Zab))) (by decide +kernel) rfl (by decide +kernel) (by show∀y∈(_:List (Str×NameKind)),y.2=NameKind.free→(Zal ZeO).names.lookup y.1=some .cell;decide +kernel)) Zab) Zai))
   (Zak (Zb0 (ZaQ Zey (pv 4) (pv 1) (ZaN _)) (Zak (ZaP (Zdp W.cl qb hr (pv 0) (Zbb (ZaO (ZbZ Zdv (pv 4) Zab)) Zab)))) (Zak (ZaP (Zaf gau hr rfl (Zac (pv 0) Zab)))))))))),?_⟩
  exact Zic W.cl W.nH h ln np kk
abbrev Zfr:Stmt:=top 65
theorem ZlF (F:Fun K "emptied" "emptied" Zfr f fd)(M:Txt mg)(qp:KnC P w K mg base "Emptying" C 2 ["self", "hall"] (ZgR K C))(gbx:Kn P w K mg base "lessen" 11 ["emptying"] (ZgP C))(W:Dsk w K mg C):Za6 P w K mg base CX0 12 f fd ["hall"] Zfi:=by
 refine F.okl ["hall","emptying"] ?_
 ·rintro sc _ _ _ s H _ Q E hr⟨a,pa,pb,n,ps,L,ya,yb,wd,rfl,h,sm,k⟩
  refine⟨_,(Zae (PsA sc 1 (Zo9 qp hr rfl (Zac (pv 0) Zab)))
   (Zae (ZcO QaH (ZaQ Zoh (ZaB (Zaw (K:=K)) (Zct (pv 1) rfl) Zai (fun _ _=>rfl)) Zai (ZaN _)) (Zak (ZaP (Zaf gbx hr rfl (Zac (pv 1) Zab)))))
   (Zak (ZaA (Zct (pv 1) rfl))))),?_⟩
  exact ZgS W.cl W.nH W.nD h sm k
abbrev ZkC:Stmt:=top 66
theorem ZrQ (F:Fun K "done" "done" ZkC f fd)(M:Txt mg)(gaw:Kn P w K mg base "deed_done" 7 ["hall", "deed"] Zff)(gbw:Kn P w K mg base "length" 1 ["weighing"] (Zfb K))(gcm:Kn P w K mg base "sorts" 1 ["weighing"] (Ze7 K)):Za6 P w K mg base CX0 8 f fd ["hall", "deeds"] Zjr:=by
 refine F.okl ["hall","deeds","runs","deed","told"] ?_
 ·rintro sc _ _ _ s H _ Q E hr⟨a,pa,pb,l,n,ps,L,ya,yb,ys,wd,ds,s,rfl,h,sm,hl,dl,run,k⟩
  refine⟨_,(Zae (PsA sc 2 (ZaR Zab))
   (Zae (ZbC QaH rfl (Zbn (pv 1)) (PgA sc 3)
   (Zae (Za9 (Zaf gaw hr rfl (Zac (pv 0) (Zac (pv 3) Zab))) (ZaY rfl (Zah (PgA sc 0) (Zah (PgA sc 4) ZaE))))
   (Zak (ZaP (ZdB QaV Qd7 Qd8 ZhA (pv 2) (ZaH (Zbk (xs:=["weights", "many"]) (Nb:=["hall", "deeds", "runs", "deed", "told"]) rfl (Zbn (pv 4)) rfl (by show∀p∈(List.zip ["hall", "deeds", "runs", "deed", "told"] ["hall", "deeds", "runs", "deed", "told"]:List (Str×Str)),_;decide +kernel) (by decide +kernel) (fun cl C s₂ H₂ fp=>(ZcF (K:=K) (n:=2) rfl (Zah (PgC ["weights","many","hall","deeds","runs","deed","told"] 0) (Zah (PgC ["weights","many","hall","deeds","runs","deed","told"] 1) ZaE)))) (fun cl C s₂ H₂ fp=>ZbT) (fun cl C s₂ H₂ fp=>(ZaO (ZbZ (pv 1) (pv 0) Zab))) (by decide +kernel) rfl (by decide +kernel) (by show∀y∈(_:List (Str×NameKind)),y.2=NameKind.free→(Zal ZkC).names.lookup y.1=some .cell;decide +kernel)) Zab))))))
   (Zak (ZaA (ZaO (Zds (pv 0) (Zaf gbw hr rfl (Zac (pv 2) Zab)) (Zaf gcm hr rfl (Zac (pv 2) Zab)) Zab)))))),?_⟩
  exact Zjs h sm hl dl run k
abbrev Zfs:Stmt:=top 67
theorem ZlH (F:Fun K "counted" "counted" Zfs f fd)(M:Txt mg)(gbe:Kn P w K mg base "done" 8 ["hall", "deeds"] Zjr)(gbf:Kn P w K mg base "emptied" 12 ["hall"] Zfi):Za6 P w K mg base CX0 13 f fd ["hall"] Zfj:=by
 refine F.okl ["hall"] ?_
 ·rintro sc _ _ _ s H _ Q E hr⟨a,pa,pb,n,ps,L,ya,yb,wd,rfl,h,sm,k⟩;refine⟨_,(Zak (ZaA (Zb2 (ZdW (K:=K)) (Zaf gbe hr rfl (Zac (pv 0) (ZaG (Zaf gbf hr rfl (Zac (pv 0) Zab)) Zab))) (Zcj Zai) ZcD))),?_⟩;exact ZgT h sm k
end
section
variable {K:FJ}
abbrev ZcI:Stmt:=top 69
theorem ZrR (F:Fun K "_law_cell_at" "_law_cell_at" ZcI f fd)(M:Txt mg):Za6 P w K mg base CX0 1 f fd ["_law_script", "_law_k"] (Zd8 K):=by
 refine F.okl ["_law_script","_law_k"] ?_
 ·rintro sc _ _ _ s H _ Q E hr⟨a,ns,k,rfl,hS,kk⟩
  refine⟨_,(Zae (Zb0 (ZaQ Zey (pv 1) (Zay (Zcm (K:=K)) (by rfl) M.len QcF (Zac (pv 0) Zab)) (ZaN _)) (Zak (ZaA (ZaB (Zaz (K:=K)) (pv 0) (pv 1) (fun _ _=>rfl)))) Za8)
   (Zak (ZaA Zai))),?_⟩
  exact ZiV hS kk
abbrev Zeo:Stmt:=top 70
theorem ZtD (F:Fun K "_law_big" "_law_big" Zeo f fd)(M:Txt mg)(gab:Kn P w K mg base "_law_cell_at" 1 ["_law_script", "_law_k"] (Zd8 K))(B:Gb mg):Za6 P w K mg base CX0 2 f fd ["_law_script", "_law_k"] (Zdy K):=by
 refine F.okl ["_law_script","_law_k","_law_x","_law_total","_law_j"] ?_
 ·rintro sc _ _ _ s H _ Q E hr⟨a,ns,k,rfl,hS,kk⟩
  refine⟨_,(Zae (Zb0 (ZaQ Zoi (Zay Zj3 (by rfl) B.ab boot_abs (ZaG (Zaf gab hr rfl (Zac (pv 0) (Zac (pv 1) Zab))) Zab)) (Zax ZlX Zai Zai) (ZaN _)) (Zak (ZaA (Zax Za0 (Zay Zj3 (by rfl) B.ab boot_abs (ZaG (Zaf gab hr rfl (Zac (pv 0) (Zac (pv 1) Zab))) Zab)) (Zax ZlX Zai Zai)))) Za8)
   (Zae (PsA sc 2 (Zax ZaF (Zax ZaF (Zax ZaF (Zax Zcs (Zaf gab hr rfl (Zac (pv 0) (Zav Zai Zab))) Zai) (Zax Zdx Zai (pv 1))) (Zax Zdx Zai (Zaf gab hr rfl (Zac (pv 0) (Zac (pv 1) Zab))))) Zai))
   (Zae (PsA sc 2 (Zax ZaF (Zax Zcs (pv 2) Zai) Zai))
   (Zae (PsA sc 3 Zai)
   (Zae (ZbC QaH rfl (Zbq rfl M.range (Zav Zai Zab)) (PgA sc 4)
   (Zae (PsA sc 2 (Zax Zcs (Zax ZaF (Zax ZaF (Zax ZaF (Zax Zdx (pv 2) Zai) (Zax Zdk (pv 2) Zai)) (Zax Zdx (Zax Zdx Zai (pv 4)) (pv 4))) (pv 1)) Zai))
   (Zak (PsA sc 3 (Zax ZaF (Zax Zdx (pv 3) Zai) (Zax Zcs (Zax Zdx (pv 2) Zai) Zai))))))
   (Zak (ZaA (pv 3)))))))),?_⟩
  exact Zk7 hS kk
abbrev ZdQ:Stmt:=top 71
theorem ZrS (F:Fun K "_law_take" "_law_take" ZdQ f fd)(M:Txt mg):Za6 P w K mg base CX0 1 f fd ["_law_bag", "_law_many"] Zbd:=by
 refine F.okl ["_law_bag","_law_many","_law_found"] ?_
 ·rintro sc _ _ _ s H _ Q E hr⟨d,m,rfl,h1,h2,h3,k⟩
  refine⟨_,(Zae (PsA sc 2 (Zax Zcs (ZaB (Zaz (K:=K)) (pv 0) Zai (fun _ _=>rfl)) (pv 1)))
   (Zae (Za9 (Zax Zdk (ZaB (Zaz (K:=K)) (pv 0) Zai (fun _ _=>rfl)) (pv 1)) (Zho (pv 0) Zai ZdU))
   (Zak (ZaA (pv 2))))),?_⟩
  exact ZiW (K:=K) h1 h2 h3 k
abbrev Zbv:Stmt:=top 72
theorem Zn6 (F:Fun K "_law_weighing" "_law_weighing" Zbv f fd)(M:Txt mg)(gah:Kn P w K mg base "_law_take" 1 ["_law_bag", "_law_many"] Zbd)(gaa:Kn P w K mg base "_law_big" 2 ["_law_script", "_law_k"] (Zdy K)):Za6 P w K mg base CX0 3 f fd ["_law_n", "_law_head", "_law_script", "_law_at"] (Zgq K):=by
 refine F.okl ["_law_n","_law_head","_law_script","_law_at","_law_bag","_law_wide","_law_high","_law_pieces","_law_k","_law_drawn","_law_weights_here","_law_many","_law_found"] ?_
 ·rintro sc _ _ _ s H _ Q E hr⟨n,hd,a,ns,at0,rfl,hS,h0,h1,k⟩
  refine⟨_,(Zae (PsA sc 4 (ZaR (Zac (pv 1) Zab)))
   (Zae (PsA sc 5 (ZaB (Zaz (K:=K)) (ZaR (Zd4 Zai Zai Zai Zai (Zd4 Zai Zai Zai Zai Zab))) (Zaf gah hr rfl (Zac (pv 4) (Zav Zai Zab))) (fun _ _=>rfl)) Zc1)
   (Zae (Zat (i:=6) sc rfl (Or.inr rfl) (ZaB (Zaz (K:=K)) (ZaR (Zd4 Zai Zai Zai (Zax ZlX Zai Zai) Zab)) (Zaf gah hr rfl (Zac (pv 4) (Zav Zai Zab))) (fun _ _=>rfl)) Zc1)
   (Zae (PsA sc 7 (ZaR (Zbb (ZaO (ZbZ (pv 0) (Za1 ZbS (by rfl) M.tuple Qdx (ZaH (Zbk (xs:=["_law_j"]) (Nb:=["_law_n", "_law_head", "_law_script", "_law_at", "_law_bag", "_law_wide", "_law_high", "_law_pieces", "_law_k", "_law_drawn", "_law_weights_here", "_law_many", "_law_found"]) rfl (Zbq rfl M.range (Zac (pv 5) Zab)) rfl (by show∀p∈(List.zip ["_law_n", "_law_head", "_law_script", "_law_at", "_law_bag", "_law_wide", "_law_high", "_law_pieces", "_law_k", "_law_drawn", "_law_weights_here", "_law_many", "_law_found"] ["_law_n", "_law_head", "_law_script", "_law_at", "_law_bag", "_law_wide", "_law_high", "_law_pieces", "_law_k", "_law_drawn", "_law_weights_here", "_law_many", "_law_found"]:List (Str×Str)),_;decide +kernel) (by decide +kernel) (fun cl C s₂ H₂ fp=>(PgC ["_law_j","_law_n","_law_head","_law_script","_law_at","_law_bag","_law_wide","_law_high","_law_pieces","_law_k","_law_drawn","_law_weights_here","_law_many","_law_found"] 0)) (fun cl C s₂ H₂ fp=>ZbT) (fun cl C s₂ H₂ fp=>Zai) (by decide +kernel) rfl (by decide +kernel) (by show∀y∈(_:List (Str×NameKind)),y.2=NameKind.free→(Zal Zbv).names.lookup y.1=some .cell;decide +kernel)) Zab)) Zab)) Zab)))
   (Zae (ZbC QaH rfl (Zbq rfl M.range (ZaG (Zaf gah hr rfl (Zac (pv 4) (Zav Zai Zab))) Zab)) (PgA sc 8)
   (Zae (Zat (i:=9) sc rfl (Or.inr rfl) (ZaR (ZaG (Zaf gaa hr rfl (Zac (pv 2) (ZaT (Zax ZaF (pv 3) (pv 8)) Zab))) Zab)))
   (Zae (PsA sc 10 (Za1 ZbS (by rfl) M.tuple Qdx (ZaH (Zbk (xs:=["_law_j"]) (Nb:=["_law_n", "_law_head", "_law_script", "_law_at", "_law_bag", "_law_wide", "_law_high", "_law_pieces", "_law_k", "_law_drawn", "_law_weights_here", "_law_many", "_law_found"]) rfl (Zbq rfl M.range (Zac (pv 5) Zab)) rfl (by show∀p∈(List.zip ["_law_n", "_law_head", "_law_script", "_law_at", "_law_bag", "_law_wide", "_law_high", "_law_pieces", "_law_k", "_law_drawn", "_law_weights_here", "_law_many", "_law_found"] ["_law_n", "_law_head", "_law_script", "_law_at", "_law_bag", "_law_wide", "_law_high", "_law_pieces", "_law_k", "_law_drawn", "_law_weights_here", "_law_many", "_law_found"]:List (Str×Str)),_;decide +kernel) (by decide +kernel) (fun cl C s₂ H₂ fp=>(PgC ["_law_j","_law_n","_law_head","_law_script","_law_at","_law_bag","_law_wide","_law_high","_law_pieces","_law_k","_law_drawn","_law_weights_here","_law_many","_law_found"] 0)) (fun cl C s₂ H₂ fp=>ZbT) (fun cl C s₂ H₂ fp=>(Zax Za0 (Zaf gah hr rfl (Zac (pv 10) (Zac (pv 7) Zab))) (Zax Zdk (pv 7) Zai))) (by decide +kernel) rfl (by decide +kernel) (by show∀y∈(_:List (Str×NameKind)),y.2=NameKind.free→(Zal Zbv).names.lookup y.1=some .cell;decide +kernel)) Zab)))
   (Zae (PsA sc 11 (Zaf gah hr rfl (Zac (pv 9) (ZaT (Zax ZaF (ZaB (Zaw (K:=K)) (ZaB (Zaz (K:=K)) (pv 7) (Zex ZcZ Zai) (fun _ _=>rfl)) Zai (fun _ _=>rfl)) Zai) Zab))))
   (Zak (PsA sc 7 (Zax ZfP (Zb2 ZeU (pv 7) ZcD (Zcj (Zex ZcZ Zai))) (ZaR (ZbZ (ZaO (ZbZ (pv 11) (pv 10) Zab)) (ZaO (ZbZ (Zax Za0 (ZaB (Zaw (K:=K)) (ZaB (Zaz (K:=K)) (pv 7) (Zex ZcZ Zai) (fun _ _=>rfl)) Zai (fun _ _=>rfl)) (pv 11)) (ZaB (Zaw (K:=K)) (ZaB (Zaz (K:=K)) (pv 7) (Zex ZcZ Zai) (fun _ _=>rfl)) Zai (fun _ _=>rfl)) Zab)) Zab)))))))))
   (Zae (PsA sc 12 (ZaR Zab))
   (Zae (ZbC QaH rfl (Zbn (pv 7)) (ZaY rfl (Zah (PgA sc 11) (Zah (PgA sc 10) ZaE)))
   (Zak (Zb0 (PW.pt (Zhm (ZaQ Zoh (pv 11) Zai (ZaN _)) (Zhm (ZaQ (Zme hr) (pv 12) (ZaR Zab) (ZaN _)) (Zf1 (ZaQ (ZpW hr) (ZaB (Zaw (K:=K)) (ZaB (Zaz (K:=K)) (pv 12) (Zex ZcZ Zai) (fun _ _=>rfl)) Zai (fun _ _=>rfl)) (pv 10) (ZaN _)))))) (Zak (Za9 (ZaO (ZbZ (Zax ZaF (ZaB (Zaw (K:=K)) (ZaB (Zaz (K:=K)) (pv 12) (Zex ZcZ Zai) (fun _ _=>rfl)) Zai (fun _ _=>rfl)) (pv 11)) (pv 10) Zab)) (Zho (pv 12) (Zex ZcZ Zai) ZdU))) (Zak (Zb0 (ZaQ Zoh (pv 11) Zai (ZaN _)) (Zak (ZaP (ZdB QaV Qa1 Qa2 Zbm (pv 12) (Zbb (ZaO (ZbZ (pv 11) (pv 10) Zab)) Zab)))) Za8)))))
   (Zak (ZaA (pv 12)))))))))),?_⟩
  exact ZiZ hS h0 h1 k
abbrev ZcJ:Stmt:=top 73
theorem ZjX (F:Fun K "_law_pairing" "_law_pairing" ZcJ f fd)(M:Txt mg)(gah:Kn P w K mg base "_law_take" 1 ["_law_bag", "_law_many"] Zbd)(gaa:Kn P w K mg base "_law_big" 2 ["_law_script", "_law_k"] (Zdy K)):Za6 P w K mg base CX0 3 f fd ["_law_n", "_law_head", "_law_script", "_law_at"] (Zi0 K):=by
 refine F.okl ["_law_n","_law_head","_law_script","_law_at","_law_bag","_law_way","_law_long","_law_one","_law_other"] ?_
 ·rintro sc _ _ _ s H _ Q E hr⟨n,hd,a,ns,at0,rfl,hS,h1,k⟩
  refine⟨_,(Zae (PsA sc 4 (ZaR (Zac (pv 1) Zab)))
   (Zae (PsA sc 5 (Zaf gah hr rfl (Zac (pv 4) (Zav Zai Zab))))
   (Zae (PsA sc 6 (Zax ZaF Zai (Zax Zcs (Zaf gaa hr rfl (Zac (pv 2) (Zac (pv 3) Zab))) (ZaB (Zaz (K:=K)) (ZaR (Zd4 (pv 0) (pv 0) (pv 0) (Zay (ZbF rfl) (by rfl) M.max Qc5 (Zav Zai (ZaT (Zax Zdk (pv 0) Zai) Zab))) (Zd4 (Zay (ZbF rfl) (by rfl) M.max Qc5 (Zav Zai (ZaT (Zax Zdk (pv 0) Zai) Zab))) (Zay (Zbl rfl) (by rfl) M.min QcW (Zac (pv 0) (Zav Zai Zab))) (pv 0) (Zay (Zbl rfl) (by rfl) M.min QcW (Zac (pv 0) (Zav Zai Zab))) Zab))) (pv 5) (fun _ _=>rfl)))))
   (Zae (PsA sc 7 (Zax Zcs (Zaf gaa hr rfl (Zac (pv 2) (ZaT (Zax ZaF (pv 3) Zai) Zab))) (Zax ZaF (Zax Za0 (pv 0) (pv 6)) Zai)))
   (Zae (PsA sc 8 (Zax Zcs (Zaf gaa hr rfl (Zac (pv 2) (ZaT (Zax ZaF (pv 3) Zai) Zab))) (Zax ZaF (Zax Za0 (pv 0) (pv 6)) Zai)))
   (Zae (Zb0 (PW.pt (Zhn (ZaQ Zdz (pv 5) Zai (ZaN _)) (Zhl (ZaQ Zdz (pv 5) Zai (ZaN _))))) (Zak (PsA sc 8 (Zay (Zbl rfl) (by rfl) M.min QcW (ZaT (Zax Za0 (pv 0) (pv 6)) (ZaT (Zax ZaF (Zax ZaF (pv 7) Zai) (Zax Zcs (pv 8) (pv 6))) Zab))))) Za8)
   (Zae (Zb0 (PW.pt (Zhn (ZaQ Zdz (pv 5) Zai (ZaN _)) (Zhl (ZaQ Zdz (pv 5) Zai (ZaN _))))) (Zak (PsA sc 8 (Zax Za0 (pv 0) (pv 6)))) Za8)
   (Zak (ZaA (ZaO (Zd4 (Zay (Zbl rfl) (by rfl) M.min QcW (Zac (pv 7) (Zac (pv 8) Zab))) (Zay (ZbF rfl) (by rfl) M.max Qc5 (Zac (pv 7) (Zac (pv 8) Zab))) (pv 6) (Zbo Zdz (Zaf gah hr rfl (Zac (pv 4) (Zav Zai Zab))) Zai (ZaN _)) Zab))))))))))),?_⟩
  exact Zi3 hS h1 k
abbrev Zb1:Stmt:=top 74
theorem ZpP (F:Fun K "_law_small_hall" "_law_small_hall" Zb1 f fd)(M:Txt mg)(gaa:Kn P w K mg base "_law_big" 2 ["_law_script", "_law_k"] (Zdy K))(gah:Kn P w K mg base "_law_take" 1 ["_law_bag", "_law_many"] Zbd)(gaj:Kn P w K mg base "_law_weighing" 3 ["_law_n", "_law_head", "_law_script", "_law_at"] (Zgq K))(gae:Kn P w K mg base "_law_pairing" 3 ["_law_n", "_law_head", "_law_script", "_law_at"] (Zi0 K)):Za6 P w K mg base CX0 4 f fd ["_law_script", "_law_at"] (Zjx K):=by
 refine F.okl ["_law_script","_law_at","_law_bag","_law_n","_law_many","_law_weighing_here","_law_pairings","_law_k"] ?_
 ·rintro sc _ _ _ s H _ Q E hr⟨a,ns,at0,rfl,hS,k⟩
  refine⟨_,(Zae (PsA sc 2 (ZaR (ZaG (Zaf gaa hr rfl (Zac (pv 0) (Zac (pv 1) Zab))) Zab)))
   (Zae (PsA sc 3 (Zax Zcs (Zaf gaa hr rfl (Zac (pv 0) (ZaT (Zax ZaF (pv 1) Zai) Zab))) (ZaB (Zaz (K:=K)) (ZaR (Zd4 Zai Zai Zai Zai Zab)) (Zaf gah hr rfl (Zac (pv 2) (Zav Zai Zab))) (fun _ _=>rfl))))
   (Zae (PsA sc 4 (ZaB (Zaz (K:=K)) (ZaR (Zd4 (Zaf gah hr rfl (Zac (pv 2) (Zav Zai Zab))) (Zaf gah hr rfl (Zac (pv 2) (Zav Zai Zab))) Zai (Zaf gah hr rfl (Zac (pv 2) (Zav Zai Zab))) Zab)) (Zaf gah hr rfl (Zac (pv 2) (Zav Zai Zab))) (fun _ _=>rfl)) Zc1)
   (Zae (PsA sc 5 (Zaf gaj hr rfl (Zac (pv 3) (ZaG (Zaf gah hr rfl (Zac (pv 2) (Zav Zai Zab))) (Zac (pv 0) (ZaT (Zax ZaF (pv 1) Zai) Zab))))))
   (Zae (PsA sc 6 (ZaR Zab))
   (Zae (ZbC QaH rfl (Zbq rfl M.range (ZaT (Zax Zdx (pv 4) (Za1 Zhr (by rfl) M.int boot_int (ZaH (Zbo Zoh (pv 3) Zai (ZaN _)) Zab))) Zab)) (PgA sc 7)
   (Zak (ZaP (ZdB QaV Qa1 Qa2 Zbm (pv 6) (ZaG (Zaf gae hr rfl (Zac (pv 3) (ZaG (Zaf gah hr rfl (Zac (pv 2) (Zav Zai Zab))) (Zac (pv 0) (ZaT (Zax ZaF (Zax ZaF (pv 1) Zai) (Zax Zcs (Zax Zdx (pv 7) Zai) Zai)) Zab))))) Zab)))))
   (Zak (ZaA (ZaO (Zds (pv 3) (pv 6) (pv 5) Zab)))))))))),?_⟩
  exact Zjy hS k
abbrev ZdR:Stmt:=top 75
theorem ZrT (F:Fun K "_law_home" "_law_home" ZdR f fd)(M:Txt mg):Za6 P w K mg base CX0 1 f fd ["_law_homes_here", "_law_place"] Zie:=by
 refine F.okl ["_law_homes_here","_law_place"] ?_
 ·rintro sc _ _ _ s H _ Q E hr⟨a,hs,n,x,f0,rfl,ha,u,hx,k⟩
  refine⟨_,(Zae (ZcO QaH (ZaQ Zl1 (ZaB (Zaz (K:=K)) (pv 0) (pv 1) (fun _ _=>rfl)) (pv 1) (ZaN _)) (Zae (Za9 (ZaB (Zaz (K:=K)) (pv 0) (ZaB (Zaz (K:=K)) (pv 0) (pv 1) (fun _ _=>rfl)) (fun _ _=>rfl)) (Zho (pv 0) (pv 1) ZdU))
   (Zak (PsA sc 1 (ZaB (Zaz (K:=K)) (pv 0) (pv 1) (fun _ _=>rfl)) Zc1))))
   (Zak (ZaA (pv 1)))),?_⟩
  exact Zlm ha u hx k
abbrev ZcB:Stmt:=top 76
theorem ZpQ (F:Fun K "_law_homes" "_law_homes" ZcB f fd)(M:Txt mg)(gac:Kn P w K mg base "_law_home" 1 ["_law_homes_here", "_law_place"] Zie):Za6 P w K mg base CX0 2 f fd ["_law_n", "_law_pairings"] Zjt:=by
 refine F.okl ["_law_n","_law_pairings","_law_homes_here","_law_low","_law_high","_law_long","_law_turned","_law_i","_law_one","_law_other"] ?_
 ·rintro sc _ _ _ s H _ Q E hr⟨pa,n,ps,ya,rfl,ha,ca,n6,okk,k⟩
  refine⟨_,(Zae (Zat (i:=2) sc rfl (Or.inr rfl) (Za1 (Zgd rfl) (by rfl) M.list QdK (ZaG (Za1 ZiG (by rfl) M.range boot_range (Zac (pv 0) Zab)) Zab)))
   (Zae (ZbC QaH rfl (Zbn (pv 1)) (ZaY rfl (Zah (PgA sc 3) (Zah (PgA sc 4) (Zah (PgA sc 5) (Zah (PgA sc 6) ZaE)))))
   (Zak (ZbC QaH rfl (Zbq rfl M.range (Zac (pv 5) Zab)) (PgA sc 7)
   (Zae (PsA sc 8 (Zaf gac hr rfl (Zac (pv 2) (ZaT (Zax ZaF (pv 3) (pv 7)) Zab))))
   (Zae (PsA sc 9 (Zaf gac hr rfl (Zac (pv 2) (ZaT (Zax ZaF (pv 4) (ZaB (Zaz (K:=K)) (ZaR (ZbZ (pv 7) (Zax Za0 (Zax Za0 (pv 5) Zai) (pv 7)) Zab)) (Za1 Zhr (by rfl) M.int boot_int (Zac (pv 6) Zab)) (fun _ _=>rfl))) Zab))))
   (Zak (Za9 (Zay (Zbl rfl) (by rfl) M.min QcW (Zac (pv 8) (Zac (pv 9) Zab))) (Zho (pv 2) (Zay (ZbF rfl) (by rfl) M.max Qc5 (Zac (pv 8) (Zac (pv 9) Zab))) ZdU))))))))
   (Zak (ZaA (Zbk (xs:=["_law_place"]) (Nb:=["_law_n", "_law_pairings", "_law_homes_here", "_law_low", "_law_high", "_law_long", "_law_turned", "_law_i", "_law_one", "_law_other"]) rfl (Zbq rfl M.range (Zac (pv 0) Zab)) rfl (by show∀p∈(List.zip ["_law_n", "_law_pairings", "_law_homes_here", "_law_low", "_law_high", "_law_long", "_law_turned", "_law_i", "_law_one", "_law_other"] ["_law_n", "_law_pairings", "_law_homes_here", "_law_low", "_law_high", "_law_long", "_law_turned", "_law_i", "_law_one", "_law_other"]:List (Str×Str)),_;decide +kernel) (by decide +kernel) (fun cl C s₂ H₂ fp=>(PgC ["_law_place","_law_n","_law_pairings","_law_homes_here","_law_low","_law_high","_law_long","_law_turned","_law_i","_law_one","_law_other"] 0)) (fun cl C s₂ H₂ fp=>ZbT) (fun cl C s₂ H₂ fp=>(Zaf gac hr rfl (Zac (pv 3) (Zac (pv 0) Zab)))) (by decide +kernel) rfl (by decide +kernel) (by show∀y∈(_:List (Str×NameKind)),y.2=NameKind.free→(Zal ZcB).names.lookup y.1=some .cell;decide +kernel)))))),?_⟩
  exact Zju ha ca n6 okk k
abbrev Zb3:Stmt:=top 77
theorem ZtE (F:Fun K "_law_weights" "_law_weights" Zb3 f fd)(M:Txt mg):Za6 P w K mg base CX0 1 f fd ["_law_weighing_here"] Zry:=by
 refine F.okl ["_law_weighing_here","_law_found","_law_many","_law_weights_here"] ?_
 ·rintro sc _ _ _ s H _ Q E hr⟨pb,yb,L,rfl,hb,wb,pos,t6,k⟩
  refine⟨_,(Zae (PsA sc 1 (ZaR Zab))
   (Zae (ZbC QaH rfl (Zbn (pv 0)) (ZaY rfl (Zah (PgA sc 2) (Zah (Zaj (i:=3) sc rfl (Or.inr rfl)) ZaE)))
   (Zak (ZaP (ZdB QaV Qd7 Qd8 ZhA (pv 1) (ZaH (Zbk (xs:=["_law_k"]) (Nb:=["_law_weighing_here", "_law_found", "_law_many", "_law_weights_here"]) rfl (Zbq rfl M.range (Zac (pv 2) Zab)) rfl (by show∀p∈(List.zip ["_law_weighing_here", "_law_found", "_law_many", "_law_weights_here"] ["_law_weighing_here", "_law_found", "_law_many", "_law_weights_here"]:List (Str×Str)),_;decide +kernel) (by decide +kernel) (fun cl C s₂ H₂ fp=>(PgC ["_law_k","_law_weighing_here","_law_found","_law_many","_law_weights_here"] 0)) (fun cl C s₂ H₂ fp=>ZbT) (fun cl C s₂ H₂ fp=>(pv 4)) (by decide +kernel) rfl (by decide +kernel) (by show∀y∈(_:List (Str×NameKind)),y.2=NameKind.free→(Zal Zb3).names.lookup y.1=some .cell;decide +kernel)) Zab)))))
   (Zak (ZaA (pv 1))))),?_⟩
  exact Zny hb wb pos t6 k
abbrev ZcY:Stmt:=top 79
theorem ZlI (F:Fun K "_law_walked" "_law_walked" ZcY f fd)(M:Txt mg)(gad:Kn P w K mg base "_law_homes" 2 ["_law_n", "_law_pairings"] Zjt)(gak:Kn P w K mg base "_law_weights" 1 ["_law_weighing_here"] Zry)(gaf:Kn P w K mg base "_law_plus" 1 ["_law_one", "_law_other"] Zfl):Za6 P w K mg base CX0 3 f fd ["_law_hall"] ZgX:=by
 refine F.okl ["_law_hall","_law_homes_here","_law_weights_here","_law_shares","_law_place","_law_here","_law_found","_law_home_here"] ?_
 ·rintro sc _ _ _ s H _ Q E hr⟨a,pa,pb,n,ps,L,ya,yb,wd,rfl,h,sm,k⟩
  refine⟨_,(Zae (PsA sc 1 (Zaf gad hr rfl (Zao (ZaB (Zaw (K:=K)) (pv 0) Zai (fun _ _=>rfl)) (Zao (ZaB (Zaw (K:=K)) (pv 0) Zai (fun _ _=>rfl)) Zab))))
   (Zae (PsA sc 2 (Zaf gak hr rfl (Zao (ZaB (Zaw (K:=K)) (pv 0) Zai (fun _ _=>rfl)) Zab)))
   (Zae (PsA sc 3 Zkf)
   (Zae (ZbC QaH rfl (Zbq rfl M.range (Zao (ZaB (Zaw (K:=K)) (pv 0) Zai (fun _ _=>rfl)) Zab)) (PgA sc 4)
   (Zae (PsA sc 5 (ZoD (Zd2 hr) (pv 3) (ZaB (Zaz (K:=K)) (pv 1) (pv 4) (fun _ _=>rfl)) ⟨rfl,rfl,rfl,rfl⟩))
   (Zak (Ze2 (Zd2 hr) (pv 3) (ZaB (Zaz (K:=K)) (pv 1) (pv 4) (fun _ _=>rfl)) (Zdi (ZlU (Zr4 (pv 5))) (ZaB (Zaz (K:=K)) (pv 2) (pv 4) (fun _ _=>rfl)) (Zaf gaf hr rfl (Zac (pv 5) (Zao (ZaB (Zaz (K:=K)) (pv 2) (pv 4) (fun _ _=>rfl)) Zab)))) rfl))))
   (Zae (PsA sc 6 Zkg)
   (Zae (ZbC QaH rfl (Zrx (pv 3)) (PgA sc 7)
   (Zak (Ze2 (Zd2 hr) (pv 6) (ZiN (Zd2 hr) (pv 3) (pv 7) (fun _ _=>rfl)) (Zax ZaF (ZeH (Zd2 hr) (pv 6) (ZiN (Zd2 hr) (pv 3) (pv 7) (fun _ _=>rfl)) Zai ⟨rfl,rfl,rfl,rfl⟩) Zai) rfl)))
   (Zak (ZaA (Zay (Zeu hr) (by rfl) M.sorted boot_sorted (ZaG (ZhQ (pv 6)) Zab)))))))))),?_⟩
  exact Zif h sm k
abbrev Zdh:Stmt:=top 80
theorem Zn7 (F:Fun K "_law_whole" "_law_whole" Zdh f fd)(M:Txt mg):Za6 P w K mg base CX0 1 f fd ["_law_amount"] Zi4:=by
 refine F.okl ["_law_amount"] ?_
 ·rintro sc _ _ _ s H _ Q E hr⟨i,rfl,k⟩;refine⟨_,(Zak (ZaA (Zb5 (Zay (Zbi (T:= "int") (K:=K)) (by rfl) M.isinstance Qcj (Zac (pv 0) (Zac (Zc6 (v:=.ty "int") rfl M.int boot_int rfl) Zab))) (Zcb (ZeQ (Zay (Zbi (T:= "bool") (K:=K)) (by rfl) M.isinstance Qcj (Zac (pv 0) (Zac (Zc6 (v:=.ty "bool") rfl M.bool boot_bool rfl) Zab)))))))),?_⟩;exact ZhU (K:=K) k
def ZpR (K:FJ):Sp:=fun vs H Q _=>∃(a:Addr)(ns:List Int),vs=[.ref a]∧SqL K H a (ns.map V.int)∧ns.length≤63∧∀H',Q (.bl true) H'
abbrev Ziv:Stmt:=top 81
theorem ZtG (F:Fun K "law" "law" Ziv f fd)(M:Txt mg)(gag:Kn P w K mg base "_law_small_hall" 4 ["_law_script", "_law_at"] (Zjx K))(gai:Kn P w K mg base "_law_walked" 3 ["_law_hall"] ZgX)(gat:Kn P w K mg base "counted" 13 ["hall"] Zfj)(gal:Kn P w K mg base "_law_whole" 1 ["_law_amount"] Zi4):Za6 P w K mg base CX0 14 f fd ["_law_script"] (ZpR K):=by
 refine F.okl ["_law_script","_law_at","_law_hall","_law_handed","_law_due","_law_many","_law_turn","_law_told"] ?_
 ·rintro sc _ _ _ s H _ Q E hr⟨a,ns,rfl,hS,hl,k⟩
  refine⟨_,(Zae (ZbC QaH rfl (Zbn (ZaR (ZbZ Zai Zai Zab))) (PgA sc 1)
   (Zae (PsA sc 2 (Zaf gag hr rfl (Zac (pv 0) (Zac (pv 1) Zab))))
   (Zae (PsA sc 3 (ZaO (Zds (ZaB (Zaw (K:=K)) (pv 2) Zai (fun _ _=>rfl)) (Za1 Zbr (by rfl) M.list QdK (Zao (ZaB (Zaw (K:=K)) (pv 2) Zai (fun _ _=>rfl)) Zab)) (Za1 Zbr (by rfl) M.list QdK (Zao (ZaB (Zaw (K:=K)) (pv 2) Zai (fun _ _=>rfl)) Zab)) Zab)))
   (Zae (PsA sc 4 (Zaf gai hr rfl (Zac (pv 2) Zab)))
   (Zae (PsA sc 5 (Zay (Zj9 rfl) (by rfl) M.sum boot_sum (ZaH (Zbk (xs:=["_law_weights_here", "_law_amount"]) (Nb:=["_law_script", "_law_at", "_law_hall", "_law_handed", "_law_due", "_law_many", "_law_turn", "_law_told"]) rfl (Zbn (pv 4)) rfl (by show∀p∈(List.zip ["_law_script", "_law_at", "_law_hall", "_law_handed", "_law_due", "_law_many", "_law_turn", "_law_told"] ["_law_script", "_law_at", "_law_hall", "_law_handed", "_law_due", "_law_many", "_law_turn", "_law_told"]:List (Str×Str)),_;decide +kernel) (by decide +kernel) (fun cl C s₂ H₂ fp=>(ZcF (K:=K) (n:=2) rfl (Zah (PgC ["_law_weights_here","_law_amount","_law_script","_law_at","_law_hall","_law_handed","_law_due","_law_many","_law_turn","_law_told"] 0) (Zah (PgC ["_law_weights_here","_law_amount","_law_script","_law_at","_law_hall","_law_handed","_law_due","_law_many","_law_turn","_law_told"] 1) ZaE)))) (fun cl C s₂ H₂ fp=>ZbT) (fun cl C s₂ H₂ fp=>(pv 1)) (by decide +kernel) rfl (by decide +kernel) (by show∀y∈(_:List (Str×NameKind)),y.2=NameKind.free→(Zal Ziv).names.lookup y.1=some .cell;decide +kernel)) Zab)))
   (Zak (ZbC QaH rfl (Zbq rfl M.range (Zav Zai Zab)) (PgA sc 6)
   (Zae (PsA sc 7 (Zaf gat hr rfl (Zac (pv 3) Zab)))
   (Zae (Zb0 (PW.pt (Zhn (ZaQ (Zme hr) (pv 7) (ZaO (ZbZ (pv 5) (pv 4) Zab)) (ZaN _)) (Zhn (Zdw (Zb4 (Zaf gal hr rfl (Zao (ZaB (Zaw (K:=K)) (pv 7) Zai (fun _ _=>rfl)) Zab)))) (Zhl (ZaQ (Zme hr) (pv 3) (pv 2) (ZaN _)))))) (Zak (ZaA Zhk)) Za8)
   (Zae (Zb0 (Zdw (Zb4 (Zay (Zgc rfl) (by rfl) M.all boot_all (ZaH (Zbk (xs:=["_law_weights_here", "_law_amount"]) (Nb:=["_law_script", "_law_at", "_law_hall", "_law_handed", "_law_due", "_law_many", "_law_turn", "_law_told"]) rfl (Zbn (ZaB (Zaw (K:=K)) (pv 7) Zai (fun _ _=>rfl))) rfl (by show∀p∈(List.zip ["_law_script", "_law_at", "_law_hall", "_law_handed", "_law_due", "_law_many", "_law_turn", "_law_told"] ["_law_script", "_law_at", "_law_hall", "_law_handed", "_law_due", "_law_many", "_law_turn", "_law_told"]:List (Str×Str)),_;decide +kernel) (by decide +kernel) (fun cl C s₂ H₂ fp=>(ZcF (K:=K) (n:=2) rfl (Zah (PgC ["_law_weights_here","_law_amount","_law_script","_law_at","_law_hall","_law_handed","_law_due","_law_many","_law_turn","_law_told"] 0) (Zah (PgC ["_law_weights_here","_law_amount","_law_script","_law_at","_law_hall","_law_handed","_law_due","_law_many","_law_turn","_law_told"] 1) ZaE)))) (fun cl C s₂ H₂ fp=>ZbT) (fun cl C s₂ H₂ fp=>(Zb5 (Zay (Zbi (T:= "tuple") (K:=K)) (by rfl) M.isinstance Qcj (Zac (pv 0) (Zac (Zc6 (v:=.ty "tuple") rfl M.tuple Qdx rfl) Zab))) (Zcb (Zaf gal hr rfl (Zac (pv 1) Zab))))) (by decide +kernel) rfl (by decide +kernel) (by show∀y∈(_:List (Str×NameKind)),y.2=NameKind.free→(Zal Ziv).names.lookup y.1=some .cell;decide +kernel)) Zab)))) (Zak (ZaA Zhk)) Za8)
   (Zak (ZaP (ZdB QaV Qa1 Qa2 Zbm (ZaB (Zaw (K:=K)) (pv 7) Zai (fun _ _=>rfl)) (Zav ZlS Zab))))))))))))))
   (Zak (ZaA Zhk))),?_⟩
  exact Zjz hS k
end
structure FnI (K:FJ)(x:Str)(st:Stmt)(f:Addr):Prop where
 a:PySem.W.nsIn K mainGlobals x=some (some (.ref f))
 l:∃(oc:Value)(od:Option Addr)(kV dc pm:Value)(an:Option Addr)(cd ct:Value)(sl:Array (Option Value)),K.lookup f=some ⟨oc,od,.func (PySem.W.fnOf x x (ZcE st) (Zck st) (Zal st) .none kV dc pm an cd ct),sl⟩∧PySem.W.codeIn K cd x=true
 k:PySem.W.keepIn K (.ref f)=true
theorem FnI.fo {K:FJ}{st:Stmt}{k:Nat}(i:FnI K x st f)(ok:∀fd,Fun K x x st f fd→Za6 P w K mg base CX0 k f fd ps sp)
  (hb:∀(kV doc pm:Value)(an:Option Addr)(cdv ct:Value)(us:List Value),us.length=ps.length→bindArgs (PySem.W.fnOf x x (ZcE st) (Zck st) (Zal st) .none kV doc pm an cdv ct) ⟨us,[]⟩=pure (ps.zip us):=by intro _ _ _ _ _ _ us hl;repeat(first|rfl|(exfalso;revert hl;exact fun h=>nomatch h)|rcases us with _|⟨_,us⟩)):∃fd,Za6 P w K mg base CX0 k f fd ps sp∧PySem.W.keepIn K (.ref f)=true∧ZdA K fd ps []:=by
 obtain⟨oc,od,kV,dc,pm,an,cd,ct,sl,l,c⟩:=i.l;exact⟨_,ok _ (ZhB l c i.k),i.k,(ZhB l c i.k).binds hb⟩
theorem FnI.kn {K:FJ}{st:Stmt}{k:Nat}(i:FnI K x st f)(X:K.In h)(G:h.Ns mainGlobals mg)(ok:∀fd,Fun K x x st f fd→Za6 P w K mg base CX0 k f fd ps sp)
  (hb:∀(kV doc pm:Value)(an:Option Addr)(cdv ct:Value)(us:List Value),us.length=ps.length→bindArgs (PySem.W.fnOf x x (ZcE st) (Zck st) (Zal st) .none kV doc pm an cdv ct) ⟨us,[]⟩=pure (ps.zip us):=by intro _ _ _ _ _ _ us hl;repeat(first|rfl|(exfalso;revert hl;exact fun h=>nomatch h)|rcases us with _|⟨_,us⟩)):Kn P w K mg base x k ps sp:=by
 obtain⟨fd,a,b,c⟩:=i.fo ok hb;exact⟨⟨f,fd,a,Qc6 X G i.a,b,c⟩⟩
theorem all_mk {K:FJ}{fa f0 f1 f2 f3 f4 f5 f6 f7 f8 f9 f10 f11 f12 f13 f14 f15 f16 f17 f18 f19 f20 f21 f22 f23 f24 f25 f26 f27 f28 f29 f30 f31 f32 f33 f34 f35 f36 f37 f38 f39 f40 f41 f42 f43 f44 f45 f46 f47 f48 f49 f50 f51 f52 f53 f54 f55 f56 f57 f58 f59 f60 f61 f62 f63 f64 f65 f66 f67 f68 f69 f70:Addr}{cE:Addr}{tf1 tf2 tf3 tf4 tf5 tf6 td1 td2 td3 td4 td5 td6 ts1 ts2 tg1_0 tg2_0 tg3_0 tg3_1 tg4_0 tg4_1 tg4_2 tg5_0 tg5_1 tg6_0:Tok}{ns0 nt1 nt2 nt3 nt4 nt5 nt6:Nat}(X:K.In h)(G:h.Ns mainGlobals mg)(hfa:mg "law" =some (.ref fa))
  {od46 an46 od47 an47:Option Addr} {sl46 sl47:Array (Option Value)} {oc46 kV46 dc46 pm46 cd46 ct46 oc47 kV47 dc47 pm47 cd47 ct47:Value}
  (a0:FnI K "is_whole" Zec f0)
  (a1:FnI K "is_whole_from" Zco f1)
  (a2:FnI K "paired" ZeM f2)
  (a3:FnI K "end_of" Zg2 f3)
  (a4:FnI K "shift_of" Zee f4)
  (a5:FnI K "led" ZrE f5)
  (a6:FnI K "back" ZnH f6)
  (a7:FnI K "short" ZjF f7)
  (a8:FnI K "is_turn" Zfm f8)
  (a9:FnI K "shaped" Zg8 f9)
  (a10:FnI K "length" ZeN f10)
  (a11:FnI K "laid_from" ZdL f11)
  (a12:FnI K "part" ZnR f12)
  (a13:FnI K "backward" Zel f13)
  (a14:FnI K "sum_of_weights" ZbM f14)
  (a15:FnI K "weights_times" ZbX f15)
  (a16:FnI K "rises_of" Zek f16)
  (a17:FnI K "heaped" Zhb f17)
  (a18:FnI K "added" ZjM f18)
  (a19:FnI K "put_to" Zhc f19)
  (a20:FnI K "wound" ZjP f20)
  (a21:FnI K "sorts" ZjL f21)
  (a22:FnI K "may_go" Zg3 f22)
  (a23:FnI K "may_fold" Zef f23)
  (a24:FnI K "folded" Zg4 f24)
  (a25:FnI K "may_join" Zeg f25)
  (a26:FnI K "greatest_divisor" ZbW f26)
  (a27:FnI K "joined" Zg5 f27)
  (a28:FnI K "may_lead" Zeh f28)
  (a29:FnI K "begin_at" Zei f29)
  (a30:FnI K "may_carry" ZdK f30)
  (a31:FnI K "carried" Zfn f31)
  (a32:FnI K "kept_below" Zdf f32)
  (a33:FnI K "cut_weighing" ZcH f33)
  (a34:FnI K "demand" Zg1 f34)
  (a35:FnI K "replaced" Zed f35)
  (a36:FnI K "all_end_by" ZcA f36)
  (a37:FnI K "do_gone" Zfp f37)
  (a38:FnI K "do_folded" ZdM f38)
  (a39:FnI K "do_joined" ZdN f39)
  (a40:FnI K "do_carried" Zdg f40)
  (a41:FnI K "do_cut" Zhf f41)
  (a42:FnI K "do_free" Zfq f42)
  (a43:FnI K "fits" ZnD f43)
  (a44:FnI K "is_formed" ZcV f44)
  (a45:FnI K "deed_done" ZdO f45)
  (a46:PySem.W.findIn K (.ref cE) "__init__" =some (some (.ref f46))) (l46:K.lookup f46=some ⟨oc46,od46,.func (PySem.W.fnOf "__init__" "Emptying.__init__" (ZcE ZaX) (Zck ZaX) (Zal ZaX) .none kV46 dc46 pm46 an46 cd46 ct46),sl46⟩) (c46:PySem.W.codeIn K cd46 "Emptying.__init__" =true) (k46:PySem.W.keepIn K (.ref f46)=true) (e_fn_46:PySem.W.isFn K (.ref f46)=true)
  (a47:PySem.W.findIn K (.ref cE) "do" =some (some (.ref f47))) (l47:K.lookup f47=some ⟨oc47,od47,.func (PySem.W.fnOf "do" "Emptying.do" (ZcE ZbA) (Zck ZbA) (Zal ZbA) .none kV47 dc47 pm47 an47 cd47 ct47),sl47⟩) (c47:PySem.W.codeIn K cd47 "Emptying.do" =true) (k47:PySem.W.keepIn K (.ref f47)=true) (e_fn_47:PySem.W.isFn K (.ref f47)=true)
  (a48:FnI K "fold_all" Zem f48)
  (a49:FnI K "turns_to_join" ZbY f49)
  (a50:FnI K "join_all" Zen f50)
  (a51:FnI K "leader_of" ZcX f51)
  (a52:FnI K "carry_all" ZdP f52)
  (a53:FnI K "cut_last" Zdq f53)
  (a54:FnI K "lessen" ZeO f54)
  (a55:FnI K "emptied" Zfr f55)
  (a56:FnI K "done" ZkC f56)
  (a57:FnI K "counted" Zfs f57)
  (a58:FnI K "_law_cell_at" ZcI f58)
  (a59:FnI K "_law_big" Zeo f59)
  (a60:FnI K "_law_take" ZdQ f60)
  (a61:FnI K "_law_weighing" Zbv f61)
  (a62:FnI K "_law_pairing" ZcJ f62)
  (a63:FnI K "_law_small_hall" Zb1 f63)
  (a64:FnI K "_law_home" ZdR f64)
  (a65:FnI K "_law_homes" ZcB f65)
  (a66:FnI K "_law_weights" Zb3 f66)
  (a67:FnI K "_law_plus" ZcW f67)
  (a68:FnI K "_law_walked" ZcY f68)
  (a69:FnI K "_law_whole" Zdh f69)
  (a70:FnI K "law" Ziv f70)
  (nE:PySem.W.nsIn K mainGlobals "Emptying" =some (some (.ref cE))) (y1:PySem.W.plainGet K cE Str.empty=true) (y2:PySem.W.hasDictIn K cE=true) (y3:PySem.W.plainOver K cE=true) (y4:PySem.W.findIn K (.ref cE) "__setattr__" =some (some (.builtin "object.__setattr__"))) (y5:PySem.W.findIn K (.ref cE) "hall" =some none) (y6:PySem.W.findIn K (.ref cE) "deeds" =some none) (y7:PySem.W.makesIn K cE=true) (y8:PySem.W.keepIn K (.ref cE)=true)
  (nF:PySem.W.nsIn K mainGlobals "FORMS" =some (some (.ref aF))) (nD:PySem.W.nsIn K mainGlobals "DEEDS" =some (some (.ref aD))) (nS:PySem.W.nsIn K mainGlobals "SIDES" =some (some (.ref aS)))
  (lF:K.lookup aF=some ⟨.type "dict",none,.dict #[⟨PyData.keyHash w.params "gone",.str "gone" tf1,.ref g1⟩,⟨PyData.keyHash w.params "folded",.str "folded" tf2,.ref g2⟩,⟨PyData.keyHash w.params "joined",.str "joined" tf3,.ref g3⟩,⟨PyData.keyHash w.params "carried",.str "carried" tf4,.ref g4⟩,⟨PyData.keyHash w.params "cut",.str "cut" tf5,.ref g5⟩,⟨PyData.keyHash w.params "free",.str "free" tf6,.ref g6⟩] 6,#[]⟩) (lD:K.lookup aD=some ⟨.type "dict",none,.dict #[⟨PyData.keyHash w.params "gone",.str "gone" td1,.ref f37⟩,⟨PyData.keyHash w.params "folded",.str "folded" td2,.ref f38⟩,⟨PyData.keyHash w.params "joined",.str "joined" td3,.ref f39⟩,⟨PyData.keyHash w.params "carried",.str "carried" td4,.ref f40⟩,⟨PyData.keyHash w.params "cut",.str "cut" td5,.ref f41⟩,⟨PyData.keyHash w.params "free",.str "free" td6,.ref f42⟩] 6,#[]⟩) (lS:K.lookup aS=some ⟨.type "tuple",none,.seq #[.str "low" ts1,.str "high" ts2] ns0,#[]⟩)
  (lg1:K.lookup g1=some ⟨.type "tuple",none,.seq #[.str "pairing" tg1_0] nt1,#[]⟩)
  (lg2:K.lookup g2=some ⟨.type "tuple",none,.seq #[.str "pairing" tg2_0] nt2,#[]⟩)
  (lg3:K.lookup g3=some ⟨.type "tuple",none,.seq #[.str "pairing" tg3_0,.str "pairing" tg3_1] nt3,#[]⟩)
  (lg4:K.lookup g4=some ⟨.type "tuple",none,.seq #[.str "pairing" tg4_0,.str "pairing" tg4_1,.str "side" tg4_2] nt4,#[]⟩)
  (lg5:K.lookup g5=some ⟨.type "tuple",none,.seq #[.str "pairing" tg5_0,.str "place" tg5_1] nt5,#[]⟩)
  (lg6:K.lookup g6=some ⟨.type "tuple",none,.seq #[.str "place" tg6_0] nt6,#[]⟩)
  (mF:(aF==sysModules)=false) (mD:(aD==sysModules)=false)
  (g_abs:PySem.W.nsIn K mainGlobals "abs" =some none)
  (g_zip:PySem.W.nsIn K mainGlobals "zip" =some none)
  (g_divmod:PySem.W.nsIn K mainGlobals "divmod" =some none)
  (qt:PySem.W.nsIn K mainGlobals "enumerate" =some none)
  (z_len:PySem.W.nsIn K mainGlobals "len" =some none) (z_range:PySem.W.nsIn K mainGlobals "range" =some none) (z_min:PySem.W.nsIn K mainGlobals "min" =some none) (z_max:PySem.W.nsIn K mainGlobals "max" =some none) (qo:PySem.W.nsIn K mainGlobals "isinstance" =some none) (z_bool:PySem.W.nsIn K mainGlobals "bool" =some none) (z_int:PySem.W.nsIn K mainGlobals "int" =some none) (z_tuple:PySem.W.nsIn K mainGlobals "tuple" =some none) (z_list:PySem.W.nsIn K mainGlobals "list" =some none) (z_str:PySem.W.nsIn K mainGlobals "str" =some none) (z_all:PySem.W.nsIn K mainGlobals "all" =some none) (z_sum:PySem.W.nsIn K mainGlobals "sum" =some none) (z_sorted:PySem.W.nsIn K mainGlobals "sorted" =some none):
  ∃fd:FuncData,(∀(s:Shared)(v:Value),BindsTo s fd ⟨[v],[]⟩ [("_law_script",v)])∧∀base:Heap,K.In base→base.Ns mainGlobals mg→Za6 l.prog w K mg base CX0 14 fa fd ["_law_script"] (ZpR K):=by
 have e:=hfa.symm.trans (Qc6 X G a70.a);cases e;have M:Txt mg:=⟨Qa0 X G z_len,Qa0 X G z_range,Qa0 X G z_min,Qa0 X G z_max,Qa0 X G qo,Qa0 X G z_bool,Qa0 X G z_int,Qa0 X G z_tuple,Qa0 X G z_list,Qa0 X G z_str,Qa0 X G z_all,Qa0 X G z_sum,Qa0 X G z_sorted⟩;have GB:Gb mg:=⟨Qa0 X G g_abs,Qa0 X G g_zip,Qa0 X G g_divmod,Qa0 X G qt⟩;have N:Nms w K mg aF aD aS g1 g2 g3 g4 g5 g6 f37 f38 f39 f40 f41 f42:=⟨Qc6 X G nF,Qc6 X G nD,Qc6 X G nS,Zki (ps:=[("gone",tf1,g1),("folded",tf2,g2),("joined",tf3,g3),("carried",tf4,g4),("cut",tf5,g5),("free",tf6,g6)]) lF mF (show(["gone", "folded", "joined", "carried", "cut", "free"]:List Str).Nodup by decide),Zki (ps:=[("gone",td1,f37),("folded",td2,f38),("joined",td3,f39),("carried",td4,f40),("cut",td5,f41),("free",td6,f42)]) lD mD (show(["gone", "folded", "joined", "carried", "cut", "free"]:List Str).Nodup by decide),fun H=> .inr ⟨_,_,_,lS,rfl,rfl,QaN rfl,.cons ⟨_,rfl⟩ (.cons ⟨_,rfl⟩ (.nil))⟩,fun H=> .inr ⟨_,_,_,lg1,rfl,rfl,QaN rfl,.cons ⟨_,rfl⟩ (.nil)⟩,fun H=> .inr ⟨_,_,_,lg2,rfl,rfl,QaN rfl,.cons ⟨_,rfl⟩ (.nil)⟩,fun H=> .inr ⟨_,_,_,lg3,rfl,rfl,QaN rfl,.cons ⟨_,rfl⟩ (.cons ⟨_,rfl⟩ (.nil))⟩,fun H=> .inr ⟨_,_,_,lg4,rfl,rfl,QaN rfl,.cons ⟨_,rfl⟩ (.cons ⟨_,rfl⟩ (.cons ⟨_,rfl⟩ (.nil)))⟩,fun H=> .inr ⟨_,_,_,lg5,rfl,rfl,QaN rfl,.cons ⟨_,rfl⟩ (.cons ⟨_,rfl⟩ (.nil))⟩,fun H=> .inr ⟨_,_,_,lg6,rfl,rfl,QaN rfl,.cons ⟨_,rfl⟩ (.nil)⟩,⟨_,lS,rfl,rfl⟩⟩;have WD:Dsk w K mg cE:=⟨⟨y1,y2,y3,y4⟩,y5,y6⟩;have F46:=ZhB (st:=ZaX) l46 c46 k46;have b46:=F46.binds (ps:=["self", "hall"]) fun _ _ _ _ _ _ us hl=>match us,hl with| [_,_],_=>rfl
 have F47:=ZhB (st:=ZbA) l47 c47 k47;have b47:=F47.binds (ps:=["self", "deed"]) fun _ _ _ _ _ _ us hl=>match us,hl with| [_,_],_=>rfl
 obtain⟨oc,od,kV,dc,pm,an,cd,ct,sl,l1,c1⟩:=a70.l;refine⟨PySem.W.fnOf "law" "law" (ZcE Ziv) (Zck Ziv) (Zal Ziv) .none kV dc pm an cd ct,fun s v=> .of_eq rfl,fun base _ _=> ?_⟩;have gbo:=a0.kn (P:=l.prog) (w:=w) (base:=base) X G (fun _ F=>Zpz F M);have gbp:=a1.kn (P:=l.prog) (w:=w) (base:=base) X G (fun _ F=>ZrB F M gbo);have gax:=a34.kn (P:=l.prog) (w:=w) (base:=base) X G (fun _ F=>ZnC F M);have gch:=a35.kn (P:=l.prog) (w:=w) (base:=base) X G (fun _ F=>ZjD F M);have gbh:=a43.kn (P:=l.prog) (w:=w) (base:=base) X G (fun _ F=>ZrD F M gbp N);have gbm:=a44.kn (P:=l.prog) (w:=w) (base:=base) X G (fun _ F=>ZnE F M gbh N GB);have gbg:=a3.kn (P:=l.prog) (w:=w) (base:=base) X G (fun _ F=>ZpA F M);have gck:=a4.kn (P:=l.prog) (w:=w) (base:=base) X G (fun _ F=>Zln F M);have gce:=a2.kn (P:=l.prog) (w:=w) (base:=base) X G (fun _ F=>Zlo F M);have gcl:=a7.kn (P:=l.prog) (w:=w) (base:=base) X G (fun _ F=>ZpC F M gce);have gce:=a2.kn (P:=l.prog) (w:=w) (base:=base) X G (fun _ F=>ZnG F M);have gbv:=a5.kn (P:=l.prog) (w:=w) (base:=base) X G (fun _ F=>Ztx F M);have gao:=a6.kn (P:=l.prog) (w:=w) (base:=base) X G (fun _ F=>ZrG F M gbv);have gbn:=a8.kn (P:=l.prog) (w:=w) (base:=base) X G (fun _ F=>ZnI F M);have gca:=a22.kn (P:=l.prog) (w:=w) (base:=base) X G (fun _ F=>ZpD F M);have gbz:=a23.kn (P:=l.prog) (w:=w) (base:=base) X G (fun _ F=>Zlq F M gca);have gbj:=a24.kn (P:=l.prog) (w:=w) (base:=base) X G (fun _ F=>ZnL F M);have gcb:=a25.kn (P:=l.prog) (w:=w) (base:=base) X G (fun _ F=>Zlr F M gbn gbg gck);have gbk:=a26.kn (P:=l.prog) (w:=w) (base:=base) X G (fun _ F=>Zty F M);have gbr:=a27.kn (P:=l.prog) (w:=w) (base:=base) X G (fun _ F=>ZnN F M gbk gck gbg);have gcc:=a28.kn (P:=l.prog) (w:=w) (base:=base) X G (fun _ F=>Zls F M);have gaq:=a29.kn (P:=l.prog) (w:=w) (base:=base) X G (fun _ F=>Zlt F M N);have gby:=a30.kn (P:=l.prog) (w:=w) (base:=base) X G (fun _ F=>ZjK F M gaq gcc gbg);have gar:=a31.kn (P:=l.prog) (w:=w) (base:=base) X G (fun _ F=>Zlv F M gaq gce gao gck);have gbs:=a32.kn (P:=l.prog) (w:=w) (base:=base) X G (fun _ F=>ZrH F M gcl);have gan:=a36.kn (P:=l.prog) (w:=w) (base:=base) X G (fun _ F=>ZnO F M gbg);have gcj:=a9.kn (P:=l.prog) (w:=w) (base:=base) X G (fun _ F=>ZnQ F M);have gbt:=a11.kn (P:=l.prog) (w:=w) (base:=base) X G (fun _ F=>ZrI F M);have gcf:=a12.kn (P:=l.prog) (w:=w) (base:=base) X G (fun _ F=>ZrK F M gbt gcj);have gcm:=a21.kn (P:=l.prog) (w:=w) (base:=base) X G (fun _ F=>ZpF F M);have gbw:=a10.kn (P:=l.prog) (w:=w) (base:=base) X G (fun _ F=>ZnT F M);have gcn:=a14.kn (P:=l.prog) (w:=w) (base:=base) X G (fun _ F=>Ztz F M GB);have gaf:=a67.kn (P:=l.prog) (w:=w) (base:=base) X G (fun _ F=>ZpG F M GB);have gam:=a18.kn (P:=l.prog) (w:=w) (base:=base) X G (fun _ F=>ZpI F M gbt gcn gcj);have gcp:=a15.kn (P:=l.prog) (w:=w) (base:=base) X G (fun _ F=>ZpJ F M);have gci:=a16.kn (P:=l.prog) (w:=w) (base:=base) X G (fun _ F=>ZpK F M gcp gcn);have gbl:=a17.kn (P:=l.prog) (w:=w) (base:=base) X G (fun _ F=>ZnY F M gci gcp gcn gcj GB);have gcq:=a20.kn (P:=l.prog) (w:=w) (base:=base) X G (fun _ F=>ZpN F M gbt gcp gbl GB);have gcg:=a19.kn (P:=l.prog) (w:=w) (base:=base) X G (fun _ F=>ZtA F M gbw gcf gam gcj);have gap:=a13.kn (P:=l.prog) (w:=w) (base:=base) X G (fun _ F=>ZjR F M);have gav:=a33.kn (P:=l.prog) (w:=w) (base:=base) X G (fun _ F=>ZrN F M gcf gbw gcg gap gck gcq);have gbc:=a37.fo (P:=l.prog) (w:=w) (mg:=mg) (base:=base) (fun _ F=>Zly F M gax gca gch);have gba:=a38.fo (P:=l.prog) (w:=w) (mg:=mg) (base:=base) (fun _ F=>Zin F M gax gbz gch gbj);have gbd:=a39.fo (P:=l.prog) (w:=w) (mg:=mg) (base:=base) (fun _ F=>Zip F M gax gcb gch gbr);have gay:=a40.fo (P:=l.prog) (w:=w) (mg:=mg) (base:=base) (fun _ F=>Zhe F M gax gby gch gar);have gaz:=a41.fo (P:=l.prog) (w:=w) (mg:=mg) (base:=base) (fun _ F=>Zn2 F M gax gcc gbg gan gch gbs gav);have gbb:=a42.fo (P:=l.prog) (w:=w) (mg:=mg) (base:=base) (fun _ F=>ZlA F M gax gan gcf gcm)
 have FT:∀f sp,DoT f37 f38 f39 f40 f41 f42 f sp→∃fd,Za6 l.prog w K mg base CX0 6 f fd ["hall", "deed"] sp∧PySem.W.keepIn K (.ref f)=true∧ZdA K fd ["hall", "deed"] []:=fun f sp z=>by
  cases z
  ·exact gbc
  ·exact gba
  ·exact gbd
  ·exact gay
  ·exact gaz
  ·exact gbb
 have gaw:=a45.kn (P:=l.prog) (w:=w) (base:=base) X G (fun _ F=>ZrO F M FT gax gbm N);have qp:KnC l.prog w K mg base "Emptying" cE _ ["self", "hall"] _:=⟨⟨f46,_,ZpO F46 M gcj WD,⟨y7,a46,e_fn_46,y8⟩,Qc6 X G nE,b46⟩⟩;have qb:KnM l.prog w K mg base cE "do" _ ["self", "deed"] _:=⟨⟨f47,_,ZtB F47 M gaw WD,⟨a47,e_fn_47,k47⟩,b47⟩⟩;have gbi:=a48.kn (P:=l.prog) (w:=w) (base:=base) X G (fun _ F=>ZlB F M gbz gca qb WD);have gco:=a49.kn (P:=l.prog) (w:=w) (base:=base) X G (fun _ F=>ZtC F M gbn gcb GB);have gbq:=a50.kn (P:=l.prog) (w:=w) (base:=base) X G (fun _ F=>ZlC F M gco qb WD);have gbu:=a51.kn (P:=l.prog) (w:=w) (base:=base) X G (fun _ F=>Zn3 F M gbg GB);have gas:=a52.kn (P:=l.prog) (w:=w) (base:=base) X G (fun _ F=>ZjU F M gby qb WD);have gau:=a53.kn (P:=l.prog) (w:=w) (base:=base) X G (fun _ F=>ZlD F M gbu gas gbg qb WD GB);have gbx:=a54.kn (P:=l.prog) (w:=w) (base:=base) X G (fun _ F=>Zn5 F M gbi gbq gbg qb gau WD);have gbf:=a55.kn (P:=l.prog) (w:=w) (base:=base) X G (fun _ F=>ZlF F M qp gbx WD);have gbe:=a56.kn (P:=l.prog) (w:=w) (base:=base) X G (fun _ F=>ZrQ F M gaw gbw gcm);have gat:=a57.kn (P:=l.prog) (w:=w) (base:=base) X G (fun _ F=>ZlH F M gbe gbf);have gab:=a58.kn (P:=l.prog) (w:=w) (base:=base) X G (fun _ F=>ZrR F M);have gaa:=a59.kn (P:=l.prog) (w:=w) (base:=base) X G (fun _ F=>ZtD F M gab GB);have gah:=a60.kn (P:=l.prog) (w:=w) (base:=base) X G (fun _ F=>ZrS F M);have gaj:=a61.kn (P:=l.prog) (w:=w) (base:=base) X G (fun _ F=>Zn6 F M gah gaa);have gae:=a62.kn (P:=l.prog) (w:=w) (base:=base) X G (fun _ F=>ZjX F M gah gaa);have gag:=a63.kn (P:=l.prog) (w:=w) (base:=base) X G (fun _ F=>ZpP F M gaa gah gaj gae);have gac:=a64.kn (P:=l.prog) (w:=w) (base:=base) X G (fun _ F=>ZrT F M);have gad:=a65.kn (P:=l.prog) (w:=w) (base:=base) X G (fun _ F=>ZpQ F M gac);have gak:=a66.kn (P:=l.prog) (w:=w) (base:=base) X G (fun _ F=>ZtE F M);have gai:=a68.kn (P:=l.prog) (w:=w) (base:=base) X G (fun _ F=>ZlI F M gad gak gaf);have gal:=a69.kn (P:=l.prog) (w:=w) (base:=base) X G (fun _ F=>Zn7 F M);exact ZtG (ZhB l1 c1 a70.k) M gag gai gat gal
theorem walk {q:Program}{qx:List Str}{XP:(Str→Option Value)→Heap→Prop}{YP:World→Heap→Prop}{d:DefRec}{K:Params→FJ}(hn:l.most=some 63)(hdf:d.params.defaults=[])
  (hY:∀(w:World)(h:Heap),YP w h→(K w.params).In h)
  (F:∀(w:World)(mg:Str→Option Value)(fa:Addr)(h:Heap),(K w.params).In h→h.Ns mainGlobals mg→mg d.name=some (.ref fa)→
   ∃fd:FuncData,(∀(s:Shared)(u:Value),BindsTo s fd ⟨[u],[]⟩ [("_law_script",u)])∧∀base:Heap,(K w.params).In base→base.Ns mainGlobals mg→Za6 l.prog w (K w.params) mg base CX0 14 fa fd ["_law_script"] (ZpR (K w.params))):
  PySem.W.WalkO q qx XP YP l.row.toRowW d [] (fun f vs=>PySem.call f vs):=
 L2.walk_of (n:=63) (k:=14) (x:= "_law_script") (CX:=fun _=>CX0) (sp:=fun w=>ZpR (K w.params)) hn (by decide) hdf ⟨rfl,by decide,by decide,rfl⟩ hY F (fun _ _ a ns hl _ hS=>⟨a,ns,rfl,hS,hl,fun _=>rfl⟩) fun _ _ _ _ _ z=>z
end Toy
open PySem PySem.W PyProof.Rows
open PySem PySem.W PyProof.Rows
set_option maxRecDepth 100000 in
set_option maxHeartbeats 0 in
theorem PySem.Challenge.cw_farcords_k37_counted_small_holds : PySem.Challenge.rw_farcords_k37_counted_small.Holds := by
 w_on;o_law;k_head;(case hw=>w_witness2)
 k_fill
 refine Toy.walk (l:=PySem.Challenge.rw_farcords_k37_counted_small) rfl rfl (fun w h Y=>PySem.W.kIn_of Y) ?F
 case F=>
  intro w mg fa h KX G hmg
  refine' Toy.all_mk KX G hmg ?a0 ?a1 ?a2 ?a3 ?a4 ?a5 ?a6 ?a7 ?a8 ?a9 ?a10 ?a11 ?a12 ?a13 ?a14 ?a15 ?a16 ?a17 ?a18 ?a19 ?a20 ?a21 ?a22 ?a23 ?a24 ?a25 ?a26 ?a27 ?a28 ?a29 ?a30 ?a31 ?a32 ?a33 ?a34 ?a35 ?a36 ?a37 ?a38 ?a39 ?a40 ?a41 ?a42 ?a43 ?a44 ?a45 ?a46 ?l46 ?c46 ?k46 ?a47 ?l47 ?c47 ?k47 ?a48 ?a49 ?a50 ?a51 ?a52 ?a53 ?a54 ?a55 ?a56 ?a57 ?a58 ?a59 ?a60 ?a61 ?a62 ?a63 ?a64 ?a65 ?a66 ?a67 ?a68 ?a69 ?a70 ?e_fn_46 ?e_fn_47 ?nE ?y1 ?y2 ?y3 ?y4 ?y5 ?y6 ?y7 ?y8 ?nF ?nD ?nS ?lF ?lD ?lS ?lg1 ?lg2 ?lg3 ?lg4 ?lg5 ?lg6 ?mF ?mD ?g_abs ?g_zip ?g_divmod ?qt ?z_len ?z_range ?z_min ?z_max ?qo ?z_bool ?z_int ?z_tuple ?z_list ?z_str ?z_all ?z_sum ?z_sorted
  (case nE=>k_is)
  all_goals try exact⟨by k_is,⟨_,_,_,_,_,_,_,_,_,by k_is,by k_is⟩,by k_is⟩
  all_goals try k_is
  all_goals try first|rfl|decide
#print axioms PySem.Challenge.cw_farcords_k37_counted_small_holds
