import PyProof.Rows.All
import Wide.All
import OpenK.KLine
import OpenK.KWalk
import KE.KNestM
import KE.KDictList
import KE.KDictSum
import KE.KIsAll
import Wide.FinOn
import Lean
import PyProof.EqAt
import PyProof.EqKinds
import PyProof.TupleCall
import PyProof.ListRange
import PyProof.Rows.SortStr
import KE.KRevIter
import KE.KDictOf
import PyProof.AttrMissSeq
import PyProof.Rows.SortRunsK
import PyProof.Rows.SortShellK
import PyProof.Rows.CallKwBuiltin
import KE.KxText
import PyProof.DictWalks
import PyProof.DictItems
import PyProof.FactsAll.set_1
import PyProof.FactsAll.set_2
import KE.KSortedL
import KE.KSortedM
import KE.KSorted
import PySem.Challenge.RW_knewby_k43_whole_cut_and_lines
set_option Elab.async false
set_option linter.all false
set_option maxRecDepth 100000
set_option maxHeartbeats 4000000
def Qz:=@PySem.wpAny_bind
def QA:=@PySem.wpAny_pure
def QB:=@List.getElem?_eq_getElem
def QC:=@List.length_append
def QE:=@PySem.Heap.get?_push_of_some
def QF:=@List.length_map
def QG:=@if_neg
def QH:=@List.mem_of_getElem?
def QI:=@if_pos
def QJ:=@Nat.le_refl
def QK:=@List.mem_singleton
def QL:=@List.append_assoc
def QM:=@decide_eq_false
def QN:=@PySem.Heap.get?_push_size
def QO:=@of_decide_eq_true
def QP:=@List.mem_append_right
def QQ:=@List.getElem?_append_right
def QR:=@List.getElem?_map
def QS:=@Array.length_toList
def QT:=@PyProof.Rows.wpS_pure
def QU:=@Nat.ne_of_lt
def QV:=@List.mem_filter
def QW:=@Array.getElem?_toList
def QX:=@List.getElem?_append_left
def QY:=@PySem.Heap.lt_size
def QZ:=@List.getElem?_of_mem
def Q0:=@PySem.sizeLine_eq
def Ra:=@List.mem_append_left
def Rb:=@PySem.Heap.SameBut.update
def Rc:=@List.eq_nil_of_length_eq_zero
def Rf:=@List.mem_cons
def Rg:=@List.mem_append
def Rh:=@PySem.wpAny_holding
def Ri:=@Option.some.inj
def Rj:=@PySem.wpAny_call_entry
def Rk:=@List.mem_map
def Rl:=@List.size_toArray
def Rm:=@List.append_nil
def Rn:=@Nat.le_trans
def Ro:=@decide_eq_true_iff
def Rp:=@Nat.lt_of_lt_of_le
def Rq:=@PySem.F.slot_list_append
def Rr:=@Array.getElem?_eq_getElem
def Rt:=@Option.map_eq_some_iff
def Ru:=@List.mem_cons_self
def Rv:=@PySem.F.type_list_append
def Rw:=@List.mem_singleton_self
def Ry:=@List.mem_cons_of_mem
def Rz:=@List.length_cons
def RA:=@Bool.eq_false_iff
def RB:=@List.length_filter_le
def RC:=@List.map_cons
def RD:=@PyProof.Rows.wpS_bind
def RE:=@List.take_add_one
def RF:=@Nat.zero_le
def RG:=@PySem.wpAny_truthy_bool
def RH:=@congrArg
def RJ:=@Classical.byContradiction
def RK:=@List.length_take
def RL:=@PySem.Around.under_plainId
def RM:=@PySem.wpAny_newObj_type
def RN:=@PyProof.Rows.F.plain_set_update_loop
def RO:=@List.take_append_drop
def RP:=@PySem.wpAny_dictEpoch
def RQ:=@PySem.wpAny_mono
def RR:=@List.take_length
def RS:=@beq_self_eq_true
def RT:=@PySem.codeAny_builtin
def RU:=@PySem.Paired.length
def RV:=@PySem.F.plainAttrs_list
def RW:=@PySem.wpAny_rule
def RX:=@PySem.wpAny_callSpecial?_slot
def RY:=@List.foldl_cons
def RZ:=@Bool.and_eq_true
def R3:=@beq_eq_false_iff_ne
def R4:=@PySem.W.mg_none_of
def R5:=@PySem.F.slot_dict_itemiterator_next
def R6:=@Bool.true_and
def R7:=@List.take_of_length_le
def R8:=@List.filter_cons
def R9:=@List.getD_eq_getElem?_getD
def Sa:=@List.length_reverse
def Sb:=@PySem.wpAny_setField
def Sd:=@PyProof.Rows.callWith_type1
def Se:=@List.all_eq_true
def Sf:=@PySem.wpAny_askSetting
def Sg:=@Int.toNat_of_nonneg
def Si:=@List.map_append
def Sj:=@PySem.Heap.get?_update_self
def Sk:=@List.mem_range
def Sl:=@List.getElem?_take_of_lt
def Sm:=@PySem.wpAny_dictEntries
def Sn:=@PySem.wpAny_setState_of
def So:=@List.length_drop
def Sq:=@PySem.F.called_set
def Sr:=@PySem.wpAny_ite_split
def Ss:=@Nat.succ.inj
def Su:=@Bool.and_false
def Sv:=@PySem.lookup_relabel_local
def Sw:=@List.nodup_cons
def Sx:=@PySem.Calls.spliced_cons
def Sy:=@List.length_range
def Sz:=@List.filter_append
def SA:=@List.flatten_cons
def SE:=@PySem.plainId_quiet
def SF:=@PySem.mem_of_lookup
def SG:=@PyProof.Rows.F.entry_set_update_loop
def SH:=@PySem.wpAny_fieldsOf
def SI:=@List.mem_of_mem_take
def SJ:=@PySem.F.slot_dict_keyiterator_next
def SK:=@Bool.false_and
def SM:=@List.Sublist.nodup
def SO:=@Nat.lt_succ_of_lt
def SQ:=@Array.toList_append
def SR:=@List.findIdx?_eq_some_iff_getElem
def SS:=@Nat.le_of_eq
def SU:=@PySem.wpAny_Call_Name_kw
def SV:=@Sum.inr.inj
def SX:=@PySem.wpAny_notOrdered_dict
def SY:=@PySem.wpAny_specialOf
def Ta:=@List.getElem_mem
def Tb:=@PySem.Heap.get?_update_ne
def Tc:=@List.map_map
def Td:=@PySem.wpAny_pyIter_list
def Te:=@PySem.codeAny_mono
def Tf:=@Ne.symm
def Tg:=@List.any_cons
def Th:=@List.filter_sublist
def Ti:=@PySem.wpAny_isInstance
def Tj:=@PySem.wpAny_typeNameOfWhole_itemiter
def Tn:=@Nat.lt_succ_self
def To:=@List.Pairwise.sublist
def Tp:=@List.getElem?_eq_none
def Tq:=@PyProof.Rows.KeyOrd.klt_of_klt_of_kle
def Ts:=@List.pairwise_singleton
def Tu:=@PySem.wpAny_typeNameOfWhole_keyiter
def Tv:=@PySem.Calls.callWith_builtin
def Tw:=@List.sum_cons
def Tx:=@PySem.wpAny_passesOwn
def Tz:=@Array.getElem?_eq_some_iff
def TB:=@List.getElem?_drop
def TC:=@PySem.wpAny_attempt
def TF:=@PySem.builtinLookup_eq_fast
def TH:=@PySem.Heap.get?_push_ne
def TJ:=@List.getElem_inj
def TM:=@PySem.W.Fast.te10274390034422433532
def TN:=@PySem.W.Fast.te14289696077712309145
def TQ:=@PySem.W.Fast.te11892475500146522536
def TU:=@PySem.W.Fast.te10156331382660048174
def TV:=@PySem.W.Fast.te14364793385576792824
def TX:=@Nat.le_succ
def TY:=@Nat.le_add_right
def TZ:=@Option.isSome_map
def T1:=@PyProof.Rows.KeyOrd.kle_refl
def T2:=@PySem.W.Fast.te4187177175401517315
def T3:=@PySem.W.Fast.te1435165496053646825
def T4:=@PySem.W.Fast.te6613529449190102663
def T5:=@PySem.W.Fast.te5923862056798008813
def T6:=@PyProof.Rows.listUpdate_at
def T7:=@PySem.wpAny_typeNameOf_itemiter
def T8:=@Prod.mk.inj
def T9:=@Nat.zero_add
def Ua:=@PySem.wpAny_typeNameOf_keyiter
def Ub:=@PySem.Heap.size_push
def Uc:=@List.drop_zero
def Ud:=@PySem.tupleKind_room_in1
def Ue:=@List.take_zero
def Ug:=@List.getElem_map
def Uh:=@PySem.wpAny_setField_rec
def Ui:=@List.getElem?_reverse
def Uj:=@PyProof.Rows.KeyOrd.kle_trans
def Uk:=@PySem.F.slot_list_getattribute
def Ul:=@Bool.and_true
def Um:=@PySem.Calls.spliced_nil
def Uo:=@PySem.Heap.get?_update_other
def Uq:=@PySem.wpAny_typeOf
def Ur:=@PySem.wpAny_seqItems
def Us:=@Array.toList_extract
def Ut:=@List.mem_of_mem_drop
def Uu:=@PySem.wpAny_pyIter_slot
def Uv:=@PySem.wpAny_isOneOf_itemiter
def Uw:=@Int.le_refl
def Ux:=@PySem.fits_of_scanBound
def Uy:=@Nat.lt_irrefl
def Uz:=@List.nodup_nil
def UA:=@eq_false_of_ne_true
def UB:=@Nat.ne_of_gt
def UC:=@Nat.min_eq_left
def UD:=@PySem.Calls.evalArgs_plain
def UE:=@Nat.lt_of_le_of_lt
def UG:=@PySem.Obj.data_mapDictKeys
def UH:=@List.pairwise_append
def UI:=@PySem.typeLookup_type
def UJ:=@List.pairwise_iff_getElem
def UK:=@List.drop_eq_getElem_cons
def UL:=@List.findIdx?_eq_none_iff
def UM:=@Bool.not_eq_true'
def UN:=@List.ext_getElem?
def UO:=@List.Pairwise.imp_of_mem
def UP:=@List.filterMap_cons
def UQ:=@List.mem_map_of_mem
def UR:=@Option.bind_eq_some_iff
def US:=@PySem.W.kia_one
def UT:=@Classical.axiomOfChoice
def UU:=@PySem.Obj.data_mapFields
def UW:=@List.range_succ_eq_map
def UX:=@List.any_eq_true
def UY:=@List.pairwise_lt_range
def UZ:=@PySem.Value.isInt_shape
def U2:=@PySem.wpAny_of_eq
def U3:=@PySem.F.slot_tuple_hash
def U4:=@Nat.lt_trans
def U5:=@PySem.F.slot_dict_get
def U6:=@List.getElem?_toArray
def U7:=@Bool.and_eq_false_imp
def U8:=@Bool.and_eq_true_iff
def U9:=@Array.mem_toList_iff
def Va:=@PySem.F.args_dict_get_3
def Vb:=@List.reverse_reverse
def Vc:=@Nat.not_succ_le_zero
def Vd:=@Array.getElem?_eq_none
def Ve:=@PyProof.Rows.wpS_modify
def Vf:=@List.pairwise_map
def Vg:=@PySem.Walks.list
def Vh:=@PySem.F.entry_dict_get
def Vi:=@List.reverse_append
def Vj:=@List.filter_eq_self
def Vk:=@List.length_take_le
def Vl:=@PySem.wpAny_execs_nil
def Vm:=@PySem.Heap.DictOf.new
def Vn:=@PySem.F.slot_dict_itemiterator_iter
def Vo:=@Nat.le_of_lt
def Vp:=@List.mem_filterMap
def Vq:=@beq_iff_eq
def Vr:=@PyProof.Rows.wpS_get
def Vs:=@Nat.pos_of_ne_zero
def Vt:=@List.find?_eq_none
def Vu:=@PySem.wpAny_isOneOf_keyiter
def Vv:=@PySem.Obj.isFreed_of_fields
def Vw:=@Nat.succ_pos
def Vx:=@List.lookup_cons
def Vy:=@PySem.F.plainAttrs_dict
def Vz:=@PyProof.Rows.KeyOrd.klt_of_kle_of_klt
def VA:=@List.flatten_append
def VB:=@List.getElem_of_mem
def VC:=@List.take_sublist
def VD:=@Int.toNat_natCast
def VE:=@PySem.isSubtype_type
def VF:=@List.foldl_append
def VG:=@Array.toList_push
def VH:=@List.pairwise_iff_forall_sublist
def VI:=@PySem.wpAny_newTuple
def VJ:=@List.nodup_append
def VL:=@Int.zero_add
def VM:=@Nat.min_le_right
def VN:=@List.pairwise_cons
def VO:=@List.nodup_range
def VP:=@PySem.Obj.isFreed_of_dict
def VQ:=@decide_eq_decide
def VR:=@PySem.wpAny_setEntries_of
def VS:=@List.mem_flatMap
def VT:=@PySem.wpAny_newList
def VU:=@PySem.wpAny_call
def VW:=@Nat.min_le_left
def VX:=@PyProof.Rows.get?_update_seq
def VY:=@List.filter_map
def VZ:=@PySem.wpAny_tupleItemsOf
def V0:=@Nat.not_lt_zero
def V1:=@List.all_cons
def V2:=@List.flatMap_cons
def V3:=@PySem.F.sub_list_frozenset
def V4:=@PySem.wpAny_Call_method
def V5:=@PySem.F.kt_typeCall_dict_1
def V6:=@Array.toList_setIfInBounds
def V7:=@Prod.ext
def V8:=@List.length_eraseIdx_of_lt
def V9:=@PySem.F.slot_dict_getitem
def Wa:=@List.foldl_nil
def Wb:=@PyProof.Rows.seqEpoch_at
def Wc:=@PySem.F.args_dict_itemiterator_next_1
def Wd:=@Option.isSome_iff_exists
def We:=@PySem.wpAny_Dict_empty
def Wf:=@PySem.F.plain_extend_loop
def Wg:=@PySem.F.args_dict_init_2
def Wh:=@PySem.F.args_dict_keyiterator_next_1
def Wi:=@PySem.F.entry_dict_itemiterator_next
def Wj:=@Int.lt_irrefl
def Wk:=@List.getElem?_replicate
def Wl:=@PySem.Moved.trans
def Wm:=@PySem.F.entry_type_call
def Wn:=@PySem.wpAny_letGo
def Wo:=@PySem.F.entry_dict_init
def Wq:=@List.getElem?_cons_succ
def Wr:=@decide_eq_false_iff_not
def Ws:=@PySem.F.entry_dict_keyiterator_next
def Wt:=@PySem.wpAny_field
def Wu:=@PySem.F.plain_list_iadd
def Wv:=@List.getLast?_cons_cons
def Ww:=@List.getElem?_set_self
def Wx:=@PySem.W.cellsFrom_some
def Wy:=@PySem.SeqAt.EqAt.same
def Wz:=@PySem.codeAny_of_tree
def WA:=@PySem.F.typeCall_set_1
def WB:=@PySem.F.entry_set_init
def WC:=@PySem.wpAny_updateSeq
def WD:=@PySem.F.kt_called_dict
def WE:=@List.drop_eq_nil_of_le
def WG:=@Nat.sub_self
def WH:=@Nat.lt_of_succ_lt_succ
def WI:=@PyProof.Rows.call_function_entry_kw
def WJ:=@PySem.F.slot_tuple_eq
def WK:=@Nat.le_of_succ_le_succ
def WL:=@PySem.F.slot_dict_setdefault
def WM:=@Int.add_zero
def WN:=@Nat.sub_zero
def WO:=@List.of_mem_zip
def WQ:=@List.length_replicate
def WR:=@PySem.F.type_dict_get
def WS:=@PyProof.Rows.size_push'
def WT:=@List.length_zip
def WU:=@PySem.F.plain_set_new
def WV:=@PySem.F.slot_set_iter
def WW:=@List.filterMap_append
def WX:=@List.any_append
def WY:=@List.pairwise_flatMap
def WZ:=@List.getElem?_set_ne
def W0:=@PySem.Calls.Name_function_global
def W2:=@PySem.call_meets
def W3:=@PySem.F.sub_list_set
def W4:=@PySem.wpAny_runValue
def W5:=@PySem.callType_codes
def W6:=@List.getElem?_mapIdx
def W7:=@Array.toList_reverse
def W8:=@PySem.isSubtype_stop
def W9:=@PySem.entryFor_alias
def Xa:=@Nat.add_le_add_left
def Xb:=@Option.map_some
def Xc:=@List.map_congr_left
def Xd:=@Bool.false_eq_true
def Xe:=@List.flatMap_append
abbrev Xf:=PySem.Value
abbrev Xg:=PySem.Addr
abbrev Xh:=PySem.Shared
abbrev Xi:=PySem.Program
abbrev Xj:=PySem.World
abbrev Xk:=Option
abbrev Xl:=PySem.Around
abbrev Xm:=List
abbrev Xn:=PySem.Str
abbrev Xo:=Xf->Xh->Prop
abbrev Xp:=Unit->Xh->Prop
abbrev Xq:=Xm (Xg×PySem.Obj)
abbrev Xr:=Xn->Xk Xf
open PySem
def bF0:¬false=true:=Bool.false_ne_true
def dT0{p:Prop}[Decidable p](h:p):decide p=true:=decide_eq_true h
def gI0{α:Type _}{l:Xm α}{i:Nat}{a:α}:l[i]?=some a↔∃h:i<l.length,l[i]=a:=List.getElem?_eq_some_iff
open Array (getElem?_eq_none length_toList toList_zip)
open Bool (and_eq_true false_eq_true)
open List (all_map any_map append_assoc drop_drop find?_cons forIn_cons length_append length_cons lookup_cons map_nil mem_cons not_mem_nil size_toArray)
open Nat (lt_min lt_trans min_self not_lt sub_le)
open Option (getD_none)
open PySem.Heap (size_update)
open PySem.W (Frag callWith_K codeIn emptyDict findIn fnOf handedIn hasDictIn instObj isFn keepIn kitOne kitx_dict kitx_list lookIn makesIn methodObj mg_of nsIn plainGet plainGet_of plainOver takerIn)
section
open PySem.Spec PyProof.Rows
namespace L2
def inClass(s:Stmt)(j:Nat):Stmt:=match s with
 |.ClassDef _ _ _ body _ _ _ _ _ _ _=>body.getD j<|.Pass ⟨0,0,0,0⟩
 |_=>.Pass ⟨0,0,0,0⟩
def d4(s:Stmt):Arguments:=match s with
 |.FunctionDef _ a _ _ _ _ _ _ _ _=>a
 |_=>{ posonlyargs:=[],args:=[],vararg:=none,kwonlyargs:=[],kw_defaults:=[],kwarg:=none,defaults:=[] }
def dh(s:Stmt):Xm Stmt:=match s with
 |.FunctionDef _ _ b _ _ _ _ _ _ _=>b
 |_=>[]
def cI(s:Stmt):Scope:=match s with
 |.FunctionDef _ _ _ _ _ _ a _ _ _=>a
 |_=>{ kind:=.function,names:=[],isGenerator:=false,isCoroutine:=false }
end L2
namespace TR
open PySem.W
def Hy(a:SharedT->Thread->Xk (SharedT×Thread))(ok:Thread->Bool):Nat->SharedT->Thread->Xk SharedT
 |0,_,_=>none
 |n+1,s,t=>match through t with
  |true=>some s
  |false=>match ok t with
   |false=>none
   |true=>match a s t with
    |some (s',t')=>Hy a ok n s' t'
    |none=>none
theorem Ak{tb:String->Xk Builtin}{p:Xi}{w:Xj}{a:Nat}{ann:Xk Xf}:∀{n:Nat}{s s':SharedT}{t:Thread},Hy (stepT (denote tb) p w) (stepOk a ann) n s t=some s'->topRun tb p w a ann n s.abs t=some s'.abs
 |0,_,_,_,h=>by cases h
 |n+1,s,s',t,h=>by
  unfold Hy at h;unfold topRun;cases i:through t with
  |true=>rw[i]at h;cases h;rfl
  |false=>
   rw[i]at h;cases f:stepOk a ann t with
   |false=>rw[f]at h;cases h
   |true=>
    rw[f]at h;cases e:stepT (denote tb) p w s t with
    |none=>rw[e]at h;cases h
    |some r=>
     obtain⟨g,j⟩:=r;rw[e]at h;rw[stepT_spec e];exact Ak h
def grow:Xm Obj->BT->Nat->Xk BT
 |[],t,_=>some t
 |o::r,t,n=>match ((t.ins n o).get n).isSome with
  |true=>grow r (t.ins n o)<|n+1
  |false=>none
theorem xx{life:Life}:∀{l:Xm Obj}{t t':BT}{n:Nat},grow l t n=some t'->absHeap t' (n+l.length) life=l.foldl (λh o=>h.push o) (absHeap t n life)
 |[],_,_,_,h=>by cases h;rfl
 |o::r,t,t',n,h=>by
  unfold grow at h;cases g:((t.ins n o).get n).isSome with
  |false=>rw[g]at h;cases h
  |true=>
   rw[g]at h;have a:=xx (life:=life) h;rw[absHeap_ins g]at a;rw[Rz,RY,<-a]
   congr 1
   omega
theorem vH(life:Life):∀(l m:Xm Obj),l.foldl (λ(h:Heap) o=>h.push o) ⟨m.toArray,life⟩=⟨(m++l).toArray,life⟩
 |[],m=>by rw[Rm];rfl
 |o::r,m=>by
  have:(⟨m.toArray,life⟩:Heap).push o=⟨(m++[o]).toArray,life⟩:=by
   show(⟨m.toArray.push o,life⟩:Heap)=_;rw[List.push_toArray]
  rw[RY,this,vH life r,QL];rfl
def PD(s:Xh)(t:BT):SharedT:=⟨t,s.heap.objs.size,s.heap.life,s.gens,s.drawn,s.toks,s.os⟩
def F3{s:Xh}{t:BT}(h:grow s.heap.objs.toList .nil 0=some t):(PD s t).abs=s:=by
 have:=xx (life:=s.heap.life) h;rw[T9,show absHeap .nil 0 s.heap.life=⟨([]:Xm Obj).toArray,s.heap.life⟩ from rfl,vH,List.nil_append,QS]at this;obtain⟨⟨objs,life⟩,gens,drawn,toks,a⟩:=s;show(⟨absHeap t objs.size life,gens,drawn,toks,a⟩:Xh)=_;rw[this]
def qN{α:Type}(p:Xi)(w:Xj)(N:Nat)(look:Xh->Xh->α):Xk α:=(fencedOpening treeTable p w N).bind λa=>(grow a.heap.objs.toList .nil 0).bind λt=>match a.heap.isNs mainGlobals&&a.gens.size==0 with
 |true=>(Hy (stepT (denote treeTable) p w) (stepOk a.heap.objs.size<|a.heap.nsMap mainGlobals "__annotations__") N (PD a t)<|topStub p).bind λe=>some<|look a e.abs
 |false=>none
def tE{α:Type}{p:Xi}{w:Xj}{N:Nat}{look:Xh->Xh->α}{a:α}(h:qN p w N look=some a):∃s₀ e,fencedOpening treeTable p w N=some s₀/\(s₀.heap.isNs mainGlobals&&s₀.gens.size==0)=true/\topRun treeTable p w s₀.heap.objs.size (s₀.heap.nsMap mainGlobals "__annotations__") N s₀ (topStub p)=some e/\look s₀ e=a:=by
 unfold qN at h;obtain⟨s₀,f,h⟩:=UR.mp h;obtain⟨t,i,h⟩:=UR.mp h;refine⟨s₀,?_⟩;cases c:(s₀.heap.isNs mainGlobals&&s₀.gens.size==0) with
 |false=>rw[c]at h;cases h
 |true=>
  rw[c]at h;obtain⟨e,g,h⟩:=UR.mp h;have r:=Ak g;rw[F3 i]at r;exact⟨e.abs,f,rfl,r,Ri h⟩
def M8{p q:Xi}{loose:Xm Xn}{Xt:Xh->Bool}{α:Type}{Yf:Xh->α}{Ya:Xj->α}{N:Nat}
  (m:∀w,qN p w N (λs₀ a=>staticsOk (importedModules p.main.body) s₀.heap a.heap&&namesBound p a.heap&&gensDone a&&laidKept s₀.heap a.heap)=some true)
  (l:∀w,qN p w N (λ_ a=>openSeen q loose (importedModules p.main.body) Xt true a)=some (openGood q loose))
  (j:∀w,qN p w N (λ_ a=>Yf a)=some (Ya w)):LeftO p q loose Xt Yf Ya N:=λw=>by
 obtain⟨s₀,a,i,c,r,m⟩:=tE<|m w;obtain⟨f,g,e,_,h,l⟩:=tE<|l w;rw[i]at e;cases e;rw[r]at h;cases h;obtain⟨f,g,e,_,h,j⟩:=tE<|j w;rw[i]at e;cases e;rw[r]at h;cases h;unfold openEnds;rw[i];show(topFrom treeTable p w N s₀).map _=_;unfold topFrom;rw[c];dsimp only;rw[r];simp only[Option.bind_some];rw[m];show some (openSeen q loose (importedModules p.main.body) Xt true a,Yf a)=_;rw[l,j]
end TR
section
namespace K43
open L2
def top(i:Nat):Stmt:=PySem.Challenge.pw_knewby_k43_whole_cut_and_lines.main.body.getD i<|.Pass ⟨0,0,0,0⟩
abbrev lp:Stmt:=top 2
abbrev gb:Stmt:=top 3
abbrev kN:Stmt:=top 4
abbrev jD:Stmt:=top 5
abbrev jw:Stmt:=top 6
abbrev gU:Stmt:=top 7
abbrev fX:Stmt:=top 8
abbrev eQ:Stmt:=top 10
abbrev gJ:Stmt:=top 12
abbrev mQ:Stmt:=top 13
abbrev iO:Stmt:=top 14
abbrev gj:Stmt:=top 15
abbrev kZ:Stmt:=top 21
abbrev gL:Stmt:=top 22
abbrev kP:Stmt:=top 23
abbrev pj:Stmt:=top 24
abbrev ja:Stmt:=top 26
abbrev gH:Stmt:=top 27
abbrev fV:Stmt:=top 28
abbrev lC:Stmt:=top 29
abbrev iU:Stmt:=top 30
abbrev j3:Stmt:=top 31
abbrev gK:Stmt:=top 32
abbrev jL:Stmt:=top 33
abbrev hJ:Stmt:=top 34
abbrev k8:Stmt:=top 36
abbrev iX:Stmt:=top 39
abbrev mC:Stmt:=top 40
abbrev kj:Stmt:=top 41
abbrev gd:Stmt:=top 48
abbrev ip:Stmt:=top 49
abbrev jJ:Stmt:=top 50
abbrev d8:Stmt:=top 51
abbrev nG:Stmt:=top 52
abbrev lE:Stmt:=top 53
abbrev pE:Stmt:=top 54
abbrev mh:Stmt:=top 55
abbrev nC:Stmt:=top 56
abbrev fm:Stmt:=top 57
abbrev jN:Stmt:=top 58
abbrev ig:Stmt:=top 59
abbrev iI:Stmt:=top 60
abbrev jU:Stmt:=top 61
abbrev ic:Stmt:=top 62
abbrev iF:Stmt:=inClass (top 63) 0
abbrev ff:Stmt:=inClass (top 63) 1
abbrev fF:Stmt:=inClass (top 63) 2
abbrev gF:Stmt:=inClass (top 63) 3
abbrev fb:Stmt:=inClass (top 63) 4
abbrev eI:Stmt:=inClass (top 63) 9
abbrev jI:Stmt:=top 65
abbrev uM:Stmt:=top 66
abbrev mT:Stmt:=top 67
abbrev kL:Stmt:=top 68
abbrev pq:Stmt:=top 69
abbrev pR:Stmt:=top 70
abbrev pA:Stmt:=top 71
abbrev pN:Stmt:=top 72
abbrev pH:Stmt:=top 73
abbrev i8:Stmt:=top 74
abbrev nh:Stmt:=top 75
abbrev nB:Stmt:=top 76
abbrev pf:Stmt:=top 77
def oneOf:Xf->Xk Xn
 |.str x _=>some x
 |_=>none
def strsOf(l:Xm Xf):Xm (Xk Xn):=l.map oneOf
def Jr:Xm (Xk Xn):=[some "person",some "talk",some "saw",some "knew",some "heard",some "told",some "not",some "nobody",some "never",some "by",some "from",some "to"]
inductive FF(K:Frag)(x:Xn)(st:Stmt):Prop
 |mk{f:Xg}{h kV g pm cd ct:Xf}{e an:Xk Xg}{sl:Array (Xk Xf)}(a:nsIn K mainGlobals x=some (some (.ref f)))(l:K.lookup f=some ⟨h,e,.func (fnOf x x (d4 st) (dh st) (cI st) .none kV g pm an cd ct),sl⟩)(c:codeIn K cd x=true)(k:keepIn K (.ref f)=true)
inductive Facts(K:Frag):Prop
 |mk{kw C  f58 f59 f60 f61 f62 f63:Xg}
  {a1 X T F S ac G ar l p al as H:Xk Xg}{a0 Z aq j v L o:Array (Xk Xf)}{x y Y ad f ab m w U B i J r R Q M e N I D P an a W E z am A g n s q ap O h av:Xf}{Xw:Array Xf}{nW:Nat}{Yj a3 a2 ay ax:Tok}
  (aW:nsIn K mainGlobals "KEPT_WORDS" =some (some (.ref kw))) (lW:K.lookup kw=some ⟨.type "tuple",a1,.seq Xw nW,a0⟩) (vW:strsOf Xw.toList=Jr)
 (h1:FF K "is_whole" iX) (h2:FF K "is_hour" mC) (h3:FF K "is_name" kj) (h4:FF K "is_list_up_to" gd) (h5:FF K "is_tuple_of" ip) (h6:FF K "is_person" jJ) (h7:FF K "are_unlike_persons" d8) (h8:FF K "is_tale" nG) (h9:FF K "is_sight" lE) (cs:FF K "is_way" pE) (eu:FF K "is_talk" mh) (dx:FF K "is_span" nC) (a9:FF K "is_short_saying" fm) (bb:FF K "is_saying" jN) (bf:FF K "are_persons" ig) (bv:FF K "are_sights" iI) (dl:FF K "are_talks" jU) (ef:FF K "are_sayings" ic) (dk:FF K "floor_of" lp) (ct:FF K "floors_of_all" gb) (d3:FF K "is_above" kN) (ej:FF K "is_silent" jD) (eh:FF K "is_barred" jw) (c2:FF K "open_sights" gU) (eo:FF K "open_tellings" fX) (dc:FF K "open_entries" gJ) (bi:FF K "hour_of" mQ) (d0:FF K "can_follow" iO) (c1:FF K "first_entries" gj) (es:FF K "rooms_of" kZ) (e2:FF K "reached_from" gL) (d1:FF K "take_way" kP) (d2:FF K "filled" pj) (cc:FF K "hours_of_tellings" eQ) (ek:FF K "seen_hours" ja) (a4:FF K "saw_ahead_of" gH) (de:FF K "hours_of_open" fV) (cl:FF K "leads_to" lC) (c7:FF K "talk_links" iU) (eq:FF K "talk_flow" j3) (db:FF K "talks_behind" gK) (ew:FF K "line_over" jL) (b3:FF K "apart_lines" hJ) (ce:FF K "talk_cut" k8) (el:FF K "_law_cell_at" jI) (c3:FF K "_law_mix" uM) (b4:FF K "_law_names" mT) (em:FF K "_law_saying" kL) (ec:FF K "_law_made" pq) (e3:FF K "_law_book" pR) (b2:FF K "_law_free" pA) (ei:FF K "_law_open" pN) (ex:FF K "_law_seen" pH) (cf:FF K "_law_in_order" i8) (cx:FF K "_law_leads" nh) (b0:FF K "_law_asked" nB) (cn:FF K "law" pf)
  (aC:nsIn K mainGlobals "Book" =some (some (.ref C))) (pg:plainGet K C Str.empty=true) (hd:hasDictIn K C=true) (po:plainOver K C=true) (sa:findIn K (.ref C) "__setattr__" =some (some (.builtin "object.__setattr__"))) (mk:makesIn K C=true) (kc:keepIn K (.ref C)=true)
  (nP:findIn K (.ref C) "kept_persons" =some none) (nS:findIn K (.ref C) "kept_sights" =some none) (nT:findIn K (.ref C) "kept_talks" =some none) (nY:findIn K (.ref C) "kept_sayings" =some none)
  (ca:findIn K (.ref C) "__init__" =some (some (.ref f58))) (cr:isFn K (.ref f58)=true) (bd:K.lookup f58=some ⟨x,X,.func (fnOf "__init__" "Book.__init__" (d4 iF) (dh iF) (cI iF) .none y Y ad T f ab),Z⟩) (ev:codeIn K f "Book.__init__" =true) (bn:keepIn K (.ref f58)=true)
  (ea:findIn K (.ref C) "persons" =some (some (.ref f59))) (ch:isFn K (.ref f59)=true) (ed:K.lookup f59=some ⟨m,F,.func (fnOf "persons" "Book.persons" (d4 ff) (dh ff) (cI ff) .none w U B S i J),aq⟩) (eb:codeIn K i "Book.persons" =true) (da:keepIn K (.ref f59)=true)
  (c0:findIn K (.ref C) "sights" =some (some (.ref f60))) (e0:isFn K (.ref f60)=true) (XO:K.lookup f60=some ⟨r,ac,.func (fnOf "sights" "Book.sights" (d4 fF) (dh fF) (cI fF) .none R Q M G e N),j⟩) (ck:codeIn K e "Book.sights" =true) (bm:keepIn K (.ref f60)=true)
  (en:findIn K (.ref C) "talks" =some (some (.ref f61))) (ez:isFn K (.ref f61)=true) (eg:K.lookup f61=some ⟨I,ar,.func (fnOf "talks" "Book.talks" (d4 gF) (dh gF) (cI gF) .none D P an l a W),v⟩) (et:codeIn K a "Book.talks" =true) (Yt:keepIn K (.ref f61)=true)
  (cg:findIn K (.ref C) "sayings" =some (some (.ref f62))) (ep:isFn K (.ref f62)=true) (er:K.lookup f62=some ⟨E,p,.func (fnOf "sayings" "Book.sayings" (d4 fb) (dh fb) (cI fb) .none z am A al g n),L⟩) (dm:codeIn K g "Book.sayings" =true) (dd:keepIn K (.ref f62)=true)
  (dr:findIn K (.ref C) "tellings" =some (some (.ref f63))) (cm:isFn K (.ref f63)=true) (e1:K.lookup f63=some ⟨s,as,.func (fnOf "tellings" "Book.tellings" (d4 eI) (dh eI) (cI eI) .none q ap O H h av),o⟩) (dg:codeIn K h "Book.tellings" =true) (bx:keepIn K (.ref f63)=true)
  (z1:nsIn K mainGlobals "isinstance" =some none) (z2:nsIn K mainGlobals "int" =some none) (z3:nsIn K mainGlobals "bool" =some none) (z4:nsIn K mainGlobals "str" =some none) (z5:nsIn K mainGlobals "len" =some none) (z6:nsIn K mainGlobals "all" =some none) (z7:nsIn K mainGlobals "range" =some none) (z8:nsIn K mainGlobals "list" =some none) (z9:nsIn K mainGlobals "tuple" =some none) (bc:nsIn K mainGlobals "set" =some none) (e4:nsIn K mainGlobals "zip" =some none) (ey:nsIn K mainGlobals "enumerate" =some none) (be:nsIn K mainGlobals "min" =some none) (c5:nsIn K mainGlobals "max" =some none) (dn:nsIn K mainGlobals "any" =some none) (cd:nsIn K mainGlobals "sorted" =some none) (co:nsIn K mainGlobals "dict" =some none) (cp:nsIn K mainGlobals "sum" =some none) (b1:nsIn K mainGlobals "reversed" =some none)
  (g1:nsIn K mainGlobals "MOST_PERSONS" =some (some (.int 24 Yj))) (g2:nsIn K mainGlobals "MOST_SIGHTS" =some (some (.int 24 a3))) (g3:nsIn K mainGlobals "MOST_TALKS" =some (some (.int 120 a2))) (g4:nsIn K mainGlobals "MOST_SAYINGS" =some (some (.int 60 ay))) (g5:nsIn K mainGlobals "MOST_WORDS" =some (some (.int 6 ax))):Facts K
open PySem.W in
def vw:Xi:=view PySem.Challenge.rw_knewby_k43_whole_cut_and_lines.row.toRowW.prog [0,2,3,4,5,6,7,8,10,12,13,14,15,17,18,19,21,22,23,24,26,27,28,29,30,31,32,33,34,36,38,39,40,41,43,44,45,46,47,48,49,50,51,52,53,54,55,56,57,58,59,60,61,62,63,65,66,67,68,69,70,71,72,73,74,75,76,77]
end K43
open PySem.W
def PySem.W.Fast.tw13034260701376528585:PySem.Program:=PySem.Challenge.pw_knewby_k43_whole_cut_and_lines
def PySem.W.Fast.te13034260701376528585:PySem.Challenge.pw_knewby_k43_whole_cut_and_lines=PySem.W.Fast.tw13034260701376528585:=rfl
set_option maxRecDepth 100000 in
def K43.yN(w:Xj):TR.qN (OpenRow.toRowW PySem.Challenge.rw_knewby_k43_whole_cut_and_lines.row).prog w 20000 (λs₀ a=>staticsOk (importedModules (OpenRow.toRowW PySem.Challenge.rw_knewby_k43_whole_cut_and_lines.row).prog.main.body) s₀.heap a.heap&&namesBound (OpenRow.toRowW PySem.Challenge.rw_knewby_k43_whole_cut_and_lines.row).prog a.heap&&gensDone a&&laidKept s₀.heap a.heap)=some true:=by
 delta TR.qN PySem.W.fencedOpening;(try rw[TM]);(try rw[T2]);(try rw[T3]);(try rw[TN]);(try rw[TQ]);(try rw[TU]);(try rw[T4]);(try rw[TV]);(try rw[T5]);kernel_rfl
set_option maxRecDepth 100000 in
def K43.yo(w:Xj):TR.qN (OpenRow.toRowW PySem.Challenge.rw_knewby_k43_whole_cut_and_lines.row).prog w 20000 (λ_ a=>openSeen K43.vw [] (importedModules (OpenRow.toRowW PySem.Challenge.rw_knewby_k43_whole_cut_and_lines.row).prog.main.body) (λs=>xlAt K43.vw [] s&&recOk (RowW.records<|OpenRow.toRowW PySem.Challenge.rw_knewby_k43_whole_cut_and_lines.row) s) true a)=some (openGood K43.vw []):=by
 delta TR.qN PySem.W.fencedOpening;(try rw[TM]);(try rw[T2]);(try rw[T3]);(try rw[TN]);(try rw[TQ]);(try rw[TU]);(try rw[T4]);(try rw[TV]);(try rw[T5]);kernel_rfl
local macro_rules
 | `(tactic|o_head $H)=> `(tactic| (
  refine holds_open (N:=20000) (q:=K43.vw) (loose:=[])
   (Xt:=λs=>xlAt K43.vw [] s&&recOk (RowW.records (OpenRow.toRowW PySem.Challenge.rw_knewby_k43_whole_cut_and_lines.row)) s)
   (XP:=XL K43.vw []) (YP:=Hook.says $H) (Ya:=Hook.val $H) (Yf:=Hook.obs $H)
   ?hl (Hook.of $H) (Hook.keeps $H)
   (λs e=>xl_of s (U8.mp e).1) XL.keeps
   (by rfl) (by rfl) (by rfl)
   (λs e=>recFacts_of (U8.mp e).2)
   (by rfl) (by first|assumption|decide+kernel) (by decide+kernel)
   ⟨rfl,rfl,rfl,rfl,rfl,by decide+kernel⟩ ?hw ?hc
  (case hl=>(refine TR.M8 K43.yN K43.yo λw=>?_;delta TR.qN PySem.W.fencedOpening;(try rw[TM]);(try rw[T2]);(try rw[T3]);(try rw[TN]);(try rw[TQ]);(try rw[TU]);(try rw[T4]);(try rw[TV]);(try rw[T5]);kernel_rfl))))
set_option maxRecDepth 100000 in
set_option maxHeartbeats 0 in
def K43.closing (HW:∀{q:Xi}{loose:Xm Xn}{XP:(Xr)->Heap->Prop}{YP:Xj->Heap->Prop}{d:DefRec}{K:Params->Frag},d.name= "law" ->d.params.defaults=[]->(∀(w:Xj) (h:Heap),YP w h->(K w.params).In h)->
  (∀(w:Xj)(mg:Xr)(fa:Xg)(h:Heap),(K w.params).In h->h.Ns mainGlobals mg->mg d.name=some (.ref fa)->K43.Facts (K w.params))->PySem.W.WalkO q loose XP YP PySem.Challenge.rw_knewby_k43_whole_cut_and_lines.row.toRowW d [] λf vs=>PySem.call f vs):PySem.Challenge.rw_knewby_k43_whole_cut_and_lines.Holds:=by
 w_on;o_law;k_head;(case hw=>w_witness2)
 k_fill
 refine HW rfl rfl (λw h Y=>PySem.W.kIn_of Y) ?F
 case F=>
  intro w mg fa h KX G hmg;refine' K43.Facts.mk ?aW ?lW ?vW ?h1 ?h2 ?h3 ?h4 ?h5 ?h6 ?h7 ?h8 ?h9 ?h10 ?h11 ?h12 ?h13 ?h14 ?h15 ?h16 ?h17 ?h18 ?h19 ?h20 ?h21 ?h22 ?h23 ?h24 ?h25 ?h26 ?h27 ?h28 ?h29 ?h30 ?h31 ?h32 ?h33 ?h34 ?h35 ?h36 ?h37 ?h38 ?h39 ?h40 ?h41 ?h42 ?h43 ?h44 ?h45 ?h46 ?h47 ?h48 ?h49 ?h50 ?h51 ?h52 ?h53 ?h54 ?h55 ?h56 ?h57 ?aC ?pg ?hd ?po ?sa ?mk ?kc ?nP ?nS ?nT ?nY ?a58 ?i58 ?l58 ?c58 ?k58 ?a59 ?i59 ?l59 ?c59 ?k59 ?a60 ?i60 ?XO ?c60 ?k60 ?a61 ?i61 ?l61 ?c61 ?Yt ?a62 ?i62 ?l62 ?c62 ?k62 ?a63 ?i63 ?l63 ?c63 ?k63 ?z1 ?z2 ?z3 ?z4 ?z5 ?z6 ?z7 ?z8 ?z9 ?z10 ?z11 ?z12 ?z13 ?z14 ?z15 ?z16 ?z17 ?z18 ?z19 ?g1 ?g2 ?g3 ?g4 ?g5
  (case aW=>k_is)
  (case lW=>k_is)
  (case aC=>k_is)
  (case pg=>k_is)
  (case hd=>k_is)
  (case po=>k_is)
  (case sa=>k_is)
  (case mk=>k_is)
  (case kc=>k_is)
  (case nP=>k_is)
  (case nS=>k_is)
  (case nT=>k_is)
  (case nY=>k_is)
  (case a58=>k_is)
  (case i58=>k_is)
  (case l58=>k_is)
  (case c58=>k_is)
  (case k58=>k_is)
  (case a59=>k_is)
  (case i59=>k_is)
  (case l59=>k_is)
  (case c59=>k_is)
  (case k59=>k_is)
  (case a60=>k_is)
  (case i60=>k_is)
  (case XO=>k_is)
  (case c60=>k_is)
  (case k60=>k_is)
  (case a61=>k_is)
  (case i61=>k_is)
  (case l61=>k_is)
  (case c61=>k_is)
  (case Yt=>k_is)
  (case a62=>k_is)
  (case i62=>k_is)
  (case l62=>k_is)
  (case c62=>k_is)
  (case k62=>k_is)
  (case a63=>k_is)
  (case i63=>k_is)
  (case l63=>k_is)
  (case c63=>k_is)
  (case k63=>k_is)
  (case z1=>k_is)
  (case z2=>k_is)
  (case z3=>k_is)
  (case z4=>k_is)
  (case z5=>k_is)
  (case z6=>k_is)
  (case z7=>k_is)
  (case z8=>k_is)
  (case z9=>k_is)
  (case z10=>k_is)
  (case z11=>k_is)
  (case z12=>k_is)
  (case z13=>k_is)
  (case z14=>k_is)
  (case z15=>k_is)
  (case z16=>k_is)
  (case z17=>k_is)
  (case z18=>k_is)
  (case z19=>k_is)
  (case g1=>k_is)
  (case g2=>k_is)
  (case g3=>k_is)
  (case g4=>k_is)
  (case g5=>k_is)
  (case vW=>rfl)
  all_goals (apply K43.FF.mk<;>k_is)
end
namespace L2
abbrev Key:=Sum Int Xn
def og:Key->Xf->Bool
 |.inl k,v=>Value.isInt k v
 |.inr x,v=>Value.isStrOf x v
def Pu(w:Xj):Key->Int
 |.inl k=>hashInt k
 |.inr x=>hashStr w x
def dw:∀{k:Key}{v:Xf},og k v=true->(∃i t,k=Sum.inl i/\v=Value.int i t)\/(∃x t,k=Sum.inr x/\v=Value.str x t)
 |.inl i,v,h=>by
  obtain⟨t,e⟩:=UZ h;exact .inl ⟨i,t,rfl,e⟩
 |.inr x,v,h=>by
  obtain⟨t,e⟩:=Value.isStrOf_shape h;exact .inr ⟨x,t,rfl,e⟩
def AZ(i:Int)(t:Tok):og (.inl i) (.int i t)=true:=by simp[og,Value.isInt]
def r8(x:Xn)(t:Tok):og (.inr x) (.str x t)=true:=by simp[og,Value.isStrOf]
def LB(a b:Int):decide ((Sum.inl a:Key)=Sum.inl b)=(a==b):=by grind
def LK(a b:Xn):decide ((Sum.inr a:Key)=Sum.inr b)=decide (a=b):=by grind
def J6(a:Int)(b:Xn):decide ((Sum.inl a:Key)=Sum.inr b)=false:=QM λq=>nomatch q
def Kb(a:Xn)(b:Int):decide ((Sum.inr a:Key)=Sum.inl b)=false:=QM λq=>nomatch q
def cL(prog:Xi)(w:Xj):PySem.KeyKind prog w Key where
 is:=og
 hash:=Pu w
 inj:=λv a b l g=>by
  obtain ⟨i,t,rfl,rfl⟩|⟨x,t,rfl,rfl⟩:=dw l
  ·obtain ⟨j,u,rfl,e⟩|⟨y,u,rfl,e⟩:=dw g
   ·injection e with e1 _;rw[e1]
   ·exact nomatch e
  ·obtain ⟨j,u,rfl,e⟩|⟨y,u,rfl,e⟩:=dw g
   ·exact nomatch e
   ·injection e with e1 _;rw[e1]
 byValue:=λk v h=>by
  rcases dw h with ⟨i,t,rfl,rfl⟩|⟨x,t,rfl,rfl⟩<;>rfl
 pyHash:=λf h=>by
  obtain ⟨i,t,rfl,rfl⟩|⟨x,t,rfl,rfl⟩:=dw f
  ·exact wpAny_pyHash_int h
  ·exact wpAny_pyHash_str h
 eqBool:=λm f h=>by
  obtain ⟨i,t,rfl,rfl⟩|⟨x,t,rfl,rfl⟩:=dw m
  ·obtain ⟨j,u,rfl,rfl⟩|⟨y,u,rfl,rfl⟩:=dw f
   ·rw[LB]at h;exact wpAny_eqBool_int h
   ·rw[J6]at h;exact SeqAt.EqAt.int_str i t y u _ _ _ _ h
  ·obtain ⟨j,u,rfl,rfl⟩|⟨y,u,rfl,rfl⟩:=dw f
   ·rw[Kb]at h;exact SeqAt.EqAt.str_int x t j u _ _ _ _ h
   ·rw[LK]at h;exact wpAny_eqBool_str h
 «strs» :=λk x t v h=>by
  obtain ⟨i,u,rfl,e⟩|⟨y,u,rfl,e⟩:=dw h
  ·exact nomatch e
  ·injection e with e1 _
   subst e1;cases v<;>rfl
def vz(prog:Xi)(w:Xj)(i:Int)(t:Tok):(cL prog w).is (.inl i) (.int i t)=true:=AZ i t
def n5(prog:Xi)(w:Xj)(x:Xn)(t:Tok):(cL prog w).is (.inr x) (.str x t)=true:=r8 x t
inductive V where
 |non|bl (b:Bool)|int (i:Int)|str (x:Xn)|byt (b:Array UInt8)|flt (b:UInt64)|ref (a:Xg)|ty (n:String)
 deriving DecidableEq
def RelV:V->Xf->Prop
 |.non,u=>u=Value.none
 |.bl b,u=>u=Value.bool b
 |.int i,u=>∃t,u=Value.int i t
 |.str x,u=>∃t,u=Value.str x t
 |.byt b,u=>∃t,u=Value.bytes b t
 |.flt b,u=>∃t,u=Value.float b t
 |.ref a,u=>u=Value.ref a
 |.ty n,u=>u=Value.type n
abbrev Vals:Xm V->Xm Xf->Prop:=Paired RelV
def Vals.length(r:Vals xs us):xs.length=us.length:=RU r
theorem Vals.get:∀{xs:Xm V}{us:Xm Xf}{i:Nat}{x:V},Vals xs us->xs[i]? =some x->∃u,us[i]? =some u/\RelV x u
 |_,_,_,_,.nil,e=>by simp at e
 |_,_,0,_,.cons r _,e=>by simp at e;subst e;exact⟨_,rfl,r⟩
 |_,_,i+1,x,.cons _ t,e=>by
  obtain⟨u,a,f⟩:=Vals.get t (by simpa using e);exact⟨u,by simpa using a,f⟩
theorem Vals.append:∀{xs ys:Xm V}{us ws:Xm Xf},Vals xs us->Vals ys ws->Vals (xs++ys) (us++ws)
 |_,_,_,_,.nil,s=>s
 |_,_,_,_,.cons r t,s=>.cons r<|Vals.append t s
theorem Vals.take:∀{xs:Xm V}{us:Xm Xf}(n:Nat),Vals xs us->Vals (xs.take n) (us.take n)
 |_,_,0,_=>.nil
 |_,_,_+1,.nil=>.nil
 |_,_,n+1,.cons r t=>.cons r<|Vals.take n t
theorem Vals.drop:∀{xs:Xm V}{us:Xm Xf}(n:Nat),Vals xs us->Vals (xs.drop n) (us.drop n)
 |_,_,0,r=>r
 |_,_,_+1,.nil=>.nil
 |_,_,n+1,.cons _ t=>Vals.drop n t
def jr:Xk V->Xk Xf->Prop
 |some v,some u=>RelV v u
 |none,none=>True
 |_,_=>False
def KV{κ:Type}:Xm (κ×V)->Xm (κ×Xf)->Prop:=Paired λ(p:κ×V) (q:κ×Xf)=>p.1=q.1/\RelV p.2 q.2
def kV:Key->V
 |.inl i=>.int i
 |.inr x=>.str x
inductive HO where
 |lst (xs:Xm V)
 |tup (xs:Xm V)
 |dK (Xu:Xm (Key×V))|dT (Xu:Xm (Xm Key×V))
 |set (S:Int->Bool)(n:Nat)
 |ins (C a:Xg)(fs:Xm (Xn×V))
 |own (x:Xg)
 |xd (fs:Xm (Xn×V))
 |met (f x:Xg)
 |rng (lo e:Int)
 |frz (o:Obj)(u:HO)
 |tbl (ps:Array Xf)
 |ext (φ:Heap->Prop)
abbrev Hp:=Xg->Xk HO
def upd(H:Hp)(a:Xg)(o:HO):Hp:=λb=>if b=a then some o else H b
def cE:upd H a o a=some o:=by unfold upd;rw[QI rfl]
def cG(h:b≠a):upd H a o b=H b:=by unfold upd;rw[QG h]
def zA:upd (upd H a o) a u=upd H a u:=by
 funext b;unfold upd;split<;>rfl
def pG{H:Hp}(h:H a=some o)(h':H b=some u)(d:o≠u):a≠b:=by grind
def cF{H:Hp}(h:H a=some o)(h':H b=none):a≠b:=by grind
section
variable (P:Xi)(w:Xj)
def cV(H:Hp)(h:Heap)(a:Xg):HO->Prop
 |.lst e=>e.length<=sizeLine/\∃(j:Xm Xf) (n:Nat),Vals e j/\h.get? a=some { cls:=.type "list",data:=.seq j.toArray n }
 |.tup e=>e.length<=sizeLine/\∃j:Xm Xf,Vals e j/\IsTup h a j.toArray
 |.dK i=>i.length<=sizeLine/\(a==sysModules)=false/\∃r,KV i r/\h.DictOf (cL P w) a r
 |.dT i=>i.length<=sizeLine/\(a==sysModules)=false/\∃e:Xm (Xm Key×Xg×Xf),
   Paired (λ(p:Xm Key×V) (q:Xm Key×Xg×Xf)=>p.1=q.1/\H q.2.1=some (.tup<|p.1.map kV)/\RelV p.2 q.2.2) i e/\
   ∃o y B,h.get? a=some o/\o.ExactDict/\o.data=.dict y B/\y.toList=e.map (entryOfKey<|tupleKind<|cL P w)/\(e.map (·.1)).Nodup
 |.set S n=>h.SetOf (intKind P w) a S n
 |.ins C l fs=>H l=some (.own a)/\fs.length<=1000/\l≠a/\h.get? a=some (instObj C l)/\
   ∃g,h.Ns1 l g/\(∀f,jr (fs.lookup f)<|g f)/\PySem.Within g (fs.map (·.1))
 |.own _=>∃o,h.get? a=some o
 |.xd fs=>∃g,h.Ns1 a g/\∀f,jr (fs.lookup f)<|g f
 |.rng D A=>∃t u v,h.get? a=some { cls:=.type "range",data:=.fields #[.int D t,.int A u,.int 1 v] }
 |.frz o u=>h.get? a=some o/\cV H h a u
 |.tbl z=>h.get? a=some { cls:=.none,data:=.fields z }
 |.met f x=>h.get? a=some (methodObj (.ref f)<|.ref x)
 |.ext φ=>φ h/\(∃o,h.get? a=some o)/\∀s m:Heap,φ s->(∀o,s.get? a=some o->m.get? a=some o)->φ m
def gM(H:Hp)(h:Heap):Prop:=∀a o,H a=some o->cV P w H h a o
end
def cV.lt(x:cV P w H h a o):a<h.objs.size:=by
 cases o with
 |lst i=>obtain⟨_,_,_,_,e⟩:=x;exact QY e
 |tup i=>obtain⟨_,_,_,p⟩:=x;exact p.lt
 |dK g=>obtain⟨_,_,_,_,o,_,_,e,_⟩:=x;exact QY e
 |dT g=>obtain⟨_,_,_,_,o,_,_,e,_⟩:=x;exact QY e
 |set S n=>obtain⟨o,_,_,_,e,_⟩:=x;exact QY e
 |ins C l fs=>obtain⟨_,_,_,e,_⟩:=x;exact QY e
 |own y=>obtain⟨_,e⟩:=x;exact QY e
 |xd fs=>obtain⟨_,⟨_,_,_,e,_⟩,_⟩:=x;exact QY e
 |rng m q=>obtain⟨_,_,_,e⟩:=x;exact QY e
 |frz ob u=>obtain⟨e,_⟩:=x;exact QY e
 |tbl j=>exact QY<|show h.get? a=some _ from x
 |met f y=>exact QY<|show h.get? a=some _ from x
 |ext φ=>obtain⟨_,⟨_,e⟩,_⟩:=x;exact QY e
theorem Paired.C9{α β:Type}{F G:α->β->Prop}:∀{g:Xm α}{e:Xm β},Paired F g e->(∀a b,F a b->G a b)->Paired G g e
 |_,_,.nil,_=>.nil
 |_,_,.cons r t,f=>.cons (f _ _ r)<|Paired.C9 t f
def cV.gh(x:cV P w H h a o)(k:∀b u,(b=a\/H b=some (.own a))->h.get? b=some u->h'.get? b=some u)
  (I:∀b,H b=some (.own a)->H' b=some (.own a))(D:∀b xs,H b=some (.tup xs)->H' b=some (.tup xs)):cV P w H' h' a o:=by
 induction o with
 |lst xs=>obtain⟨z,j,n,r,e⟩:=x;exact⟨z,j,n,r,k _ _ (.inl rfl) e⟩
 |tup xs=>obtain⟨z,j,r,ob,e,c⟩:=x;exact⟨z,j,r,ob,k _ _ (.inl rfl) e,c⟩
 |dK B=>obtain⟨z,y,E,r,ob,g,i,e,c⟩:=x;exact⟨z,y,E,r,ob,g,i,k _ _ (.inl rfl) e,c⟩
 |dT B=>
  obtain⟨z,y,xs,r,ob,g,i,e,c⟩:=x;exact⟨z,y,xs,Paired.C9 r λp q z=>⟨z.1,D _ _ z.2.1,z.2.2⟩,ob,g,i,k _ _ (.inl rfl) e,c⟩
 |set S n=>obtain⟨ob,g,i,t,e,c⟩:=x;exact⟨ob,g,i,t,k _ _ (.inl rfl) e,c⟩
 |ins C L fs=>
  obtain⟨d,z,F,e,l,⟨m,g,i,G,c⟩,r⟩:=x;exact⟨I _ d,z,F,k _ _ (.inl rfl) e,l,⟨m,g,i,k _ _ (.inr d) G,c⟩,r⟩
 |own y=>obtain⟨ob,e⟩:=x;exact⟨ob,k _ _ (.inl rfl) e⟩
 |xd fs=>obtain⟨l,⟨m,g,i,e,c⟩,r⟩:=x;exact⟨l,⟨m,g,i,k _ _ (.inl rfl) e,c⟩,r⟩
 |rng M K=>obtain⟨t,u,v,e⟩:=x;exact⟨t,u,v,k _ _ (.inl rfl) e⟩
 |frz ob u J=>obtain⟨e,q⟩:=x;exact⟨k _ _ (.inl rfl) e,J q⟩
 |tbl s=>
  have e:h.get? a=some { cls:=.none,data:=.fields s }:=x;show h'.get? a=some { cls:=.none,data:=.fields s };exact k a _ (.inl rfl) e
 |met f y=>
  have e:h.get? a=some (methodObj (.ref f)<|.ref y):=x;show h'.get? a=some (methodObj (.ref f)<|.ref y);exact k a _ (.inl rfl) e
 |ext φ=>obtain⟨p,⟨o,e⟩,A⟩:=x;exact⟨A _ _ p λo q=>k _ _ (.inl rfl) q,⟨o,k _ _ (.inl rfl) e⟩,A⟩
def gM.lt(x:gM P w H h)(e:H a=some o):a<h.objs.size:=(x a o e).lt
def gM.fresh(x:gM P w H h)(e:h.objs.size<=a):H a=none:=by
 cases q:H a with
 |none=>rfl
 |some u=>exact absurd (Rp (x.lt q) e)<|Uy _
def gM.kept(x:gM P w H h)(k:∀b u,h.get? b=some u->h'.get? b=some u):gM P w H h':=λa o e=>
 (x a o e).gh (λb u _ q=>k b u q) (λ_ q=>q) λ_ _ q=>q
def gM.laid(x:gM P w H h)(k:∀b u,h.get? b=some u->h'.get? b=some u)(i:h.objs.size<=a)(new:cV P w (upd H a o) h' a o):gM P w (upd H a o) h':=λb u e=>by
 have g:=x.fresh i;by_cases f:b=a
 ·subst f;rw[cE]at e;cases e;exact new
 ·rw[cG f]at e
  exact(x b u e).gh (λc v _ q=>k c v q) (λc q=>by rw[cG<|cF q g];exact q) λc j q=>by rw[cG<|cF q g];exact q
def Rd(H:Hp)(a:Xg)(u:HO):Prop:=H a=some u\/∃o,H a=some (.frz o u)
def Rd.ok(r:Rd H a u)(x:gM P w H h):cV P w H h a u:=by
 obtain r|⟨o,r⟩:=r
 ·exact x a u r
 ·obtain⟨_,q⟩:=x a _ r
  exact q
def M9:Xk HO->Prop
 |some (.lst _)=>True
 |some (.dK _)=>True
 |some (.dT _)=>True
 |some (.set _ _)=>True
 |some (.ins _ _ _)=>True
 |some (.ext _)=>True
 |_=>False
def gM.write(ok:gM P w H h)(i:M9 (H x))(he:e=x\/H e=some (.own x))(k:∀b u,b≠e->h.get? b=some u->h'.get? b=some u)(l:∃u,h'.get? e=some u)
  (new:cV P w (upd H x o') h' x o'):gM P w (upd H x o') h':=λb u q=>by
 have a:∀c y,H c=some (.own y)->c≠x:=λc y r z=>by subst z;rw[r]at i;exact i
 by_cases j:b=x
 ·subst j;rw[cE]at q;cases q;exact new
 ·rw[cG j]at q
  by_cases f:b=e
  ·have n:H b=some (.own x):=by
    obtain z|z:=he
    ·grind
    ·grind
   rw[q]at n;cases n;obtain⟨v,o⟩:=l;exact⟨v,by rw[f];exact o⟩
  ·refine(ok b u q).gh (λc v g r=>k c v ?_ r) (λc r=>by rw[cG<|a c b r];exact r) λc m r=>by rw[cG<|(λc m r z=>by subst z;rw[r]at i;exact i) c m r];exact r
   obtain rfl|g:=g
   ·exact f
   ·rintro rfl
    obtain z|z:=he
    ·exact a c b g z
    ·rw[g]at z;cases z;exact j rfl
structure Un(fs ex:Xm Xg)(H H':Hp)(h h':Heap):Prop where
 keep:∀b o,h.get? b=some o->H b=none->b ∉ fs->b ∉ ex->h'.get? b=some o
 slot:∀b o,h.get? b=some o->H b=none->b∈fs->b ∉ ex->∃sl,h'.get? b=some { o with slots:=sl }
 free:∀b o,h.get? b=some o->H b=none->b ∉ ex->H' b=none
 there:∀b o,h.get? b=some o->b ∉ ex->∃o',h'.get? b=some o'
 tups:∀b xs,H b=some (.tup xs)->H' b=some (.tup xs)
 frzs:∀b o u,H b=some (.frz o u)->H' b=some (.frz o u)
 tbls:∀b ps,H b=some (.tbl ps)->∃more,H' b=some (.tbl (ps++more))
def Un.any(u:Un fs ex H H1 h h1)(q:h.get? b=some ob)(n:H b=none)(a:b ∉ ex):∃sl,h1.get? b=some { ob with slots:=sl }:=by
 by_cases e:b∈fs
 ·exact u.slot b ob q n e a
 ·exact⟨ob.slots,u.keep b ob q n e a⟩
def Un.trans(a:Un fs ex H H1 h h1)(b:Un fs ex H1 H2 h1 h2):Un fs ex H H2 h h2 where
 keep:=λc ob q n i e=>b.keep c ob (a.keep c ob q n i e) (a.free c ob q n e) i e
 slot:=λc ob q n i e=>by
  obtain⟨sl,f⟩:=a.slot c ob q n i e;obtain⟨l,j⟩:=b.slot c _ f (a.free c ob q n e) i e;exact⟨l,j⟩
 free:=λc ob q n e=>by
  obtain⟨m,f⟩:=a.there c ob q e;exact b.free c m f (a.free c ob q n e) e
 there:=λc ob q e=>by
  obtain⟨m,f⟩:=a.there c ob q e;exact b.there c m f e
 tups:=λc g q=>b.tups c g<|a.tups c g q
 frzs:=λc ob g q=>b.frzs c ob g<|a.frzs c ob g q
 tbls:=λc o q=>by
  obtain⟨r,f⟩:=a.tbls c o q;obtain⟨p,j⟩:=b.tbls c _ f;exact⟨r++p,by rw[j,Array.append_assoc]⟩
def Un.kept(k:∀b u,h.get? b=some u->h'.get? b=some u):Un fs ex H H h h':=
 ⟨λb ob q _ _ _=>k b ob q,λb ob q _ _ _=>⟨ob.slots,k b ob q⟩,λ_ _ _ n _=>n,λb ob q _=>⟨ob,k b ob q⟩,λ_ _ q=>q,λ_ _ _ q=>q,λ_ a q=>⟨#[],by rw[q];simp⟩⟩
def Un.refl:Un fs ex H H h h:=Un.kept λ_ _ q=>q
def Un.laid(k:∀b u,h.get? b=some u->h'.get? b=some u)(f:h.objs.size<=a)(e:H a=none):Un fs ex H (upd H a o) h h' where
 keep:=λb u q _ _ _=>k b u q
 slot:=λb u q _ _ _=>⟨u.slots,k b u q⟩
 free:=λb u q n _=>by rw[cG<|QU<|Rp (QY q) f];exact n
 there:=λb u q _=>⟨u,k b u q⟩
 tups:=λb g q=>by rw[cG<|cF q e];exact q
 frzs:=λb u g q=>by rw[cG<|cF q e];exact q
 tbls:=λb i q=>⟨#[],by rw[cG<|cF q e,q];simp⟩
def Un.write(a:M9 (H x))(he:e=x\/H e=some (.own x))(k:∀b u,b≠e->h.get? b=some u->h'.get? b=some u)(m:∃u,h'.get? e=some u):Un fs ex H (upd H x o) h h':=by
 have p:∀b,H b=none->b≠x:=λb n z=>by subst z;rw[n]at a;exact a
 have g:∀b,H b=none->b≠e:=λb n z=>by grind
 have f:∀b u,H b=some u->¬M9 (some u)->b≠x:=λb u q i z=>by subst z;rw[q]at a;exact i a
 refine⟨λb u q n _ _=>k b u (g b n) q,λb u q n _ _=>⟨u.slots,k b u (g b n) q⟩,λb u q n _=>by rw[cG<|p b n];exact n,λb u q _=>?_,
  λb l q=>by rw[cG<|f b _ q λz=>z];exact q,λb u l q=>by rw[cG<|f b _ q λz=>z];exact q,λb r q=>⟨#[],by rw[cG<|f b _ q λz=>z,q];simp⟩⟩
 by_cases j:b=e
 ·grind
 ·grind
def He(h:Heap)(H:Hp):Xm Xg:=(List.range h.objs.size).filter λa=>(H a).isSome
def uv(h:Heap)(H:Hp):Heap:=PySem.W.hideAll h<|He h H
def AN(h:Heap)(H:Hp):(uv h H).objs.size=h.objs.size:=PySem.W.hideAll_size _ _
def DR(e:h.get? b=some o)(n:H b=none):(uv h H).get? b=some o:=
 PySem.W.hideAll_get _ e λa=>by
  have q:=(QV.mp a).2;rw[n]at q;simp at q
def Ig(e:(uv h H).get? b=some o):h.get? b=some o/\H b=none:=by
 have a:=PySem.W.of_hideAll (He h H) e;refine⟨a,?_⟩;cases q:H b with
 |none=>rfl
 |some x=>
  have z:(uv h H).get? b=none:=PySem.W.hideAll_none (He h H) (QV.mpr ⟨Sk.mpr<|QY a,by simp[q]⟩);rw[z]at e;cases e
def G0(g h:Heap)(L:Xg):Xq:=(List.range h.objs.size).filterMap λa=>if a=L\/(g.get? a).isSome=true then none else(h.get? a).map λo=>(a,o)
def rest(g h:Heap)(L d:Xg):Xq:=(G0 g h L).filter λp=>decide<|p.1≠d
structure Mod(K:Frag)(mg:Xr)(base:Heap):Prop where
 kin:K.In base
 glob:base.Ns mainGlobals mg
 blt:∃mb,base.Ns builtinsNs mb/\∀x:Xn,x≠ "__name__" ->mb x=bootBuiltins x
 nolimit:base.NoLimit
structure Cx where
 prog:Xi
 w:Xj
 K:Frag
 mg:Xr
 base:Heap
 A:Xl
 N:Xm Xn
 s₀:Xh
 H₀:Hp
 env:Env
 outer:Xm Env
 stack:Xm Env
 ex:Xm Xg
 fn:Xn->Bool
 calm:Bool
 pn:Xq
 xe:Xo
def Bj(l:Xm Env):Xm Xg:=l.filterMap (·.frame)
abbrev Cx.fs(X:Cx):Xm Xg:=Bj X.outer
def OD(sc:Scope)(x:Xn):Prop:=sc.names.lookup x=some .local\/sc.names.lookup x=some .cell\/sc.names.lookup x=some .free
def Loc(sc:Scope)(x:Xn):Prop:=sc.names.lookup x=some .local\/sc.names.lookup x=some .cell
def Look(env:Env)(h:Heap)(m:Xr)(x:Xn)(u:Xf):Prop:=
 (env.kindOf x=some .local/\m x=some u)\/((env.kindOf x=some .cell\/env.kindOf x=some .free)/\∃c,env.cells.lookup x=some c/\h.IsCell c (some u))
structure Cx.Ok(X:Cx):Prop where
 mod:Mod X.K X.mg X.base
 kind:X.env.scope.kind=.function
 glob:X.env.globals=mainGlobals
 blt:X.env.builtins=builtinsNs
 above:X.s₀.heap.objs.size<=X.env.locals
 inj:∀x y c,X.env.cells.lookup x=some c->X.env.cells.lookup y=some c->x=y
 has:∀x,(X.env.kindOf x=some .cell\/X.env.kindOf x=some .free)->∃c,X.env.cells.lookup x=some c
 cab:∀x c,X.fn x=true->X.env.cells.lookup x=some c->X.s₀.heap.objs.size<=c
 hd:X.calm=true->X.A.handled=none
 frames:X.A.frames=some X.stack
 stk:X.stack=X.outer\/(X.stack=X.env::X.outer/\X.env.frame=some X.env.locals)
 exf:∀b∈X.ex,b≠X.env.locals/\∀x c,X.env.cells.lookup x=some c->c≠b
 bs:∀b o,X.base.get? b=some o->X.s₀.heap.get? b=some o/\X.H₀ b=none
 bsz:X.base.objs.size<=X.s₀.heap.objs.size
 noex:∀b o,X.base.get? b=some o->b ∉ X.ex
 exfs:∀b∈X.ex,b ∉ X.fs
 nX:X.s₀.heap.FunFrames X.base X.outer
 frf:∀b∈X.fs,X.H₀ b=none
structure Inv(X:Cx)(Xs:Xq)(σ:Xm (Xk V))(H:Hp)(s:Xh):Prop where
 ok:X.Ok
 os:s.os=X.s₀.os
 bare:AllBare s.gens
 base:Un X.fs X.ex X.H₀ H X.s₀.heap s.heap
 loc:∃m,s.heap.Ns X.env.locals m/\∀(i:Nat) (x:Xn) (v:V),X.N[i]? =some x->σ[i]? =some (some v)->OD X.env.scope x->∃u,RelV v u/\Look X.env s.heap m x u
 cell:∀x c,X.env.cells.lookup x=some c->∃v,s.heap.IsCell c v
 free:H X.env.locals=none
 freeC:∀x c,X.env.cells.lookup x=some c->H c=none
 pin:∀p∈X.pn++Xs,s.heap.get? p.1=some p.2/\H p.1=none/\p.1≠X.env.locals/\p.1 ∉ X.fs/\∀v,p.2.data≠.cell v
 hok:gM X.prog X.w H s.heap
 len:σ.length=X.N.length
section
variable {X:Cx}{H:Hp}{H':Hp}{s:Xh}{h':Heap}
def Cx.Ok.O9(ok:X.Ok)(e:X.base.get? b=some o):b ∉ X.fs:=λa=>by
 have:=(ok.nX.mem a).1;rw[e]at this;cases this
def Inv.bs(I:Inv X Xs σ H s):∀b o,X.base.get? b=some o->s.heap.get? b=some o/\H b=none:=λb o e=>
 ⟨I.base.keep b o (I.ok.bs b o e).1 (I.ok.bs b o e).2 (I.ok.O9 e)<|I.ok.noex b o e,I.base.free b o (I.ok.bs b o e).1 (I.ok.bs b o e).2<|I.ok.noex b o e⟩
def Inv.bk(I:Inv X Xs σ H s):∀b o,X.base.get? b=some o->s.heap.get? b=some o:=λb o e=>(I.bs b o e).1
def Inv.mod(I:Inv X Xs σ H s):Mod X.K X.mg X.base:=I.ok.mod
def Inv.oI(I:Inv X Xs σ H s):X.K.In s.heap:=I.ok.mod.kin.keeps I.bk
def Inv.lt(I:Inv X Xs σ H s):X.env.locals<s.heap.objs.size:=let ⟨_,a,_⟩:=I.loc;a.lt
def Inv.sz(I:Inv X Xs σ H s):X.s₀.heap.objs.size<=s.heap.objs.size:=Rn I.ok.above<|Vo I.lt
def Inv.Po(I:Inv X Xs σ H s)(h:s.heap.objs.size<=a):a ∉ X.fs:=λe=>by
 obtain⟨_,o,f,_⟩:=I.ok.nX.mem e;exact absurd (Rp (QY f)<|Rn I.sz h)<|Uy _
def Inv.J8(I:Inv X Xs σ H s):∀x c,X.env.cells.lookup x=some c->c≠X.env.locals:=λx c e z=>by
 obtain⟨v,o,g,f⟩:=I.cell x c e;obtain⟨m,⟨l,j,i,h,a,_⟩,_⟩:=I.loc;rw[z,h]at g;cases g;rw[a]at f;cases f
def Inv.nX(I:Inv X Xs σ H s):s.heap.FunFrames X.base X.outer:=by
 have all:∀(l:Xm Env),(∀b∈Bj l,b∈X.fs)->X.s₀.heap.FunFrames X.base l->s.heap.FunFrames X.base l:=by
  intro l
  induction l with
  |nil=>intro _ _;trivial
  |cons m r v=>
   intro h p;obtain⟨j,⟨L,o,g,q,n,i⟩,hr⟩:=p;have f:=h L (by unfold Bj;rw[UP,g];exact Ru);obtain⟨sl,e⟩:=I.base.slot L o n (I.ok.frf L f) f λz=>I.ok.exfs L z f;exact⟨j,⟨L,_,g,q,e,i⟩,v (λb a=>h b<|by unfold Bj;rw[UP,g];exact Ry _ a) hr⟩
 exact all X.outer (λ_ a=>a) I.ok.nX
def Inv.stack(I:Inv X Xs σ H s):s.heap.FunFrames X.base X.stack:=by
 obtain e|⟨e,a⟩:=I.ok.stk
 ·rw[e];exact I.nX
 ·rw[e]
  obtain⟨m,f,_⟩:=I.loc;refine .cons (by rw[I.ok.kind];decide) a f ?_ I.nX;exact Heap.get?_none_of_le<|Rn I.ok.bsz I.ok.above
def Inv.yW(I:Inv X Xs σ H s):∀b∈Bj X.stack,b∈X.env.locals::X.fs:=λb a=>by
 obtain e|⟨e,f⟩:=I.ok.stk
 ·grind
 ·rw[e]at a
  unfold Bj at a
  rwa [UP,f]at a
def Inv.zf(I:Inv X Xs σ H s):∀b∈Bj X.stack,H b=none:=λb a=>by
 obtain e|a:=Rf.mp (I.yW b a)
 ·rw[e];exact I.free
 ·obtain⟨_,o,f,_⟩:=I.ok.nX.mem a
  exact I.base.free b o f (I.ok.frf b a) λz=>I.ok.exfs b z a
def Inv.step{ch:Xm Xg}(I:Inv X Xs σ H s)
  (C:∀b∈ch,(b∈X.ex\/X.s₀.heap.objs.size<=b)/\b≠X.env.locals/\(∀x c,X.env.cells.lookup x=some c->c≠b)/\∀p∈X.pn++Xs,p.1≠b)
  (keep:∀b o,b≠X.env.locals->b ∉ X.fs->b ∉ ch->s.heap.get? b=some o->H b=none->h'.get? b=some o)
  (slot:∀b o,b≠X.env.locals->b∈X.fs->b ∉ ch->s.heap.get? b=some o->H b=none->∃sl,h'.get? b=some { o with slots:=sl })(free:∀b o,b ∉ ch->s.heap.get? b=some o->H b=none->H' b=none)
  (there:∀b o,b ∉ ch->s.heap.get? b=some o->∃G,h'.get? b=some G)
  (E:∀b xs,H b=some (.tup xs)->H' b=some (.tup xs))(B:∀b o u,H b=some (.frz o u)->H' b=some (.frz o u))(F:∀b ps,H b=some (.tbl ps)->∃more,H' b=some (.tbl<|ps++more))
  (ns:∀m,s.heap.Ns X.env.locals m->h'.Ns X.env.locals m)(K:gM X.prog X.w H' h')(R:AllBare g'):
  Inv X Xs σ H' { s with heap:=h',gens:=g',drawn:=d',toks:=t' }:=by
 have A:∀b o,X.s₀.heap.get? b=some o->b≠X.env.locals:=λb o e=>QU<|Rp (QY e) I.ok.above;have h:∀b o,X.s₀.heap.get? b=some o->b ∉ X.ex->b ∉ ch:=λb o e a j=>by
  obtain z|z:=(C b j).1
  ·exact a z
  ·exact absurd (Rp (QY e) z)<|Uy _
 have cellK:∀x c,X.env.cells.lookup x=some c->∀v,s.heap.IsCell c v->h'.IsCell c v:=λx c e v ⟨o,y,J⟩=>by
  have f:c ∉ ch:=λz=>(C c z).2.2.1 x c e rfl;by_cases O:c∈X.fs
  ·obtain⟨sl,q⟩:=slot c o (I.J8 x c e) O f y (I.freeC x c e)
   exact⟨_,q,J⟩
  ·exact⟨o,keep c o (I.J8 x c e) O f y<|I.freeC x c e,J⟩
 refine⟨I.ok,I.os,R,⟨λb o e n j a=>?_,λb o e n j a=>?_,λb o e n a=>?_,λb o e a=>?_,λb xs e=>E b xs<|I.base.tups b xs e,λb o xs e=>B b o xs<|I.base.frzs b o xs e,λb ps e=>?_⟩,?_,λx c e=>?_,?_,λx c e=>?_,λp N=>?_,K,I.len⟩
 ·exact keep b o (A b o e) j (h b o e a) (I.base.keep b o e n j a)<|I.base.free b o e n a
 ·obtain⟨sl,g⟩:=I.base.slot b o e n j a
  obtain⟨L,D⟩:=slot b _ (A b o e) j (h b o e a) g<|I.base.free b o e n a;exact⟨L,D⟩
 ·obtain⟨G,g⟩:=I.base.there b o e a
  exact free b G (h b o e a) g<|I.base.free b o e n a
 ·obtain⟨G,g⟩:=I.base.there b o e a
  exact there b G (h b o e a) g
 ·obtain⟨T,g⟩:=I.base.tbls b ps e
  obtain⟨Q,D⟩:=F b _ g;exact⟨T++Q,by rw[D,Array.append_assoc]⟩
 ·obtain⟨m,U,S⟩:=I.loc
  refine⟨m,ns m U,λi x v g D W=>?_⟩;obtain⟨u,r,l⟩:=S i x v g D W;refine⟨u,r,?_⟩;obtain l|⟨k,c,e,z⟩:=l
  ·exact .inl l
  ·exact .inr ⟨k,c,e,cellK x c e _ z⟩
 ·obtain⟨v,z⟩:=I.cell x c e
  exact⟨v,cellK x c e v z⟩
 ·obtain⟨m,⟨o,_,_,y,_⟩,_⟩:=I.loc
  exact free _ o (λz=>(C _ z).2.1 rfl) y I.free
 ·obtain⟨v,o,y,J⟩:=I.cell x c e
  exact free c o (λz=>(C c z).2.2.1 x c e rfl) y<|I.freeC x c e
 ·obtain⟨e,n,M,P,d⟩:=I.pin p N
  have f:p.1 ∉ ch:=λz=>(C p.1 z).2.2.2 p N rfl;exact⟨keep p.1 p.2 M P f e n,free p.1 p.2 f e n,M,P,d⟩
def Inv.un{t':Nat}(I:Inv X Xs σ H s)(u:Un X.fs [] H H' s.heap h')(g:gM X.prog X.w H' h'):Inv X Xs σ H' { s with heap:=h',toks:=t' }:=by
 obtain⟨m,⟨o,v,A,h,r⟩,_⟩:=id I.loc;obtain⟨sl,l⟩:=u.any h I.free (by simp);exact I.step (g':=s.gens) (d':=s.drawn) (ch:=[]) (λ_ z=>nomatch z) (λb o _ a _ e n=>u.keep b o e n a<|by simp) (λb o _ a _ e n=>u.slot b o e n a<|by simp) (λb o _ e n=>u.free b o e n<|by simp) (λb o _ e=>u.there b o e<|by simp) u.tups u.frzs u.tbls (λy q=>by
  obtain⟨x,p,f,i,j⟩:=q;rw[h]at i;cases i;exact⟨_,p,f,l,j⟩) g I.bare
def Inv.call{ch:Xm Xg}(I:Inv X Xs σ H s)(u:Un (Bj X.stack) ch H H' s.heap h')(h:gM X.prog X.w H' h')(y:AllBare g')
  (i:∀b∈ch,(b∈X.ex\/X.s₀.heap.objs.size<=b)/\b≠X.env.locals/\(∀x c,X.env.cells.lookup x=some c->c≠b)/\∀p∈X.pn++Xs,p.1≠b):
  Inv X Xs σ H' { s with heap:=h',gens:=g',drawn:=d',toks:=t' }:=by
 obtain⟨m,⟨o,C,F,j,r⟩,_⟩:=id I.loc;obtain⟨sl,g⟩:=u.any j I.free λz=>(i _ z).2.1 rfl;exact I.step i (λb o g v a e n=>u.keep b o e n (λz=>(Rf.mp<|I.yW b z).elim g v) a) (λb o _ _ a e n=>u.any e n a) (λb o a e n=>u.free b o e n a) (λb o a e=>u.there b o e a) u.tups u.frzs u.tbls (λE B=>by
  obtain⟨D,A,f,l,q⟩:=B;rw[j]at l;cases l;exact⟨_,A,f,g,q⟩) h y
def Inv.turned{t':Nat}{it:Xg}(I:Inv X Xs σ H s)(k:∀b o,b≠it->s.heap.get? b=some o->h'.get? b=some o)(A:H it=none)(g:it≠X.env.locals)
  (j:it∈X.ex\/X.s₀.heap.objs.size<=it)(h:∀x c,X.env.cells.lookup x=some c->c≠it)(y:∀p∈X.pn++Xs,p.1≠it):Inv X Xs σ H { s with heap:=h',toks:=t' }:=by
 have f:∀b u,H b=some u->b≠it:=λb u e z=>by rw[z,A]at e;cases e
 refine I.step (g':=s.gens) (d':=s.drawn) (ch:=[it]) (λb i=>?_) (λb o _ _ a e _=>k b o (λz=>a<|by simp[z]) e) (λb o _ _ a e _=>⟨o.slots,k b o (λz=>a<|by simp[z]) e⟩) (λ_ _ _ _ n=>n)
  (λb o a e=>⟨o,k b o (λz=>a<|by simp[z]) e⟩) (λ_ _ e=>e) (λ_ _ _ e=>e) (λb D e=>⟨#[],by rw[e];simp⟩) (λm B=>?_) (λb u e=>?_) I.bare
 ·have e:b=it:=by simpa using i
  subst e;exact⟨j,g,h,y⟩
 ·obtain⟨o,w,C,l,r⟩:=B
  exact⟨o,w,C,k _ o (Tf g) l,r⟩
 ·refine(I.hok b u e).gh (λc v a q=>k c v ?_ q) (λ_ q=>q) λ_ _ q=>q
  obtain z|z:=a
  ·rw[z];exact f b u e
  ·exact f c _ z
def Inv.tok(I:Inv X Xs σ H s)(t:Nat):Inv X Xs σ H { s with toks:=t }:=I.un (h':=s.heap) (t':=t) Un.refl I.hok
def Inv.kept(I:Inv X Xs σ H s)(k:∀b u,s.heap.get? b=some u->h'.get? b=some u):Inv X Xs σ H { s with heap:=h',toks:=t' }:=I.un (Un.kept k)<|I.hok.kept k
def Inv.laid(I:Inv X Xs σ H s)(k:∀b u,s.heap.get? b=some u->h'.get? b=some u)(e:s.heap.objs.size<=a)(new:cV X.prog X.w (upd H a o) h' a o):
  Inv X Xs σ (upd H a o) { s with heap:=h',toks:=t' }:=I.un (Un.laid k e<|I.hok.fresh e)<|I.hok.laid k e new
def Inv.write(I:Inv X Xs σ H s)(f:M9 (H x))(he:e=x\/H e=some (.own x))(k:∀b u,b≠e->s.heap.get? b=some u->h'.get? b=some u)(a:∃u,h'.get? e=some u)
  (new:cV X.prog X.w (upd H x o) h' x o):Inv X Xs σ (upd H x o) { s with heap:=h',toks:=t' }:=I.un (Un.write f he k a)<|I.hok.write f he k a new
def Inv.zN(I:Inv X Xs σ H s)(h:∀p∈pins',s.heap.get? p.1=some p.2/\H p.1=none/\p.1≠X.env.locals/\p.1 ∉ X.fs/\∀v,p.2.data≠.cell v):Inv X pins' σ H s:=
 ⟨I.ok,I.os,I.bare,I.base,I.loc,I.cell,I.free,I.freeC,λp a=>(Rg.mp a).elim (λz=>I.pin p<|Ra _ z)<|h p,I.hok,I.len⟩
def vK{N:Xm Xn}(f:N.Nodup){i j:Nat}{x:Xn}(a:N[i]? =some x)(b:N[j]? =some x):i=j:=by
 obtain⟨l,e⟩:=gI0.mp a;obtain⟨h,g⟩:=gI0.mp b;exact(TJ f).mp (e.trans g.symm)
def B8{M:Model}{A:Xl}{E:Xo}{i:Nat}{x:Xn}{v:V}{u:Xf}{Q:Xp}(I:Inv X Xs σ H s)(hN:X.N.Nodup)(U:X.N[i]? =some x)(B:Loc X.env.scope x)(r:RelV v u)
  (h:∀s',Inv X Xs (σ.set i<|some v) H s'->(∃a,Heap.SameBut a s.heap s'.heap/\(a=X.env.locals\/X.env.cells.lookup x=some a))->Q () s')(hf:X.fn x=true\/X.env.scope.names.lookup x=some .local:=by first|exact .inl rfl|exact .inr rfl|assumption):wpAny M A (storeName X.env x u) Q E s:=by
 obtain⟨m,hn,hl⟩:=id I.loc;have G:i<σ.length:=by rw[I.len];exact(gI0.mp U).1
 have J8:=I.J8;have tracked:∀{a:Xg}{O:Heap},(∃o,s.heap.get? a=some o/\H a=none)->Heap.SameBut a s.heap O->gM X.prog X.w H O:=λ{a O} ha f b ob e=>by
  obtain⟨_,_,C⟩:=ha;refine(I.hok b ob e).gh (λc W l q=>(f.2 c ?_).trans q) (λ_ q=>q) λ_ _ q=>q;rintro rfl;obtain rfl|l:=l
  ·rw[C]at e;cases e
  ·rw[C]at l;cases l
 obtain F|F:=B
 ·refine wpAny_storeName_local F hn (λO ab f=>?_) (by rw[I.ok.kind];rfl)
  obtain⟨oL,_,_,ac,_⟩:=id hn;refine h _ ⟨I.ok,I.os,I.bare,⟨λb o e n J B=>?_,λb o e n J B=>?_,I.base.free,λb o e B=>?_,I.base.tups,I.base.frzs,I.base.tbls⟩,⟨_,ab,λj y v' g D e3=>?_⟩,λy c e=>?_,I.free,I.freeC,λp hp=>?_,tracked ⟨oL,ac,I.free⟩ f,by simpa using I.len⟩ ⟨_,f,.inl rfl⟩
  ·exact(f.2 b<|QU<|Rp (QY e) I.ok.above).trans (I.base.keep b o e n J B)
  ·obtain⟨sl,g⟩:=I.base.slot b o e n J B
   exact⟨sl,(f.2 b<|QU<|Rp (QY e) I.ok.above).trans g⟩
  ·obtain⟨o',g⟩:=I.base.there b o e B
   exact⟨o',(f.2 b<|QU<|Rp (QY e) I.ok.above).trans g⟩
  ·by_cases K:j=i
   ·subst K
    rw[U]at g;cases g;rw[Ww G]at D;cases D;exact⟨u,r,.inl ⟨F,by simp⟩⟩
   ·rw[WZ<|Tf K]at D
    obtain⟨u',r',q⟩:=hl j y v' g D e3;refine⟨u',r',?_⟩;obtain ⟨k,e⟩|⟨k,c,e,z⟩:=q
    ·refine .inl ⟨k,?_⟩
     have:y≠x:=λe=>K<|vK hN g<|e ▸ U;simp[this,e]
    ·exact .inr ⟨k,c,e,z.sameBut f<|J8 y c e⟩
  ·obtain⟨W,z⟩:=I.cell y c e
   exact⟨W,z.sameBut f<|J8 y c e⟩
  ·obtain⟨e,n,Z,nf,d⟩:=I.pin p hp
   exact⟨(f.2 p.1 Z).trans e,n,Z,nf,d⟩
 ·have L:X.fn x=true:=by
   obtain z|z:=hf
   ·exact z
   ·rw[z]at F;cases F
  obtain⟨c,l⟩:=I.ok.has x<|.inl F;obtain⟨W,z⟩:=I.cell x c l;refine wpAny_storeName_cell I.ok.kind F l z λO T f=>?_;obtain⟨oc,P,R⟩:=id z;refine h { s with heap:=O } ⟨I.ok,I.os,I.bare,⟨λb o e n J B=>?_,λb o e n J B=>?_,I.base.free,λb o e B=>?_,I.base.tups,I.base.frzs,I.base.tbls⟩,⟨m,hn.sameBut f<|Tf<|J8 x c l,λj y v' g D e3=>?_⟩,λy Y e=>?_,I.free,I.freeC,λp hp=>?_,tracked ⟨oc,P,I.freeC x c l⟩ f,by simpa using I.len⟩ ⟨c,f,.inr l⟩
  ·exact(f.2 b<|QU<|Rp (QY e)<|I.ok.cab x c L l).trans (I.base.keep b o e n J B)
  ·obtain⟨sl,g⟩:=I.base.slot b o e n J B
   exact⟨sl,(f.2 b<|QU<|Rp (QY e)<|I.ok.cab x c L l).trans g⟩
  ·obtain⟨o',g⟩:=I.base.there b o e B
   exact⟨o',(f.2 b<|QU<|Rp (QY e)<|I.ok.cab x c L l).trans g⟩
  ·by_cases K:j=i
   ·subst K
    rw[U]at g;cases g;rw[Ww G]at D;cases D;exact⟨u,r,.inr ⟨.inl F,c,l,T⟩⟩
   ·rw[WZ<|Tf K]at D
    obtain⟨u',r',q⟩:=hl j y v' g D e3;refine⟨u',r',?_⟩;obtain q|⟨k,Y,e,z'⟩:=q
    ·exact .inl q
    ·refine .inr ⟨k,Y,e,z'.sameBut f ?_⟩
     rintro rfl;exact K<|vK hN g<|I.ok.inj _ _ _ e l ▸ U
  ·by_cases S:Y=c
   ·subst S;exact⟨_,T⟩
   ·obtain⟨w2,z2⟩:=I.cell y Y e
    exact⟨w2,z2.sameBut f S⟩
  ·obtain⟨e,n,Z,nf,d⟩:=I.pin p hp
   refine⟨(f.2 p.1 ?_).trans e,n,Z,nf,d⟩;intro q;rw[q,P]at e;exact d W (by rw[<-(Ri e)];exact R)
def wN(I:Inv X Xs σ H s)(e:X.N.Nodup)(f:X.N[i]? =some x)(g:Loc X.env.scope x)(r:RelV v u)
  (h:∀s',Inv X Xs (σ.set i<|some v) H s'->Q () s')(hf:X.fn x=true\/X.env.scope.names.lookup x=some .local:=by first|exact .inl rfl|exact .inr rfl|assumption):wpAny M A (storeName X.env x u) Q E s:=
 B8 I e f g r (λs' a _=>h s' a) hf
def Inv.Dr(I:Inv X Xs σ H s)(g:s'.os=s.os)(u:Un (Bj X.stack) ch H H' s.heap s'.heap)(a:gM X.prog X.w H' s'.heap)(h:AllBare s'.gens)
  (f:∀b∈ch,(b∈X.ex\/X.s₀.heap.objs.size<=b)/\b≠X.env.locals/\(∀x c,X.env.cells.lookup x=some c->c≠b)/\∀p∈X.pn++Xs,p.1≠b):Inv X Xs σ H' s':=by
 obtain⟨i,g',d',t',j⟩:=s';have e:=g;subst e;exact I.call (g':=g') (t':=t') (d':=d') u a h f
end
abbrev XK:=Xf->Xk Xg->Hp->Prop
abbrev St:=Xm (Xk V)
abbrev VK:=V->Hp->Prop
abbrev TE:=St->Hp->VK->Prop
abbrev TT:=St->Hp->(Bool->Hp->Prop)->Prop
abbrev TA:=St->Hp->(Xm V->Hp->Prop)->Prop
structure Ends where
 nx:St->Hp->Prop
 rt:VK
 bk:St->Hp->Prop:=λ_ _=>False
 ct:St->Hp->Prop:=λ_ _=>False
abbrev TS:=Ends->St->Hp->Prop
inductive EP(X:Cx)(a:Xq)(σ:St)(Q:VK)(u:Xf)(s':Xh):Prop
 |mk(v:V)(H':Hp)(I:Inv X a σ H' s')(r:RelV v u)(q:Q v H')
inductive TP(X:Cx)(a:Xq)(σ:St)(Q:Bool->Hp->Prop)(b:Bool)(s':Xh):Prop
 |mk(H':Hp)(I:Inv X a σ H' s')(q:Q b H')
inductive AP(X:Cx)(a:Xq)(σ:St)(Q:Xm V->Hp->Prop)(us:Xm Xf)(s':Xh):Prop
 |mk(vs:Xm V)(H':Hp)(I:Inv X a σ H' s')(r:Vals vs us)(q:Q vs H')
inductive SN(X:Cx)(e:Xq)(k:St->Hp->Prop)(s':Xh):Prop
 |mk(a:St)(H':Hp)(I:Inv X e a H' s')(q:k a H')
def SP(X:Cx)(a:Xq)(D:Ends)(f:Flow)(s':Xh):Prop:=
 match f with
 |.next=>SN X a D.nx s'
 |.brk=>SN X a D.bk s'
 |.cont=>SN X a D.ct s'
 |.ret u=>∃v e g,Inv X a e g s'/\RelV v u/\D.rt v g
def PE(X:Cx)(e:Expr)(t:TE):Prop:=
 ∀(a:Xq) (s:Xh) (σ:St) (H:Hp) (Q:VK),Inv X a σ H s->t σ H Q->wpAny (model X.prog X.w) X.A (eval e X.env) (EP X a σ Q) X.xe s
def PT(X:Cx)(e:Expr)(t:TT):Prop:=
 ∀(a:Xq) (s:Xh) (σ:St) (H:Hp) (Q:Bool->Hp->Prop),Inv X a σ H s->t σ H Q->wpAny (model X.prog X.w) X.A (isTrue e X.env<|eval e X.env) (TP X a σ Q) X.xe s
def PW(X:Cx)(e:Expr)(t:TT):Prop:=
 ∀(f:Sem Xf) (a:Xq) (s:Xh) (σ:St) (H:Hp) (Q:Bool->Hp->Prop),Inv X a σ H s->t σ H Q->wpAny (model X.prog X.w) X.A (isTrue e X.env f) (TP X a σ Q) X.xe s
def PW.pt(h:PW X e t):PT X e t:=h _
def PA(X:Cx)(es:Xm Expr)(t:TA):Prop:=
 ∀(pos:Pos) (a:Xq) (s:Xh) (σ:St) (H:Hp) (Q:Xm V->Hp->Prop),Inv X a σ H s->t σ H Q->wpAny (model X.prog X.w) X.A (spliced<|backTo pos<|starEach es X.env) (AP X a σ Q) X.xe s
def PS(X:Cx)(st:Stmt)(t:TS):Prop:=
 ∀(a:Xq) (s:Xh) (σ:St) (H:Hp) (D:Ends),Inv X a σ H s->t D σ H->wpAny (model X.prog X.w) X.A (exec st X.env) (SP X a D) X.xe s
def yR(X:Cx)(st:Xm Stmt)(t:TS):Prop:=
 ∀(a:Xq) (s:Xh) (σ:St) (H:Hp) (D:Ends),Inv X a σ H s->t D σ H->wpAny (model X.prog X.w) X.A (execs st X.env) (SP X a D) X.xe s
def cX(h:wpAny M A t Q E s)(e:∀a s,Q a s->Q' a s):wpAny M A t Q' E s:=RQ h e λ_ _ x=>x
section
variable {X:Cx}
inductive Py(i:Nat)(σ:St)(H:Hp)(Q:VK):Prop
 |mk(v:V)(h:σ[i]? =some (some v))(q:Q v H)
def je(i:Nat):TE:=λσ H Q=>Py i σ H Q
inductive Og(x:V)(H:Hp)(Q:Bool->Hp->Prop):Prop
 |mk(c:Bool)(h:x=.bl c)(q:Q c H)
def tC(v:V):TE:=λ_ H Q=>Q v H
def mV (z:X.N[i]? =some x) (w:OD X.env.scope x) (hd:(x==("__debug__" :Xn))=false:=by decide) (y:(x==("__classdict__" :Xn))=false:=by decide):PE X (.Name x pos) (je i):=by
 intro n s σ H Q I h;obtain⟨v,e,h⟩:=h;obtain⟨m,p,o⟩:=I.loc;obtain⟨u,r,l⟩:=o i x v z e w;have f:EP X n σ Q u s:=⟨v,H,I,r,h⟩;obtain ⟨g,q⟩|⟨g,c,j,a⟩:=l
 ·exact wpAny_Name (wpAny_loadName_local I.ok.kind g p q f) hd
 ·obtain g|g:=g
  ·exact wpAny_Name (wpAny_loadName_cell I.ok.kind g j a f) hd
  ·exact wpAny_Name (wpAny_loadName_free I.ok.kind g j a f y) hd
def nO{i j pos}:PE X (.Constant (.int i) j pos) (tC<|.int i):=λ_ _ _ H _ I h=>wpAny_Constant_int ⟨.int i,H,I.tok _,⟨_,rfl⟩,h⟩
def IV{b j pos}:PE X (.Constant (.bool b) j pos) (tC<|.bl b):=λ_ _ _ H _ I h=>Constant_bool ⟨.bl b,H,I,rfl,h⟩
def K4{j pos}:PE X (.Constant .none j pos) (tC .non):=λ_ _ _ H _ I h=>Constant_none ⟨.non,H,I,rfl,h⟩
def yf{x j pos}:PE X (.Constant (.str x) j pos) (tC<|.str x):=λ_ _ _ H _ I h=>Calls.Constant_str ⟨.str x,H,I.tok _,⟨_,rfl⟩,h⟩
def Gl(X:Cx)(x:Xn):Prop:=X.env.kindOf x=some .globalImplicit
def o6(I:Inv X Xs σ H s)(a:Gl X x)(hm:X.mg x=some u)(h:Q u s)
  (hd:(x==("__debug__" :Xn))=false:=by decide):wpAny (model X.prog X.w) X.A (eval (.Name x pos) X.env) Q E s:=
 W0 I.ok.kind a (Calls.loadGlobal_global (by rw[I.ok.glob];exact I.mod.glob.keeps I.bk) hm h) hd
def jd(I:Inv X Xs σ H s)(g:Gl X x)(hm:X.mg x=none)(a:bootBuiltins x=some u)(h:Q u s)
  (i:x≠ "__name__" :=by decide) (hd:(x==("__debug__" :Xn))=false:=by decide):wpAny (model X.prog X.w) X.A (eval (.Name x pos) X.env) Q E s:=by
 obtain⟨j,f,e⟩:=I.mod.blt;exact W0 I.ok.kind g (Calls.loadGlobal_builtin (by rw[I.ok.glob];exact I.mod.glob.keeps I.bk) hm (by rw[I.ok.blt];exact f.keeps I.bk) ((e x i).trans a) h) hd
def oZ (a:Gl X x) (hm:X.mg x=some u) (r:RelV v u) (hd:(x==("__debug__" :Xn))=false:=by decide):PE X (.Name x pos) (tC v):=
 λ_ _ _ H _ I h=>o6 I a hm ⟨v,H,I,r,h⟩ hd
def oT (e:Gl X x) (hm:X.mg x=none) (a:bootBuiltins x=some u) (r:RelV v u) (f:x≠ "__name__" :=by decide) (hd:(x==("__debug__" :Xn))=false:=by decide):PE X (.Name x pos) (tC v):=
 λ_ _ _ H _ I h=>jd I e hm a ⟨v,H,I,r,h⟩ f hd
variable {tb:TE}{pos:Pos}
def PC(X:Cx)(op:CmpOp)(a b:Expr)(t:TE):Prop:=
 ∀(g:Xq) (s:Xh) (σ:St) (H:Hp) (Q:VK),Inv X g σ H s->t σ H Q->
  wpAny (model X.prog X.w) X.A (eval a X.env) (λv f=>wpAny (model X.prog X.w) X.A (eval b X.env) (λu e=>wpAny (model X.prog X.w) X.A (compareOp op v u) (EP X g σ Q) X.xe e) X.xe f) X.xe s
def tB(t:TE):TT:=λσ H Q=>t σ H λx H1=>Og x H1 Q
def J5(h:PC X op a b t)(g:behindInMarks op b=false:=by first|exact nobehind _ (by decide) (by decide)|rfl):PE X (.Compare a [op] [b] pos) t:=λf s σ H Q I e=>wpAny_Compare1 (h f s σ H Q I e) g
def uU(h:PC X op a b t)(f:behindInMarks op b=false:=by first|exact nobehind _ (by decide) (by decide)|rfl):PT X (.Compare a [op] [b] pos) (tB t):=by
 intro i s σ H Q I m;refine wpAny_isTrue_Compare1 (cX (h i s σ H _ I m) λv o f=>cX f λu n g=>cX g λc p e=>?_) f;obtain⟨x,H1,l,j,q1⟩:=e;obtain⟨d,rfl,q⟩:=q1;cases j;exact RG ⟨H1,l,q⟩
def yI(h:PE X e t)(he:∀f,isTrue e X.env f=(do let v <-f;standAt e.pos;holding [v] (truthy v)):=by intro _;rfl):PT X e (tB t):=by
 intro i s σ H Q I g;refine isTrue_plain (cX (h i s σ H _ I g) λv m a=>?_)<|he _;obtain⟨x,H1,l,j,q1⟩:=a;obtain⟨d,rfl,q⟩:=q1;cases j;exact RG ⟨H1,l,q⟩
variable {rest:Xm Expr}
def Jq(t u:TT):TT:=λσ H Q=>t σ H λc H1=>if c=true then u σ H1 Q else Q false H1
def PF(t u:TT):TT:=λσ H Q=>t σ H λc H1=>if c=true then Q true H1 else u σ H1 Q
def N2(t:TT):TT:=λσ H Q=>t σ H λc H1=>Q (!c) H1
def GO(f:PT X a tA):PW X (.BoolOp .And [a] pos) tA:=by
 intro i g s σ H Q I h;refine isTrue_and<|cX (f g s σ H Q I h) λc j e=>?_;cases c with
 |true=>exact isTrue_and_nil e
 |false=>exact e
def DO(f:PT X a tA):PW X (.BoolOp .Or [a] pos) tA:=by
 intro i g s σ H Q I h;refine isTrue_or<|cX (f g s σ H Q I h) λc j e=>?_;cases c with
 |false=>exact isTrue_or_nil e
 |true=>exact e
def Kv(g:PT X a tA)(l:PW X (.BoolOp .And (b::rest) pos) tB'):PW X (.BoolOp .And (a::b::rest) pos) (Jq tA tB'):=by
 intro i e s σ H Q I h;refine isTrue_and<|cX (g e s σ H _ I h) λc j ⟨H1,f,q1⟩=>?_;cases c with
 |true=>exact l i e j σ H1 Q f q1
 |false=>exact⟨H1,f,q1⟩
def IY(g:PT X a tA)(l:PW X (.BoolOp .Or (b::rest) pos) tB'):PW X (.BoolOp .Or (a::b::rest) pos) (PF tA tB'):=by
 intro i e s σ H Q I h;refine isTrue_or<|cX (g e s σ H _ I h) λc j ⟨H1,f,q1⟩=>?_;cases c with
 |true=>exact⟨H1,f,q1⟩
 |false=>exact l i e j σ H1 Q f q1
def xN(e:PT X a tA):PT X (.UnaryOp .Not a pos) (N2 tA):=by
 intro f s σ H Q I h;exact isTrue_not<|cX (e f s σ H (λc H1=>Q (!c) H1) I h) λc i q=>q.casesOn λH1 g q1=>⟨H1,g,q1⟩
def Iv(ta tb:TE):TE:=λσ H Q=>ta σ H λx H1=>Og x H1 λc a=>if c=true then tb σ a Q else Q (.bl false) a
def Hc(ta tb:TE):TE:=λσ H Q=>ta σ H λx H1=>Og x H1 λc a=>if c=true then Q (.bl true) a else tb σ a Q
def Nv(ta:TE):TE:=λσ H Q=>ta σ H λx H1=>Og x H1 λc a=>Q (.bl<|!c) a
def ue{op}(h:PE X a t):PE X (.BoolOp op [a] pos) t:=λf s σ H Q I e=>BoolOp_one<|h f s σ H Q I e
def tH(i:PE X a ta)(m:PE X (.BoolOp .And (b::rest) pos) tb):PE X (.BoolOp .And (a::b::rest) pos) (Iv ta tb):=by
 intro f s σ H Q I h;refine BoolOp_and<|cX (i f s σ H _ I h) λv l e=>?_;obtain⟨x,H1,g,j,q1⟩:=e;obtain⟨c,rfl,q1⟩:=q1;cases j;refine RG ?_;cases c with
 |true=>exact m f l σ H1 Q g q1
 |false=>exact⟨.bl false,H1,g,rfl,q1⟩
def Af(i:PE X a ta)(m:PE X (.BoolOp .Or (b::rest) pos) tb):PE X (.BoolOp .Or (a::b::rest) pos) (Hc ta tb):=by
 intro f s σ H Q I h;refine BoolOp_or<|cX (i f s σ H _ I h) λv l e=>?_;obtain⟨x,H1,g,j,q1⟩:=e;obtain⟨c,rfl,q1⟩:=q1;cases j;refine RG ?_;cases c with
 |false=>exact m f l σ H1 Q g q1
 |true=>exact⟨.bl true,H1,g,rfl,q1⟩
def Lu(f:PE X a ta):PE X (.UnaryOp .Not a pos) (Nv ta):=by
 intro g s σ H Q I h;refine UnaryOp_<|cX (f g s σ H _ I h) λv l e=>?_;obtain⟨x,H1,j,i,q1⟩:=e;obtain⟨c,rfl,q1⟩:=q1;cases i;exact not_of<|RG ⟨.bl<|!c,H1,j,rfl,q1⟩
end
def cN(K:Frag)(H:Hp)(a:Xg)(xs:Xm V):Prop:=
 Rd H a (.lst xs)\/
  ∃(o:Obj) (e:Array Xf) (n:Nat),K.lookup a=some o/\o.cls=.type "list" /\o.dict=none/\o.data=.seq e n/\e.size<=sizeLine/\Vals xs e.toList
def fh(K:Frag)(H:Hp)(a:Xg)(xs:Xm V):Prop:=
 Rd H a (.tup xs)\/
  ∃(o:Obj) (e:Array Xf) (n:Nat),K.lookup a=some o/\o.cls=.type "tuple" /\o.data=.seq e n/\e.size<=sizeLine/\Vals xs e.toList
def PB:Xf->Xk V
 |.none=>some .non
 |.bool b=>some<|.bl b
 |.int i _=>some<|.int i
 |.str x _=>some<|.str x
 |.bytes b _=>some<|.byt b
 |.float b _=>some<|.flt b
 |.ref a=>some<|.ref a
 |.type n=>some<|.ty n
 |_=>none
def RelV.abs(r:RelV x u):PB u=some x:=by
 cases x with
 |non=>cases r;rfl
 |bl _=>cases r;rfl
 |int _=>obtain⟨t,rfl⟩:=r;rfl
 |str _=>obtain⟨t,rfl⟩:=r;rfl
 |byt _=>obtain⟨t,rfl⟩:=r;rfl
 |flt _=>obtain⟨t,rfl⟩:=r;rfl
 |ref _=>cases r;rfl
 |ty _=>cases r;rfl
def RelV.inj(r:RelV x u)(q:RelV y u):x=y:=Ri<|r.abs.symm.trans q.abs
theorem Vals.inj:∀{xs ys:Xm V}{us:Xm Xf},Vals xs us->Vals ys us->xs=ys
 |_,_,_,.nil,.nil=>rfl
 |_,_,_,.cons r t,.cons r' t'=>by rw[r.inj r',Vals.inj t t']
def cN.of{K:Frag}(h:H a=some (.lst xs)):cN K H a xs:=.inl<|.inl h
def fh.of{K:Frag}(h:H a=some (.tup xs)):fh K H a xs:=.inl<|.inl h
def Inv.list(I:Inv X Xs σ H s)(h:cN X.K H a xs):∃f:Xm Xf,Vals xs f/\PlainL s.heap a f.toArray/\xs.length<=sizeLine:=by
 obtain h|⟨o,f,n,i,l,g,j,m,r⟩:=h
 ·obtain⟨z,f,n,r,e⟩:=h.ok I.hok
  exact⟨f,r,⟨_,n,e,rfl,rfl,rfl⟩,z⟩
 ·refine⟨f.toList,r,⟨o,n,I.oI a o i,l,g,by simpa using j⟩,?_⟩
  have e:=r.length;simp only[length_toList]at e;lia
def Inv.tuple(I:Inv X Xs σ H s)(h:fh X.K H a xs):∃f:Xm Xf,Vals xs f/\IsTup s.heap a f.toArray/\xs.length<=sizeLine:=by
 obtain h|⟨o,f,n,g,j,i,l,r⟩:=h
 ·obtain⟨z,f,r,p⟩:=h.ok I.hok
  exact⟨f,r,p,z⟩
 ·refine⟨f.toList,r,⟨o,I.oI a o g,j,n,by simpa using i⟩,?_⟩
  have e:=r.length;simp only[length_toList]at e;lia
def Inv.xw(I:Inv X Xs σ H s)(h:cN X.K H a xs)(h':cN X.K H a ys):xs=ys:=by
 obtain⟨l,r,⟨o,n,e,_,_,d⟩,_⟩:=I.list h;obtain⟨j,i,⟨p,m,g,_,_,f⟩,_⟩:=I.list h';rw[e]at g;cases g;rw[d]at f;injection f with d1 _
 have:l=j:=by simpa using RH Array.toList d1
 subst this;exact r.inj i
def Inv.AX(I:Inv X Xs σ H s)(h:fh X.K H a xs)(h':fh X.K H a ys):xs=ys:=by
 obtain⟨l,r,⟨o,e,_,n,d⟩,_⟩:=I.tuple h;obtain⟨j,i,⟨p,g,_,m,f⟩,_⟩:=I.tuple h';rw[e]at g;cases g;rw[d]at f;injection f with d1 _
 have:l=j:=by simpa using RH Array.toList d1
 subst this;exact r.inj i
abbrev Cx.rh(X:Cx)(E:Xo):Cx:={ X with xe:=E }
abbrev Cx.Mu(X:Cx):Cx:=X.rh λ_ _=>False
def Cx.Ok.rh{X:Cx}(ok:X.Ok)(E:Xo):(X.rh E).Ok:=
 ⟨ok.mod,ok.kind,ok.glob,ok.blt,ok.above,ok.inj,ok.has,ok.cab,ok.hd,ok.frames,ok.stk,ok.exf,ok.bs,ok.bsz,ok.noex,ok.exfs,ok.nX,ok.frf⟩
def Cx.Ok.jy{X:Cx}(ok:(X.rh E).Ok):X.Ok:=
 ⟨ok.mod,ok.kind,ok.glob,ok.blt,ok.above,ok.inj,ok.has,ok.cab,ok.hd,ok.frames,ok.stk,ok.exf,ok.bs,ok.bsz,ok.noex,ok.exfs,ok.nX,ok.frf⟩
def Inv.rh(I:Inv X Xs σ H s)(E:Xo):Inv (X.rh E) Xs σ H s:=⟨I.ok.rh E,I.os,I.bare,I.base,I.loc,I.cell,I.free,I.freeC,I.pin,I.hok,I.len⟩
def Inv.jy(I:Inv (X.rh E) Xs σ H s):Inv X Xs σ H s:=⟨I.ok.jy,I.os,I.bare,I.base,I.loc,I.cell,I.free,I.freeC,I.pin,I.hok,I.len⟩
def SP.jy(h:SP (X.rh E) Xs D f s'):SP X Xs D f s':=by
 cases f with
 |next=>obtain⟨a,e,I,q⟩:=h;exact⟨a,e,I.jy,q⟩
 |brk=>obtain⟨a,e,I,q⟩:=h;exact⟨a,e,I.jy,q⟩
 |cont=>obtain⟨a,e,I,q⟩:=h;exact⟨a,e,I.jy,q⟩
 |ret u=>obtain⟨v,a,e,I,r,q⟩:=h;exact⟨v,a,e,I.jy,r,q⟩
def yR.Mu{st:Xm Stmt}(h:yR X.Mu st t):yR X st t:=λe s σ H D I a=>
 RQ (h e s σ H D (I.rh _) a) (λ_ _ q=>q.jy) λ_ _ z=>False.elim z
section
variable {st:Stmt}{rest:Xm Stmt}{t:TS}{u:TS}{e:Expr}{te:TE}{pos:Pos}
def zL:TS:=λD σ H=>D.nx σ H
def C8(t u:TS):TS:=λD σ H=>t { D with nx:=u D } σ H
def zw:yR X [] zL:=λ_ _ σ H _ I h=>Vl ⟨σ,H,I,h⟩
def vA(i:PS X st t)(g:yR X rest u):yR X (st::rest) (C8 t u):=by
 intro e s σ H D I h;refine wpAny_execs_cons<|cX (i e s σ H { D with nx:=u D } I h) λf m q=>?_;cases f with
 |next=>
  obtain⟨a,l,j,q⟩:=q;exact g e m a l D j q
 |ret v=>exact q
 |brk=>exact q
 |cont=>exact q
def lN(e:PS X st t):yR X [st] t:=by
 intro a s σ H D I h;refine wpAny_execs_cons<|cX (e a s σ H D I h) λf g q=>?_;cases f with
 |next=>exact Vl q
 |ret v=>exact q
 |brk=>exact q
 |cont=>exact q
def Inv.quiet(I:Inv X Xs σ H s):interactive X.env=false:=by simp[interactive,I.ok.kind]
def Ee(a:TE):TS:=λD σ H=>a σ H λ_ H1=>D.nx σ H1
def GJ(he:PE X e te)(f:swapsWith e none pos.line X.env=pure false:=by rfl):PS X (.Expr e pos) (Ee te):=by
 intro a s σ H D I h;exact wpAny_Expr_any (cX (he a s σ H _ I h) λv j ⟨x,H1,g,i,q1⟩=>⟨σ,H1,g,q1⟩) I.quiet f
def Gz(a:TE):TS:=λD σ H=>a σ H D.rt
def pW(he:PE X e te):PS X (.Return (some e) pos) (Gz te):=by
 intro a s σ H D I h;exact wpAny_Return_some<|cX (he a s σ H _ I h) λv i ⟨x,H1,g,f,q1⟩=>⟨x,σ,H1,g,f,q1⟩
def HJ(c:TT)(t u:TS):TS:=λD σ H=>c σ H λb H1=>if b=true then t D σ H1 else u D σ H1
def Jj(l:PT X c tc)(i:yR X a t)(j:yR X b u):PS X (.If c a b pos) (HJ tc t u):=by
 intro e s σ H D I h;refine wpAny_If<|cX (l e s σ H _ I h) λd f ⟨H1,g,q1⟩=>?_;cases d with
 |true=>exact i e f σ H1 D g q1
 |false=>exact j e f σ H1 D g q1
def CQ:TS:=λ_ _ _=>False
def Cj:yR X sts CQ:=λ_ _ _ _ _ _ h=>h.elim
end
abbrev TG:=V->St->Hp->(St->Hp->Prop)->Prop
abbrev wO:=Xm V->St->Hp->(St->Hp->Prop)->Prop
def PG(X:Cx)(target:Expr)(t:TG):Prop:=
 ∀(e:Xq) (s:Xh) (σ:St) (H:Hp) (v:V) (u:Xf) (Q:St->Hp->Prop),Inv X e σ H s->RelV v u->t v σ H Q->
  wpAny (model X.prog X.w) X.A (assign target X.env u) (λ_ g=>∃a f,Inv X e a f g/\Q a f) X.xe s
def MF(X:Cx)(i:Xm Expr)(t:wO):Prop:=
 ∀(f:Xq) (s:Xh) (σ:St) (H:Hp) (e:Xm V) (us:Xm Xf) (Q:St->Hp->Prop),Inv X f σ H s->Vals e us->t e σ H Q->
  wpAny (model X.prog X.w) X.A (assignInOrder ((assignEach i X.env).map (·.2)) us) (λ_ h=>∃a g,Inv X f a g h/\Q a g) X.xe s
def eU(i:Nat):TG:=λv σ H Q=>Q (σ.set i<|some v) H
def o9(e:X.N.Nodup)(f:X.N[i]? =some x)(g:Loc X.env.scope x)(hf:X.fn x=true\/X.env.scope.names.lookup x=some .local:=by first|exact .inl rfl|exact .inr rfl|assumption):PG X (.Name x pos) (eU i):=by
 intro l s σ H v u Q I r h;exact wpAny_assign_Name<|wN I e f g r (λj a=>⟨_,H,a,h⟩) hf
def MY:wO:=λa σ H Q=>a=[]/\Q σ H
inductive MN(t:TG)(u:wO)(vs:Xm V)(σ:St)(H:Hp)(Q:St->Hp->Prop):Prop
 |mk(v:V)(r:Xm V)(e:vs=v::r)(q:t v σ H λa H'=>u r a H' Q)
def IS(t:TG)(u:wO):wO:=λa σ H Q=>MN t u a σ H Q
def Hh:MF X [] MY:=by
 intro g s σ H f a Q I r h;obtain⟨e,h⟩:=h;subst e;cases r;exact assignInOrder_nil ⟨σ,H,I,h⟩
def E6(l:PG X e t)(i:MF X es u)
  (o:(assignEach (e::es) X.env).map (·.2)=assign e X.env::(assignEach es X.env).map (·.2):=by rfl):MF X (e::es) (IS t u):=by
 intro g s σ H q x Q I r h;obtain⟨v,w,p,h⟩:=h;subst p;cases r with
 |cons r m=>
  rw[o];refine assignInOrder_cons<|cX (l g s σ H _ _ _ I r h) λ_ n a=>?_;obtain⟨f,H1,j,q1⟩:=a;exact i g n f H1 _ _ Q j m q1
inductive OO(K:Frag)(n:Nat)(t:wO)(v:V)(σ:St)(H:Hp)(Q:St->Hp->Prop):Prop
 |mk(a:Xg)(xs:Xm V)(f:v=.ref a)(s:fh K H a xs)(e:xs.length=n)(q:t xs σ H Q)
def Lm(K:Frag)(n:Nat)(t:wO):TG:=λv σ H Q=>OO K n t v σ H Q
def EB(B:X.calm=true)(h:MF X es t)
  (z:(assignEach es X.env).length=n:=by rfl)(j:(assignEach es X.env).findIdx? (·.1)=none:=by rfl):PG X (.Tuple es k pos) (Lm X.K n t):=by
 intro g s σ H v u Q I r f;obtain⟨a,x,A,q,w,f⟩:=f;subst A;cases r;obtain⟨C,i,l,D⟩:=I.tuple q;refine assign_Tuple_tuple (I.ok.hd B) l (by simp[z,<-w,i.length]) j λp y=>?_;have m:Inv X g σ H { s with heap:=p }:=I.kept (t':=s.toks) λb o e=>y b o (QU<|QY e) e;exact h g _ σ H x _ Q m (by simpa using i) f
def vN(a:TE)(g:TG):TS:=λD σ H=>a σ H λx H1=>g x σ H1 D.nx
def Kw(he:PE X e te)(m:PG X tg g)(p:swapsWithSole [tg] e pos.line X.env=pure false:=by rfl)(hw:swappedStores [tg] e X.env=pure none:=by rfl)
  (n:(assignEach [tg] X.env).map (·.2)=[assign tg X.env]:=by rfl):PS X (.Assign [tg] e pos) (vN te g):=by
 intro i s σ H D I h;refine wpAny_Assign_stores (cX (he i s σ H _ I h) λv o f=>?_) p hw;obtain⟨x,H1,l,j,q1⟩:=f;rw[n];exact cX (m i o σ H1 x v _ l j q1) λ_ q ⟨a,b,c,d⟩=>⟨a,b,c,d⟩
def LG(o:X.N.Nodup)(n:X.N[i]? =some x)(p:Loc X.env.scope x)(he:PE X e te)(l:swapsWith e (some<|.Name x XI) pos.line X.env=pure false:=by rfl)(hf:X.fn x=true\/X.env.scope.names.lookup x=some .local:=by first|exact .inl rfl|exact .inr rfl|assumption):
  PS X (.Assign [.Name x XI] e pos) (vN te<|eU i):=by
 intro g s σ H D I h;refine wpAny_Assign_Name (cX (he g s σ H _ I h) λv r a=>?_) l;obtain⟨y,H1,m,j,q1⟩:=a;exact wN m o n p j (λq f=>⟨_,H1,f,q1⟩) hf
def Di(c:TT)(tb:TS):TS:=λD σ H=>∃W:Nat->St->Hp->Prop,(∃m,W m σ H)/\∀m σ H,W m σ H->
 c σ H λb H1=>if b=true then ∃N:St->Hp->Prop,(∀a e,N a e->∃f,f<m/\W f a e)/\tb { D with nx:=N,ct:=N,bk:=D.nx } σ H1 else D.nx σ H1
def ER(z:PassesOwn (model X.prog X.w) X.A X.env X.xe)(R:PT X c tc)(J:yR X body tb):PS X (.While c body [] pos) (Di tc tb):=by
 intro m s σ H D I h;obtain⟨W,⟨M,O⟩,Q⟩:=h;refine wpAny_While<|codeAny_whileLoop (λn F=>∃i C,Inv X m i C F/\W n i C) ?_ M ⟨σ,H,I,O⟩;rintro n P ⟨e,H1,K,G⟩;refine Tx z<|cX (R m P e H1 _ K<|Q n e H1 G) λb L ⟨B,y,l⟩=>?_;cases b with
 |true=>
  obtain⟨N,E,l⟩:=l;rw[QI rfl];refine Tx z<|cX (J m L e B _ y l) λf S j=>?_;cases f with
  |next=>
   obtain⟨a,g,q,p⟩:=j;obtain⟨r,x,o⟩:=E a g p;exact⟨r,x,a,g,q,o⟩
  |cont=>
   obtain⟨a,g,q,p⟩:=j;obtain⟨r,x,o⟩:=E a g p;exact⟨r,x,a,g,q,o⟩
  |brk=>exact j
  |ret v=>exact j
 |false=>
  rw[QG bF0];exact Vl ⟨e,B,y,l⟩
structure It where
 go:Nat->Hp->Prop
 yld:Nat->Hp->V->Hp->Prop
 stop:Nat->Hp->Prop
def nU(X:Cx)(a:Xq)(H:Hp)(b:Xg):Prop:=
 H b=none/\b≠X.env.locals/\b ∉ X.fs/\(b∈X.ex\/X.s₀.heap.objs.size<=b)/\(∀x c,X.env.cells.lookup x=some c->c≠b)/\∀p∈X.pn++a,p.1≠b
def Inv.ui(I:Inv X Xs σ H s)(a:s.heap.objs.size<=b)(g:H' b=none):nU X Xs H' b:=by
 refine⟨g,UB<|Rp I.lt a,I.Po a,.inr<|Rn I.sz a,λx c e z=>?_,λp f z=>?_⟩
 ·obtain⟨v,q⟩:=I.cell x c e
  exact absurd (Rp q.lt<|by rw[z];exact a)<|Uy _
 ·exact absurd (Rp (QY (I.pin p f).1)<|by rw[z];exact a)<|Uy _
structure Turn(P:Xi)(w:Xj)(K:Frag)(tg:Expr)(J:It)(fp:Xm Xg)(it:Xg)(tn:Nat->Heap->Prop):Prop where
 mem:it∈fp
 obj:∀i h,tn i h->∀b∈fp,∃o,h.get? b=some o/\∀v,o.data≠.cell v
 keep:∀i h h',tn i h->(∀b∈fp,∀o,h.get? b=some o->h'.get? b=some o)->tn i h'
 item:∀(X:Cx),X.prog=P->X.w=w->X.K=K->X.calm=true->∀(i:Nat) (Xs:Xq) (s:Xh) (σ:St) (H:Hp) (E:Xo),Inv X Xs σ H s->(∀b∈fp,nU X Xs H b)->tn i s.heap->J.go i H->
  wpAny (model P w) X.A (pyNext (.ref it)) (λr s1=>∃u,r=some u/\
   wpAny (model P w) X.A (letOwnedTupleGo tg (.ref it) u) (λ_ s2=>∃x H',Inv X Xs σ H' s2/\RelV x u/\J.yld i H x H'/\tn (i+1) s2.heap/\∀b∈fp,H' b=none) E s1) E s
 done:∀(X:Cx),X.prog=P->X.w=w->X.K=K->X.calm=true->∀(i:Nat) (Xs:Xq) (s:Xh) (σ:St) (H:Hp) (E:Xo),Inv X Xs σ H s->(∀b∈fp,nU X Xs H b)->tn i s.heap->J.stop i H->
  wpAny (model P w) X.A (pyNext (.ref it)) (λr s1=>r=none/\Inv X Xs σ H s1) E s
 self:∀(A:Xl) (i:Nat) (s:Xh) (Q:Xo) (E:Xo),tn i s.heap->Q (.ref it) s->wpAny (model P w) A (pyIter (.ref it)) Q E s
abbrev TI:=St->Hp->(It->Hp->Prop)->Prop
def Mt(X:Cx)(g:Xq)(σ:St)(tg:Expr)(R:It->Hp->Prop)(a:Xf)(s2:Xh):Prop:=
 ∃(it:Xg) (h:Xm Xg) (f:Nat->Heap->Prop) (J:It) (e:Hp),a=.ref it/\Inv X g σ e s2/\Turn X.prog X.w X.K tg J h it f/\f 0 s2.heap/\(∀b∈h,nU X g e b)/\R J e
def PI(X:Cx)(tg iter:Expr)(e:TI):Prop:=
 ∀(a:Xq) (s:Xh) (σ:St) (H:Hp) (R:It->Hp->Prop),Inv X a σ H s->e σ H R->
  wpAny (model X.prog X.w) X.A (eval iter X.env) (λv f=>wpAny (model X.prog X.w) X.A (pyIter v) (Mt X a σ tg R) X.xe f) X.xe s
def rH(f:s.heap.get? it=some o)(e:o.cls=.type n)(hd:o.data=.fields vs)
  (g:["enumerate","zip","dict_itemiterator","dict_reverseitemiterator","odict_iterator","itertools.zip_longest","itertools.pairwise"].contains n=false) (a:Q () s):wpAny M A (letOwnedTupleGo tg (.ref it) u) Q E s:=by
 unfold letOwnedTupleGo;cases tg<;>first
  |exact QA a
  | (cases u<;>first
    |exact QA a
    | (refine Qz (wpAny_load f ?_)
       rw[e,hd];show wpAny M A (if(["enumerate","zip","dict_itemiterator","dict_reverseitemiterator","odict_iterator","itertools.zip_longest","itertools.pairwise"].contains n&&vs[0]? == some (rawInt _))=true then _ else _) Q E s;rw[QG<|by grind];exact QA a))
def FR(K:Frag)(a:Xg):It:=
 ⟨λi H=>∃e x,cN K H a e/\e[i]? =some x,λi H x f=>f=H/\∀e,cN K H a e->e[i]? =some x,λi H=>∃e,cN K H a e/\e.length<=i⟩
def O6(K:Frag)(a:Xg):It:=
 ⟨λi H=>∃e x,fh K H a e/\e[i]? =some x,λi H x f=>f=H/\∀e,fh K H a e->e[i]? =some x,λi H=>∃e,fh K H a e/\e.length<=i⟩
def qH(lo:Int)(n:Nat):It:=⟨λi _=>i<n,λi H x a=>a=H/\x=.int (lo+i),λi _=>n<=i⟩
def BL{P:Xi}{w:Xj}{K:Frag}{tg:Expr}(a it:Xg):Turn P w K tg (FR K a) [it] it (λi h=>h.IsListIter it a i) where
 mem:=by simp
 obj:=λi h f b g=>by
  have e:b=it:=by simpa using g
  subst e;obtain⟨o,e,c,d⟩:=f;exact⟨o,e,λv z=>by rw[d]at z;cases z⟩
 keep:=λi h j f k=>f.at λo e=>k it (by simp) o e
 item:=by
  intro X G B y N i L s σ H E I m f n;subst G B y;obtain⟨U,x,l,D⟩:=n;obtain⟨R,A,p,S⟩:=I.list l;obtain⟨u,W,Z⟩:=A.get D;obtain⟨q,r,Y,J,F,C⟩:=m it (by simp);refine wpAny_pyNext_list_item f p.isList (by simpa using W) λj M sb=>?_;have O:Inv X L σ H { s with heap:=j }:=I.turned (t':=s.toks) (λb o g e=>(sb.2 b g).trans e) q r J F C;obtain⟨o,e,c,d⟩:=id M;exact⟨u,rfl,rH (s:={ s with heap:=j }) e c d (by decide) ⟨x,H,O,Z,⟨rfl,λys T=>by rw[I.xw T l];exact D⟩,M,λb g=>(m b g).1⟩⟩
 done:=by
  intro X G B y N i L s σ H E I m f n;subst G B y;obtain⟨U,l,D⟩:=n;obtain⟨R,A,p,S⟩:=I.list l;obtain⟨q,r,Y,J,F,C⟩:=m it (by simp);have hl:=A.length;exact wpAny_pyNext_list_end (I.ok.hd N) f p.isList (by simp;lia) λj Q=>⟨rfl,I.turned (t':=s.toks) (λb o g e=>Q b o g e) q r J F C⟩
 self:=λ_ _ _ _ _ f h=>wpAny_pyIter_listiter f h
def yO{P:Xi}{w:Xj}{K:Frag}{tg:Expr}(a it:Xg):Turn P w K tg (O6 K a) [it] it (λi h=>h.IsTupleIter it a i) where
 mem:=by simp
 obj:=λi h f b g=>by
  have e:b=it:=by simpa using g
  subst e;obtain⟨o,e,c,d⟩:=f;exact⟨o,e,λv z=>by rw[d]at z;cases z⟩
 keep:=λi h j f k=>f.at λo e=>k it (by simp) o e
 item:=by
  intro X J C y O i M s σ H E I m f n;subst J C y;obtain⟨U,x,l,F⟩:=n;obtain⟨B,A,p,S⟩:=I.tuple l;obtain⟨u,W,Z⟩:=A.get F;obtain⟨q,r,Y,L,G,D⟩:=m it (by simp);refine wpAny_pyNext_tuple_item f (show s.heap.IsTuple a B.toArray from p) (by simpa using W) λj N sb=>?_;have Q:Inv X M σ H { s with heap:=j }:=I.turned (t':=s.toks) (λb o g e=>(sb.2 b g).trans e) q r L G D;obtain⟨o,e,c,d⟩:=id N;exact⟨u,rfl,rH (s:={ s with heap:=j }) e c d (by decide) ⟨x,H,Q,Z,⟨rfl,λys T=>by rw[I.AX T l];exact F⟩,N,λb g=>(m b g).1⟩⟩
 done:=by
  intro X J C y O i M s σ H E I m f n;subst J C y;obtain⟨U,l,F⟩:=n;obtain⟨B,A,p,S⟩:=I.tuple l;obtain⟨q,r,Y,L,G,D⟩:=m it (by simp);have hl:=A.length;exact wpAny_pyNext_tuple_end (I.ok.hd O) f (show s.heap.IsTuple a B.toArray from p) (by simp;lia) λj R=>⟨rfl,I.turned (t':=s.toks) (λb o g e=>R b o g e) q r L G D⟩
 self:=λ_ _ _ _ _ f h=>wpAny_pyIter_tupleiter f h
def x5{P:Xi}{w:Xj}{K:Frag}{tg:Expr}(it:Xg)(lo:Int)(n:Nat):Turn P w K tg (qH lo n) [it] it (λi h=>IsRangeIter h it (lo+(i:Nat)*1) ((n:Int)-(i:Nat)) 1) where
 mem:=by simp
 obj:=λi h a b f=>by
  have e:b=it:=by simpa using f
  subst e;exact⟨_,a,λv z=>by
   have J:=z;cases J⟩
 keep:=λi h g a k=>k it (by simp) _ a
 item:=by
  intro X A r q C i D s σ H E I j a l;subst A r q;obtain⟨m,p,O,B,y,x⟩:=j it (by simp);have W:=Walks.range (prog:=X.prog) (w:=X.w) (I.ok.hd C) it lo 1 n;refine W.item i s _ _ l a λv g F Q G M=>?_;obtain⟨t,rfl⟩:=Q;have L:Inv X D σ H { s with heap:=g,toks:=F }:=I.turned (λb o f e=>M b o (by simpa using f) e) m p B y x;refine⟨_,rfl,rH (s:={ s with heap:=g,toks:=F }) (n:= "range_iterator") G rfl rfl (by decide) ⟨.int<|lo+i,H,L,⟨t,?_⟩,⟨rfl,rfl⟩,G,λb f=>(j b f).1⟩⟩;rw[Int.mul_one]
 done:=by
  intro X A r q C i D s σ H E I j a l;subst A r q;obtain⟨m,p,O,B,y,x⟩:=j it (by simp);exact wpAny_pyNext_range_end (I.ok.hd C) a (by have:n<=i:=l;lia) λg N=>⟨rfl,I.turned (t':=s.toks) (λb o f e=>N b o f e) m p B y x⟩
 self:=λ_ _ _ _ _ a h=>wpAny_pyIter_rangeiter a h
inductive Lb(K:Frag)(x:V)(H:Hp)(R:It->Hp->Prop):Prop
 |mk(a:Xg)(e:x=.ref a)(s:∃xs,cN K H a xs)(q:R (FR K a) H)
def IQ(K:Frag)(a:TE):TI:=λσ H R=>a σ H λx H1=>Lb K x H1 R
def Of(K:Frag)(e:TE):TI:=λσ H R=>e σ H λx H1=>∃a,x=.ref a/\(∃f,fh K H1 a f)/\R (O6 K a) H1
def GA(w:PE X l tl):PI X tg l (IQ X.K tl):=by
 intro j s σ H R I h;refine cX (w j s σ H _ I h) λv i f=>?_;obtain⟨x,H1,g,m,q1⟩:=f;obtain⟨a,e,⟨B,r⟩,q⟩:=q1;subst e;cases m;obtain⟨z,y,p,A⟩:=g.list r;refine Td p.isList ⟨i.heap.objs.size,[i.heap.objs.size],_,_,H1,rfl,g.kept (t':=i.toks) λb o e=>QE _ e,BL a _,⟨_,QN _ rfl,rfl,rfl⟩,λb n=>?_,q⟩;have e:b=i.heap.objs.size:=by simpa using n
 subst e;exact g.ui (QJ _)<|g.hok.fresh<|QJ _
def xZ(y:PE X l tl):PI X tg l (Of X.K tl):=by
 intro j s σ H R I h;refine cX (y j s σ H _ I h) λv f g=>?_;obtain⟨x,H1,i,m,q1⟩:=g;obtain⟨a,e,⟨B,r⟩,q⟩:=q1;subst e;cases m;obtain⟨w,z,p,A⟩:=i.tuple r;refine wpAny_pyIter_tuple (show f.heap.IsTuple a w.toArray from p) ⟨f.heap.objs.size,[f.heap.objs.size],_,_,H1,rfl,i.kept (t':=f.toks) λb o e=>QE _ e,yO a _,⟨_,QN _ rfl,rfl,rfl⟩,λb n=>?_,q⟩;have e:b=f.heap.objs.size:=by simpa using n
 subst e;exact i.ui (QJ _)<|i.hok.fresh<|QJ _
def vB{lo a:Int}{t u v:Tok}{f:Nat}(I:Inv X Xs σ H s)(l: -(2^62)<=lo)(i:lo<2^62)(m: -(2^62)<=a)(j:a<2^62)
  (q:R (qH lo (a-lo).toNat) H):wpAny (model X.prog X.w) X.A (pyIter<|.ref s.heap.objs.size) (Mt X Xs σ tg R) E { s with heap:=s.heap.push { cls:=.type "range",data:=.fields #[.int lo t,.int a u,.int 1 v] },toks:=f }:=by
 refine wpAny_pyIter_range (IsRange.new ..) (small_one l i m j) ?_;have g:Inv X Xs σ H { s with heap:=s.heap.push { cls:=.type "range",data:=.fields #[.int lo t,.int a u,.int 1 v] },toks:=f }:=I.kept λb o e=>QE _ e;refine⟨(s.heap.push { cls:=.type "range",data:=.fields #[.int lo t,.int a u,.int 1 v] }).objs.size,[(s.heap.push { cls:=.type "range",data:=.fields #[.int lo t,.int a u,.int 1 v] }).objs.size],_,_,H,rfl,
  g.kept (t':=f) λb o e=>QE _ e,x5 _ lo (a-lo).toNat,?_,λb n=>?_,q⟩
 ·have h:lo+((0:Nat):Int)*1=lo:=by simp
  have p:(((a-lo).toNat:Nat):Int)-((0:Nat):Int)=Builtin.Range.rangeSize lo a 1:=by rw[rangeSize_one];split<;>lia
  show IsRangeIter _ _ (lo+((0:Nat):Int)*1) ((((a-lo).toNat:Nat):Int)-((0:Nat):Int)) 1;rw[h,p];exact QN _ rfl
 ·have e:b=(s.heap.push { cls:=.type "range",data:=.fields #[.int lo t,.int a u,.int 1 v] }).objs.size:=by simpa using n
  subst e;exact g.ui (QJ _)<|g.hok.fresh<|QJ _
def Im(ta:TA):TI:=λσ H R=>ta σ H λa H1=>∃j:Int,a=[.int j]/\ -(2^62)<=j/\j<2^62/\R (qH 0 j.toNat) H1
def IK(ta:TA):TI:=λσ H R=>ta σ H λa H1=>∃i j:Int,a=[.int i,.int j]/\(-(2^62)<=i/\i<2^62/\ -(2^62)<=j/\j<2^62)/\R (qH i (j-i).toNat) H1
def Co {p pos:Pos}(l:Gl X "range") (hm:X.mg "range" =none) (v:PA X [a] ta) (o:starEach [a] X.env=[(false,eval a X.env)]:=by rfl):PI X tg (.Call (.Name "range" p) [a] [] pos) (Im ta):=by
 intro g s σ H R I h;refine Call_<|jd I l hm boot_range<|Sd (cX (v pos g s σ H _ I h) λz y f=>?_) o rfl;obtain⟨x,H1,m,i,q1⟩:=f;obtain⟨j,e,q1,w,q⟩:=q1;subst e;cases i with
 |cons r n=>
  cases n;obtain⟨t,rfl⟩:=r;exact call_range_1 (vB m (by lia) (by lia) q1 w<|by simpa using q)
def mR (v:Gl X "range") (hm:X.mg "range" =none) (A:PA X [a,b] ta) (z:starEach [a,b] X.env=[(false,eval a X.env),(false,eval b X.env)]:=by rfl) (l:starEach [b] X.env=[(false,eval b X.env)]:=by rfl):
  PI X tg (.Call (.Name "range" p) [a,b] [] pos) (IK ta):=by
 intro n s σ H R I h;refine Call_ (jd I v hm boot_range<|Sd (cX (A pos n s σ H _ I h) λF E f=>?_) (by rw[z,l])<|by rw[l];rfl);obtain⟨D,H1,w,o,q1⟩:=f;obtain⟨i,j,e,⟨q1,B,x,y⟩,q⟩:=q1;subst e;cases o with
 |cons r g=>
  cases g with
  |cons m g=>
   cases g;obtain⟨t,rfl⟩:=r;obtain⟨C,rfl⟩:=m;exact call_range_2<|vB w q1 B x y q
def NL(j:TI)(g:TG)(tb:TS):TS:=λD σ H=>j σ H λJ H1=>∃W:Nat->Nat->St->Hp->Prop,(∃m,W 0 m σ H1)/\∀i m σ H,W i m σ H->
 (J.stop i H/\D.nx σ H)\/(J.go i H/\∃N:St->Hp->Prop,(∀e a,N e a->∃h,h<m/\W (i+1) h e a)/\∀x a,J.yld i H x a->g x σ a λf l=>tb { D with nx:=N,ct:=N,bk:=D.nx } f l)
def uQ(fp:Xm Xg)(h:Heap):Xq:=fp.filterMap λb=>(h.get? b).map λo=>(b,o)
def eZ(a:b∈fp)(e:h.get? b=some o):(b,o)∈uQ fp h:=Vp.mpr ⟨b,a,by rw[e];rfl⟩
def Bw(a:p∈uQ fp h):p.1∈fp/\h.get? p.1=some p.2:=by
 obtain⟨b,f,e⟩:=Vp.mp a;cases q:h.get? b with
 |none=>grind
 |some o=>grind
def Inv.pinned(I:Inv X Xs σ H s)(hf:∀b∈fp,nU X Xs H b)(i:∀b∈fp,∃o,s.heap.get? b=some o/\∀v,o.data≠.cell v):Inv X (Xs++uQ fp s.heap) σ H s:=
 I.zN λp h=>(Rg.mp h).elim (λz=>I.pin p<|QP _ z) λz=>by
  obtain⟨a,e⟩:=Bw z;obtain⟨l,j,g,_⟩:=hf p.1 a;obtain⟨o,f,d⟩:=i p.1 a;rw[e]at f;cases f;exact⟨e,l,j,g,d⟩
def Inv.iA(I:Inv X (Xs++pl) σ H s):Inv X Xs σ H s:=I.zN λp a=>I.pin p<|QP _<|Ra _ a
def KD(P:PassesOwn (model X.prog X.w) X.A X.env X.xe)(hc:X.calm=true)(hi:PI X tg iter wi)(hg:PG X tg g)(l:yR X body tb)
  (hs:∀x,foldedSetIterable iter X.env x=pure x:=by intro _;rfl):PS X (.For tg iter body [] pos) (NL wi g tb):=by
 intro G s σ H D I h;refine wpAny_For (cX (hi G s σ H _ I h) λv s1 h1=>cX h1 λab s2 h2=>?_) hs;obtain⟨it,L,tn,J,H2,e,I2,T,XR,f2,W,⟨m0,w0⟩,Yb⟩:=h2;subst e;have p:∀{C:Hp},(∀b∈L,C b=none)->∀b∈L,nU X G C b:=λhn b l=>⟨hn b l,(f2 b l).2⟩;refine codeAny_forLoop_any (λn s'=>∃i B C,Inv X G B C s'/\tn i s'.heap/\(∀b∈L,C b=none)/\W i n B C) ?_ m0 ⟨0,σ,H2,I2,XR,λb l=>(f2 b l).1,w0⟩;rintro n s3 ⟨i,j,Q,I3,M,O,w3⟩;obtain ⟨stop,qn⟩|⟨go,N,hN,step⟩:=Yb i n j Q w3
 ·refine Tx P (cX (T.done X rfl rfl rfl hc i G s3 j Q X.xe I3 (p O) M stop) λr s4 ⟨hr,I4⟩=>?_)
  subst hr;exact Vl ⟨j,Q,I4,qn⟩
 ·refine Tx P (cX (T.item X rfl rfl rfl hc i G s3 j Q X.xe I3 (p O) M go) λr s4 ⟨u,hr,h4⟩=>?_)
  subst hr;refine Tx P<|cX h4 λ_ s5 y=>?_;obtain⟨x,Z,I5,r5,y5,F,S⟩:=y;have Y:=I5.pinned (p S)<|T.obj _ _ F;refine Tx P<|cX (hg _ s5 j Z x u _ Y r5<|step x Z y5) λ_ s6 y=>?_;obtain⟨U,H6,I6,q6⟩:=y;refine Tx P<|cX (l _ s6 U H6 _ I6 q6) λf R E=>?_;have again:∀{a:St}{q:Hp},Inv X (G++uQ L s5.heap) a q R->N a q->∃m,m<n/\∃i B C,Inv X G B C R/\tn i R.heap/\(∀b∈L,C b=none)/\W i m B C:=λ{a q} z K=>by
   obtain⟨m',hm,w7⟩:=hN a q K;refine⟨m',hm,i+1,a,q,z.iA,T.keep _ _ _ F λb l o e=>(z.pin (b,o)<|QP _<|QP _<|eZ l e).1,λb l=>?_,w7⟩;obtain⟨o,e,d⟩:=T.obj _ _ F b l;exact(z.pin (b,o)<|QP _<|QP _<|eZ l e).2.1
  cases f with
  |next=>obtain⟨a,q,z,K⟩:=E;exact again z K
  |cont=>obtain⟨a,q,z,K⟩:=E;exact again z K
  |brk=>obtain⟨a,q,z,E⟩:=E;exact⟨a,q,z.iA,E⟩
  |ret v=>obtain⟨x7,a,q,z,r7,E⟩:=E;exact⟨x7,a,q,z.iA,r7,E⟩
def c6{K:Frag}{a:Xg}{xs:Xm V}{g:TG}{tb:TS}{D:Ends}{σ:St}{H:Hp}(Pv:Nat->St->Hp->Prop)(h0:Pv 0 σ H)(o:∀i σ H,i<=xs.length->Pv i σ H->cN K H a xs)
  (r:∀i x σ H,xs[i]? =some x->Pv i σ H->g x σ H λh l=>tb { D with nx:=Pv<|i+1,ct:=Pv<|i+1,bk:=D.nx } h l)(hd:∀σ H,Pv xs.length σ H->D.nx σ H):
  ∃W:Nat->Nat->St->Hp->Prop,(∃m,W 0 m σ H)/\∀i m σ H,W i m σ H->
   ((FR K a).stop i H/\D.nx σ H)\/((FR K a).go i H/\∃N:St->Hp->Prop,(∀f H',N f H'->∃n,n<m/\W (i+1) n f H')/\∀x H',(FR K a).yld i H x H'->g x σ H' λh l=>tb { D with nx:=N,ct:=N,bk:=D.nx } h l):=by
 refine⟨λi m σ H=>m=xs.length-i/\i<=xs.length/\Pv i σ H,⟨xs.length,by simp,RF _,h0⟩,?_⟩;rintro i m σ H ⟨rfl,s,p⟩;have q:=o i σ H s p;by_cases j:i<xs.length
 ·refine .inr ⟨⟨xs,xs[i],q,by simp[j]⟩,Pv<|i+1,λf H' v=>⟨xs.length-(i+1),by lia,rfl,j,v⟩,λx H' y=>?_⟩
  obtain⟨e,y⟩:=y;subst e;exact r i x σ _ (y xs q) p
 ·have e:i=xs.length:=by lia
  subst e;exact .inl ⟨⟨xs,q,QJ _⟩,hd σ H p⟩
def mJ{lo:Int}{n:Nat}{g:TG}{tb:TS}{D:Ends}{σ:St}{H:Hp}(Pv:Nat->St->Hp->Prop)(h0:Pv 0 σ H)
  (q:∀i σ H,i<n->Pv i σ H->g (.int<|lo+i) σ H λf j=>tb { D with nx:=Pv<|i+1,ct:=Pv<|i+1,bk:=D.nx } f j)(hd:∀σ H,Pv n σ H->D.nx σ H):
  ∃W:Nat->Nat->St->Hp->Prop,(∃m,W 0 m σ H)/\∀i m σ H,W i m σ H->
   ((qH lo n).stop i H/\D.nx σ H)\/((qH lo n).go i H/\∃N:St->Hp->Prop,(∀h H',N h H'->∃l,l<m/\W (i+1) l h H')/\∀x H',(qH lo n).yld i H x H'->g x σ H' λf j=>tb { D with nx:=N,ct:=N,bk:=D.nx } f j):=by
 refine⟨λi m σ H=>m=n-i/\i<=n/\Pv i σ H,⟨n,by simp,RF _,h0⟩,?_⟩;rintro i m σ H ⟨rfl,r,p⟩;by_cases a:i<n
 ·refine .inr ⟨a,Pv<|i+1,λh H' o=>⟨n-(i+1),by lia,rfl,a,o⟩,λx H' y=>?_⟩
  obtain⟨e,y⟩:=y;subst e y;exact q i σ _ a p
 ·have e:i=n:=by lia
  subst e;exact .inl ⟨QJ _,hd σ H p⟩
abbrev R2:=V->V->Hp->VK->Prop
def jk(X:Cx)(f:Xf->Xf->Sem Xf)(r:R2):Prop:=
 ∀(a:Xq) (s:Xh) (σ:St) (H:Hp) (x y:V) (v u:Xf) (Q:VK),Inv X a σ H s->RelV x v->RelV y u->r x y H Q->
  wpAny (model X.prog X.w) X.A (f v u) (EP X a σ Q) X.xe s
def Ow(X:Cx)(f:Xf->Sem Xf)(r:V->Hp->VK->Prop):Prop:=
 ∀(a:Xq) (s:Xh) (σ:St) (H:Hp) (x:V) (v:Xf) (Q:VK),Inv X a σ H s->RelV x v->r x H Q->
  wpAny (model X.prog X.w) X.A (f v) (EP X a σ Q) X.xe s
def eK(X:Cx)(f:Xf)(r:Xm V->Hp->VK->Prop):Prop:=
 ∀(a:Xq) (s:Xh) (σ:St) (H:Hp) (xs:Xm V) (us:Xm Xf) (Q:VK),Inv X a σ H s->Vals xs us->r xs H Q->
  wpAny (model X.prog X.w) X.A (call f us) (EP X a σ Q) X.xe s
def Fg(r:R2)(ta tb:TE):TE:=λσ H Q=>ta σ H λx H1=>tb σ H1 λy a=>r x y a Q
def PZ(r:V->Hp->VK->Prop)(ta:TE):TE:=λσ H Q=>ta σ H λx H1=>r x H1 Q
inductive Pn(C:Int->Int->Prop)(g:Int->Int->V)(x y:V)(H:Hp)(Q:VK):Prop
 |mk(i j:Int)(a:x=.int i)(e:y=.int j)(c:C i j)(q:Q (g i j) H)
inductive MO(g:Int->Int->V)(x y:V)(H:Hp)(Q:VK):Prop
 |mk(i j:Int)(e:x=.int i)(a:y=.int j)(q:Q (g i j) H)
def rI(C:Int->Int->Prop)(g:Int->Int->V):R2:=λx y H Q=>Pn C g x y H Q
def Cp(g:Int->Int->V):R2:=λx y H Q=>MO g x y H Q
def rU(g:Int->V):V->Hp->VK->Prop:=λx H Q=>∃i,x=.int i/\Q (g i) H
def Ly(z:PE X a ta)(n:PE X b tb){H:Hp}{R:V->V->Hp->Prop}(I:Inv X Xs σ H s)
  (h:ta σ H λx H1=>tb σ H1 λy g=>R x y g){Q:Xo}{f:Xf->Xf->Sem Xf}
  (hf:∀v u l x y g,Inv X Xs σ g l->RelV x v->RelV y u->R x y g->wpAny (model X.prog X.w) X.A (f v u) Q X.xe l):
  wpAny (model X.prog X.w) X.A (eval a X.env) (λv j=>wpAny (model X.prog X.w) X.A (eval b X.env) (λu i=>wpAny (model X.prog X.w) X.A (f v u) Q X.xe i) X.xe j) X.xe s:=by
 refine cX (z Xs s σ H _ I h) λv q e=>?_;obtain⟨x,H1,o,m,q1⟩:=e;refine cX (n Xs q σ H1 _ o q1) λu l e=>?_;obtain⟨y,g,p,r,B⟩:=e;exact hf v u l x y g p m r B
def Ij{r:R2}(f:jk X (binaryOp op) r)(i:PE X a ta)(m:PE X b tb):PE X (.BinOp a op b pos) (Fg r ta tb):=by
 intro j s σ H Q I h;exact wpAny_BinOp<|Ly i m I h λv u g x y e o n l q=>f j g σ e x y v u Q o n l q
def EG(f:Ow X (unaryOp op) r)(g:PE X a ta):PE X (.UnaryOp op a pos) (PZ r ta):=by
 intro e s σ H Q I h;exact UnaryOp_<|cX (g e s σ H _ I h) λv j ⟨x,H1,l,i,q1⟩=>f e j σ H1 x v Q l i q1
def Ot{g:Int->Int->Int}
  (rule:∀(i j:Int)(t u:Tok)(s:Xh)(Q:Xo)(E:Xo),C i j->Q (.int (g i j) s.toks) { s with toks:=s.toks+1 }->wpAny (model X.prog X.w) X.A (f (.int i t)<|.int j u) Q E s):
  jk X f (rI C λi j=>.int<|g i j):=by
 intro n s σ H x y v u Q I e l h;obtain⟨i,j,rfl,rfl,m,q⟩:=h;obtain⟨t,rfl⟩:=e;obtain⟨a,rfl⟩:=l;exact rule i j t a s _ _ m ⟨.int<|g i j,H,I.tok _,⟨_,rfl⟩,q⟩
def OV{g:Int->Int->Int}
  (rule:∀(i j:Int)(t u:Tok)(s:Xh)(Q:Xo)(E:Xo),Q (.int (g i j) s.toks) { s with toks:=s.toks+1 }->wpAny (model X.prog X.w) X.A (f (.int i t)<|.int j u) Q E s):
  jk X f (Cp λi j=>.int<|g i j):=by
 intro m s σ H x y v u Q I e l h;obtain⟨i,j,rfl,rfl,q⟩:=h;obtain⟨t,rfl⟩:=e;obtain⟨a,rfl⟩:=l;exact rule i j t a s _ _ ⟨.int<|g i j,H,I.tok _,⟨_,rfl⟩,q⟩
def Ih{g:Int->Int->Bool}
  (rule:∀(i j:Int)(t u:Tok)(s:Xh)(Q:Xo)(E:Xo),Q (.bool<|g i j) s->wpAny (model X.prog X.w) X.A (f (.int i t)<|.int j u) Q E s):
  jk X f (Cp λi j=>.bl<|g i j):=by
 intro m s σ H x y v u Q I e l h;obtain⟨i,j,rfl,rfl,q⟩:=h;obtain⟨t,rfl⟩:=e;obtain⟨a,rfl⟩:=l;exact rule i j t a s _ _ ⟨.bl<|g i j,H,I,rfl,q⟩
def MP(i j:Int):Prop:=0<j/\j<1073741824
def M6(i j:Int):Prop:=0<=j/\j<=1000000/\i.natAbs<2^64
def GZ(i j:Int):Prop:=(-(2^64)<i/\i<2^64)\/(-(2^64)<j/\j<2^64)
def GZ.ok(h:GZ i j):IntMulOk i j:=by
 obtain ⟨a,e⟩|⟨a,e⟩:=h
 ·exact .of_left<|intBits_le_64 a e
 ·exact .of_right<|intBits_le_64 a e
def Kz:jk X (binaryOp .Add) (Cp λi j=>.int<|i+j):=OV λ_ _ _ _ _ _ _ q=>add_int q
def Jv:jk X (binaryOp .Mult) (rI GZ λi j=>.int<|i*j):=Ot λ_ _ _ _ _ _ _ a q=>mul_int q a.ok
def HH:jk X (binaryOp .FloorDiv) (rI MP λi j=>.int<|i / j):=Ot λi j _ _ _ _ _ a q=>by
 have f:=a.1;have e:=a.2;exact floordiv_int (by lia) (by grind) (.inl<|PyProof.noPylong_small<|by lia)
def JN:jk X (binaryOp .Mod) (rI (λ_ j=>0<j) λi j=>.int<|i%j):=Ot λi j _ _ _ _ _ a q=>by
 exact mod_int' (by lia) (by grind)
def nH:jk X (binaryOp .Pow) (rI M6 λi j=>.int<|i^j.toNat):=Ot λ_ _ _ _ _ _ _ a q=>pow_int_small a.1 a.2.1 a.2.2 q
def Qh{g:Int->Int}
  (rule:∀(i:Int)(t:Tok)(s:Xh)(Q:Xo)(E:Xo),Q (.int (g i) s.toks) { s with toks:=s.toks+1 }->wpAny (model X.prog X.w) X.A (f<|.int i t) Q E s):
  Ow X f (rU λi=>.int<|g i):=by
 intro e s σ H x v Q I a h;obtain⟨i,rfl,q⟩:=h;obtain⟨t,rfl⟩:=a;exact rule i t s _ _ ⟨.int<|g i,H,I.tok _,⟨_,rfl⟩,q⟩
def xV:Ow X (unaryOp .USub) (rU λi=>.int<|-i):=Qh λ_ _ _ _ _ q=>neg_int q
def NC:V->V->Bool
 |.non,.non=>true|.non,.int _=>true|.int _,.non=>true|.non,.bl _=>true|.bl _,.non=>true|.non,.str _=>true|.str _,.non=>true
 |.int _,.int _=>true|.bl _,.bl _=>true|.str _,.str _=>true|.byt _,.byt _=>true
 |.int _,.str _=>true|.str _,.int _=>true|.bl _,.str _=>true|.str _,.bl _=>true
 |_,_=>false
def PU:R2:=λx y H Q=>NC x y=true/\Q (.bl<|decide<|x=y) H
def PR:R2:=λx y H Q=>NC x y=true/\Q (.bl<|!decide (x=y)) H
def zZ:decide (V.int i=V.int j)=(i==j):=by grind
def DL:decide (V.bl i=V.bl j)=(i==j):=by grind
def zC:decide (V.str i=V.str j)=(i==j):=by grind
def AH:decide (V.byt i=V.byt j)=(i.toList==j.toList):=by
 rw[Bool.eq_iff_iff];cases i;cases j;simp
def cW(I:Inv X Xs σ H s)(q:Q (.bl k) H)(e:k=k'):EP X Xs σ Q (.bool k') s:=by
 subst e;exact⟨.bl k,H,I,rfl,q⟩
def IG:jk X (compareOp .Eq) PU:=by
 intro l s σ H x y v u Q I g a h;obtain⟨f,q⟩:=h;cases x with
 |non=>
  cases g;cases y with
  |non=>cases a;exact PySem.EqNone.eq_none_none (cW I q<|by simp)
  |bl j=>cases a;exact PySem.EqNone.eq_none_bool (cW I q<|by simp)
  |int j=>obtain⟨e,rfl⟩:=a;exact PySem.EqNone.eq_none_int (cW I q<|by simp)
  |str j=>obtain⟨e,rfl⟩:=a;exact PySem.EqNone.eq_none_str (cW I q<|by simp)
  |_=>exact absurd (show false=true from f) bF0
 |bl i=>
  cases g;cases y with
  |non=>cases a;exact PySem.EqNone.eq_bool_none (cW I q<|by simp)
  |bl j=>cases a;exact eq_bool<|cW I q DL
  |str j=>obtain⟨e,rfl⟩:=a;exact PySem.EqMixed.eq_bool_str (cW I q<|by simp)
  |_=>exact absurd (show false=true from f) bF0
 |int i=>
  obtain⟨t,rfl⟩:=g;cases y with
  |non=>cases a;exact PySem.EqNone.eq_int_none (cW I q<|by simp)
  |int j=>obtain⟨e,rfl⟩:=a;exact eq_int<|cW I q zZ
  |str j=>obtain⟨e,rfl⟩:=a;exact PySem.EqMixed.eq_int_str (cW I q<|by simp)
  |_=>exact absurd (show false=true from f) bF0
 |str i=>
  obtain⟨t,rfl⟩:=g;cases y with
  |non=>cases a;exact PySem.EqNone.eq_str_none (cW I q<|by simp)
  |bl j=>cases a;exact PySem.EqMixed.eq_str_bool (cW I q<|by simp)
  |int j=>obtain⟨e,rfl⟩:=a;exact PySem.EqMixed.eq_str_int (cW I q<|by simp)
  |str j=>obtain⟨e,rfl⟩:=a;exact eq_str<|cW I q zC
  |_=>exact absurd (show false=true from f) bF0
 |byt i=>
  obtain⟨t,rfl⟩:=g;cases y with
  |byt j=>obtain⟨e,rfl⟩:=a;exact PySem.W.eq_bytes<|cW I q AH
  |_=>exact absurd (show false=true from f) bF0
 |_=>cases y<;>exact absurd (show false=true from f) bF0
def Jk:jk X (compareOp .NotEq) PR:=by
 intro l s σ H x y v u Q I g a h;obtain⟨f,q⟩:=h;cases x with
 |non=>
  cases g;cases y with
  |non=>cases a;exact PySem.EqNone.ne_none_none (cW I q<|by simp)
  |bl j=>cases a;exact PySem.EqNone.ne_none_bool (cW I q<|by simp)
  |int j=>obtain⟨e,rfl⟩:=a;exact PySem.EqNone.ne_none_int (cW I q<|by simp)
  |str j=>obtain⟨e,rfl⟩:=a;exact PySem.EqNone.ne_none_str (cW I q<|by simp)
  |_=>exact absurd (show false=true from f) bF0
 |bl i=>
  cases g;cases y with
  |non=>cases a;exact PySem.EqNone.ne_bool_none (cW I q<|by simp)
  |bl j=>cases a;exact ne_bool<|cW I q<|RH not DL
  |str j=>obtain⟨e,rfl⟩:=a;exact PySem.EqMixed.ne_bool_str (cW I q<|by simp)
  |_=>exact absurd (show false=true from f) bF0
 |int i=>
  obtain⟨t,rfl⟩:=g;cases y with
  |non=>cases a;exact PySem.EqNone.ne_int_none (cW I q<|by simp)
  |int j=>obtain⟨e,rfl⟩:=a;exact ne_int<|cW I q<|RH not zZ
  |str j=>obtain⟨e,rfl⟩:=a;exact PySem.EqMixed.ne_int_str (cW I q<|by simp)
  |_=>exact absurd (show false=true from f) bF0
 |str i=>
  obtain⟨t,rfl⟩:=g;cases y with
  |non=>cases a;exact PySem.EqNone.ne_str_none (cW I q<|by simp)
  |bl j=>cases a;exact PySem.EqMixed.ne_str_bool (cW I q<|by simp)
  |int j=>obtain⟨e,rfl⟩:=a;exact PySem.EqMixed.ne_str_int (cW I q<|by simp)
  |str j=>obtain⟨e,rfl⟩:=a;exact ne_str<|cW I q<|RH not zC
  |_=>exact absurd (show false=true from f) bF0
 |byt i=>
  obtain⟨t,rfl⟩:=g;cases y with
  |byt j=>obtain⟨e,rfl⟩:=a;exact PySem.W.ne_bytes<|cW I q<|RH not AH
  |_=>exact absurd (show false=true from f) bF0
 |_=>cases y<;>exact absurd (show false=true from f) bF0
def NN:jk X (compareOp .Lt) (Cp λi j=>.bl<|decide<|i<j):=Ih λ_ _ _ _ _ _ _ q=>lt_int q
def vp:jk X (compareOp .LtE) (Cp λi j=>.bl<|decide<|i<=j):=Ih λ_ _ _ _ _ _ _ q=>le_int q
def Na:jk X (compareOp .Gt) (Cp λi j=>.bl<|decide<|j<i):=Ih λ_ _ _ _ _ _ _ q=>gt_int q
def D6:jk X (compareOp .GtE) (Cp λi j=>.bl<|decide<|j<=i):=Ih λ_ _ _ _ _ _ _ q=>ge_int q
def ph:jk X (compareOp .Is) (λx y H Q=>y=.non/\Q (.bl<|decide<|x=.non) H):=by
 intro f s σ H x y v u Q I a e h;obtain⟨rfl,q⟩:=h;cases e;refine is_none_gen<|cW I q ?_;cases x<;>first
  | (cases a;rfl)
  | (obtain⟨t,rfl⟩:=a;rfl)
def oR:jk X (compareOp .IsNot) (λx y H Q=>y=.non/\Q (.bl<|!decide (x=.non)) H):=by
 intro f s σ H x y v u Q I a e h;obtain⟨rfl,q⟩:=h;cases e;refine isnot_none_gen<|cW I q ?_;cases x<;>first
  | (cases a;rfl)
  | (obtain⟨t,rfl⟩:=a;rfl)
def cM(b:Expr)(h:op≠.In:=by decide)(a:op≠.NotIn:=by decide):behindInMarks op b=false:=by
 have f:(op==CmpOp.In)=false:=by cases op<;>first|rfl|exact absurd rfl h
 have e:(op==CmpOp.NotIn)=false:=by cases op<;>first|rfl|exact absurd rfl a
 cases b<;>simp[behindInMarks,f,e]
def Ao{r:R2}(f:jk X (compareOp op) r)(i:PE X a ta)(m:PE X b tb)(hm:behindInMarks op b=false):PE X (.Compare a [op] [b] pos) (Fg r ta tb):=by
 intro j s σ H Q I h;exact wpAny_Compare1 (Ly i m I h λv u g x y e o n l q=>f j g σ e x y v u Q o n l q) hm
def zR(t:TE):TT:=λσ H Q=>t σ H λx a=>Og x a Q
def Gh(w:jk X (compareOp op) r)(D:PE X a ta)(j:PE X b tb)(hm:behindInMarks op b=false):PT X (.Compare a [op] [b] pos) (zR<|Fg r ta tb):=by
 intro f s σ H Q I h;refine wpAny_isTrue_Compare1 (cX (D f s σ H _ I h) λv A ⟨x,H1,l,i,q1⟩=>cX (j f A σ H1 _ l q1) λu o ⟨y,C,q,B,E⟩=>
  cX (w f o σ C x y v u _ q i B E) λc F ⟨z,m,n,g,k,e,p⟩=>?_) hm
 subst e;cases g;exact RG ⟨m,n,p⟩
def tV(r g:R2)(ta tb i:TE):TE:=λσ H Q=>ta σ H λx H1=>tb σ H1 λy e=>r x y e λz a=>∃k,z=.bl k/\
 (if k=true then i σ a λh f=>g y h f Q else Q (.bl false) a)
def jT(G:jk X (compareOp op) r)(O:jk X (compareOp op') r')(N:PE X a ta)(w:PE X b tb)(P:PE X c tc)
  (hm:lastMarks [op,op'] [b,c]=false:=by with_unfolding_all rfl):PE X (.Compare a [op,op'] [b,c] pos) (tV r r' ta tb tc):=by
 intro f s σ H Q I h;refine Compare_chain (cX (N f s σ H _ I h) λv K ⟨x,H1,B,p,q1⟩=>chain_link (cX (w f K σ H1 _ B q1) λu E ⟨y,L,F,l,R⟩=>
  cX (G f E σ L x y v u _ F p l R) λd M ⟨z,g,i,n,k,e,j⟩=>?_)) hm
 subst e;cases n;refine RG ?_;cases k with
 |false=>exact ite_ff ⟨.bl false,g,i,rfl,j⟩
 |true=>exact ite_tt<|chain_last<|cX (P f M σ g _ i j) λo m ⟨A,D,q,C,J⟩=>O f m σ D y A u o Q q l C J
def jW(P:jk X (compareOp op) r)(Y:jk X (compareOp op') r')(W:PE X a ta)(A:PE X b tb)(hc:PE X c tc)
  (hm:lastMarks [op,op'] [b,c]=false:=by with_unfolding_all rfl):PT X (.Compare a [op,op'] [b,c] pos) (zR<|tV r r' ta tb tc):=by
 intro f s σ H Q I h;refine isTrue_chain (cX (W f s σ H _ I h) λv S ⟨x,H1,C,q,q1⟩=>test_link (cX (A f S σ H1 _ C q1) λu G ⟨y,T,L,m,q2⟩=>
  cX (P f G σ T x y v u _ L q m q2) λd U ⟨z,i,j,o,k,e,l⟩=>?_)) hm
 subst e;cases o;refine RG ?_;cases k with
 |false=>
  obtain⟨k',K,Z⟩:=l;cases K;exact ite_ff ⟨i,j,Z⟩
 |true=>
  refine ite_tt<|test_last<|cX (hc f U σ i _ j l) λp n ⟨B,F,w,E,R⟩=>cX (Y f n σ F y B u p _ w m E R) λd' s5 g=>?_;obtain⟨z2,D,J,N,k2,M,O⟩:=g;subst M;cases N;exact RG ⟨D,J,O⟩
def qc:(sizeLine:Nat)<2^63:=by rw[Q0];decide
def iV:jk X (binaryOp .Add) (λx y H Q=>∃i j,x=.str i/\y=.str j/\i.length+j.length<=sizeLine/\Q (.str<|i++j) H):=by
 intro m s σ H x y v u Q I e f h;obtain⟨i,j,rfl,rfl,g,q⟩:=h;obtain⟨t,rfl⟩:=e;obtain⟨a,rfl⟩:=f;exact add_str (λa l=>⟨.str<|i++j,H,I.tok _,⟨_,rfl⟩,q⟩) g
def vals1(r:Vals [x] us):∃u,us=[u]/\RelV x u:=by
 cases r with
 |cons e a=>cases a;exact⟨_,rfl,e⟩
def vals2(r:Vals [x,y] us):∃u a,us=[u,a]/\RelV x u/\RelV y a:=by
 cases r with
 |cons h e=>
  cases e with
  |cons g f=>cases f;exact⟨_,_,rfl,h,g⟩
def mZ(e:X.calm=true):eK X (.builtin "max") (λxs H Q=>∃i j,xs=[.int i,.int j]/\Q (.int<|if j > i then j else i) H):=by
 intro g s σ H xs o Q I r h;obtain⟨i,j,rfl,q⟩:=h;obtain⟨u,f,rfl,⟨t,rfl⟩,⟨l,rfl⟩⟩:=vals2 r;refine max_two_ints (I.ok.hd e) λm n k=>⟨_,H,I.kept k,?_,q⟩;by_cases a:j > i
 ·rw[QI a,QI a];exact⟨_,rfl⟩
 ·rw[QG a,QG a];exact⟨_,rfl⟩
def gD(e:X.calm=true):eK X (.builtin "min") (λxs H Q=>∃i j,xs=[.int i,.int j]/\Q (.int<|if j<i then j else i) H):=by
 intro g s σ H xs o Q I r h;obtain⟨i,j,rfl,q⟩:=h;obtain⟨u,f,rfl,⟨t,rfl⟩,⟨l,rfl⟩⟩:=vals2 r;refine min_two_ints (I.ok.hd e) λm n k=>⟨_,H,I.kept k,?_,q⟩;by_cases a:j<i
 ·rw[QI a,QI a];exact⟨_,rfl⟩
 ·rw[QG a,QG a];exact⟨_,rfl⟩
def m9:eK X (.type "int") (λxs H Q=>(∃i,xs=[.int i]/\Q (.int i) H)\/∃k,xs=[.bl k]/\Q (.int<|if k then 1 else 0) H):=by
 intro f s σ H xs e Q I r h;obtain ⟨i,rfl,q⟩|⟨k,rfl,q⟩:=h
 ·obtain⟨u,rfl,t,rfl⟩:=vals1 r
  exact call_int_int ⟨.int i,H,I,⟨_,rfl⟩,q⟩
 ·obtain⟨u,rfl,a⟩:=vals1 r
  cases a;exact call_int_bool ⟨.int<|if k then 1 else 0,H,I.tok _,⟨_,rfl⟩,q⟩
structure za(h:Heap)(x dx C:Xg)(mA:Xr):Prop where
 obj:h.get? x=some (instObj C dx)
 ns:h.Ns1 dx mA
 ne:dx≠x
def B7{h:Heap}(n:h.Ns1 dx mA):∃g,h.get? dx=some g/\∀name,lookIn name g=some (mA name):=by
 obtain⟨o,r,s,m,i,j,_,l⟩:=n;refine⟨o,m,λname=>?_⟩;have e:=l name;unfold nsFind findBy at e;rw[<-Array.find?_toList]at e;unfold lookIn;rw[i];dsimp only;split
 ·grind
 ·rename_i q
  rw[q]at e;have a:r.toList.any (·.refKey)=false:=by
   rw[List.any_eq_false];intro y p;obtain⟨z,t,f⟩:=j y<|U9.mp p;simp[DictEntry.refKey,f]
  rw[QG<|by rw[a];exact bF0];exact RH some e
def za.look(I:za h x dx C mA):∃a,PySem.W.InstAt h x (instObj C dx) C (some a)/\∀name,lookIn name a=some (mA name):=
 let ⟨a,f,e⟩:=B7 I.ns
 ⟨a,⟨I.obj,rfl,rfl,f⟩,e⟩
section
variable {E:Xo}{s:Xh}{K:Frag}{x:Xg}{dx:Xg}{C:Xg}{f:Xg}{mA:Xr}{name:Xn}{v:Xf}
def get_map(X:K.In s.heap)(I:za s.heap x dx C mA)(j:plainGet K C name=true)(g:hasDictIn K C=true)
  (f:findIn K (.ref C) name=some none)(e:mA name=some v)(a:handedIn v=true)(h:Q v { s with toks:=s.toks+1 }):
  wpAny (model prog w) A (getAttr (.ref x) name expr) Q E s:=by
 obtain⟨l,J,i⟩:=I.look;exact PySem.W.get_value X J (plainGet_of j).1 (PySem.W.findObj_own g f rfl<|by rw[i,e]) a h
def Du(X:K.In s.heap)(I:za s.heap x dx C mA)(a:plainGet K C name=true)
  (hf:findIn K (.ref C) name=some (some<|.ref f))(j:isFn K (.ref f)=true)(e:mA name=none)(h:Q (.ref f,[.ref x]) s):
  wpAny (model prog w) A (getMethod (.ref x) name pl) Q E s:=by
 obtain⟨g,J,i⟩:=I.look;exact PySem.W.method_fn X J (plainGet_of a).1 (plainGet_of a).2 hf (Vq.mp j) (by show(lookIn name g).map (·.isSome)=some false;rw[i,e];rfl) h
def GN(X:K.In s.heap)(I:za s.heap x dx C mA)
  (p:findIn K (.ref C) "__setattr__" =some (some<|.builtin "object.__setattr__")) (n:plainOver K C=true) (l:takerIn K C name=some none) (o:hasDictIn K C=true)
  (hw:PySem.Within mA ns)(F:ns.length<=sizeLine)
  (h:∀h',za h' x dx C (λy=>if y=name then some v else mA y)->Heap.SameBut dx s.heap h'->Q () { s with heap:=h',toks:=s.toks+2 }):
  wpAny (model prog w) A (setAttr (.ref x) name v) Q E s:=by
 obtain⟨G,J,D⟩:=I.look;refine PySem.W.set_plain X J p<|PySem.W.osa_open X J n l λb=>?_;obtain⟨B,q,i⟩:=PySem.W.any_some o;refine Qz<|QA<|Qz<|Qz<|wpAny_loadPart I.obj<|Qz<|PySem.W.Looks.here (PySem.W.looks_clsIn X q) ?_;rw[i];refine QA<|Qz<|QA<|Qz ?_;refine wpAny_nsSet1 I.ns λh' a j=>?_;obtain⟨z,r,m,g,e,f⟩:=a.count<|PySem.Within.cons name v hw;refine Qz (wpAny_lookBehind g (by rw[e];exact pastItsLine_dict<|Rn f<|by rw[Rz];lia) ?_);exact QA<|h _ ⟨(j.2 _<|Tf I.ne).trans I.obj,a,I.ne⟩ j
def EU(X:K.In s.heap)(hm:makesIn K C=true)
  (a:findIn K (.ref C) "__init__" =some (some<|.ref f)) (hf:PySem.W.typeIn K (.ref f)=some (.type "function"))
  (h:codeAny (model prog w) (A.under<|.builtin "type.__call__" ⟨.ref C::vs,kw⟩) (.call (.ref f) ⟨.ref (s.heap.objs.size+1)::vs,kw⟩) (PySem.W.InitBack (s.heap.objs.size+1) R)
   { s with heap:=(s.heap.push emptyDict).push (instObj C s.heap.objs.size) }):
  codeAny (model prog w) A (.call (.ref C) ⟨vs,kw⟩) R s:=by
 obtain⟨i,g,d,t,e⟩:=s;exact PySem.W.make_core (PySem.W.makes_of X hm) (PySem.W.looks_findIn X a) (λself=>PySem.W.bind_fn X self hf) (.inl rfl) h
end
def gB(f:Xn)(v:V):Xm (Xn×V)->Xm (Xn×V)
 |[]=>[(f,v)]
 | (g,x)::r=>if g=f then(g,v)::r else(g,x)::gB f v r
theorem cR(f g:Xn)(v:V):∀fs:Xm (Xn×V),(gB f v fs).lookup g=if g=f then some v else fs.lookup g
 |[]=>by
  show List.lookup g [(f,v)]=_;by_cases h:g=f
  ·grind
  ·grind
 | (k,x)::r=>by
  have a:=cR f g v r;rw[show gB f v ((k,x)::r)=(if k=f then(k,v)::r else(k,x)::gB f v r) from rfl];by_cases e:k=f
  ·grind
  ·grind
theorem mK(f:Xn)(v:V):∀fs:Xm (Xn×V),f∈(gB f v fs).map (·.1)/\∀g,g∈fs.map (·.1)->g∈(gB f v fs).map (·.1)
 |[]=>⟨by simp[gB],λg h=>by simp at h⟩
 | (k,x)::r=>by
  obtain⟨a,i⟩:=mK f v r;rw[show gB f v ((k,x)::r)=(if k=f then(k,v)::r else(k,x)::gB f v r) from rfl];by_cases e:k=f
  ·grind
  ·grind
theorem n9(f:Xn)(v:V):∀fs:Xm (Xn×V),(gB f v fs).length<=fs.length+1
 |[]=>by simp[gB]
 | (k,x)::r=>by
  have a:=n9 f v r;rw[show gB f v ((k,x)::r)=(if k=f then(k,v)::r else(k,x)::gB f v r) from rfl];by_cases e:k=f
  ·grind
  ·grind
def jr.some_of(r:jr (some v) o):∃u,o=some u/\RelV v u:=by
 cases o with
 |none=>exact(show False from r).elim
 |some u=>exact⟨u,rfl,r⟩
def jr.none_of(r:jr none o):o=none:=by
 cases o with
 |none=>rfl
 |some u=>exact(show False from r).elim
def Ck(r:RelV v u):handedIn u=true:=by
 cases v with
 |non=>cases (show u=Value.none from r);rfl
 |bl b=>cases (show u=Value.bool b from r);rfl
 |int i=>obtain⟨t,e⟩:=(show ∃t,u=Value.int i t from r);cases e;rfl
 |str x=>obtain⟨t,e⟩:=(show ∃t,u=Value.str x t from r);cases e;rfl
 |byt b=>obtain⟨t,e⟩:=(show ∃t,u=Value.bytes b t from r);cases e;rfl
 |flt b=>obtain⟨t,e⟩:=(show ∃t,u=Value.float b t from r);cases e;rfl
 |ref a=>cases (show u=Value.ref a from r);rfl
 |ty n=>cases (show u=Value.type n from r);rfl
def oW(i:gM P w H h)(e:H a=some (.ins C dx fs)):∃g,za h a dx C g/\(∀f,jr (fs.lookup f)<|g f)/\PySem.Within g (fs.map (·.1))/\fs.length<=1000/\H dx=some (.own a):=by
 obtain⟨d,z,j,ob,g,n,r,q⟩:=(show cV P w H h a (.ins C dx fs) from i a _ e);exact⟨g,⟨ob,n,j⟩,r,q,z,d⟩
structure Ac(K:Frag)(C:Xg):Prop where
 pg:plainGet K C Str.empty=true
 hd:hasDictIn K C=true
 po:plainOver K C=true
 sa:findIn K (.ref C) "__setattr__" =some (some (.builtin "object.__setattr__"))
def Ac.get{K:Frag}(c:Ac K C)(f:Xn):plainGet K C f=true:=c.pg
def ik(K:Frag)(C:Xg)(f:Xn):Prop:=findIn K (.ref C) f=some none
def ik.MA{K:Frag}(n:ik K C f):takerIn K C f=some none:=by
 unfold takerIn;rw[show findIn K (.ref C) f=some none from n];rfl
structure Meth(K:Frag)(C:Xg)(m:Xn)(f:Xg):Prop where
 at_:findIn K (.ref C) m=some (some (.ref f))
 fn:isFn K (.ref f)=true
 kp:keepIn K (.ref f)=true
def yL(I:Inv X Xs σ H s)(e:H a=some (.ins C dx fs))(c:Ac X.K C)(n:ik X.K C f)(l:fs.lookup f=some v)
  (h:∀u s',Inv X Xs σ H s'->RelV v u->Q u s'):wpAny (model X.prog X.w) A (getAttr (.ref a) f b) Q E s:=by
 obtain⟨j,O,r,_,_,_⟩:=oW I.hok e;obtain⟨u,i,g⟩:=jr.some_of (v:=v) (o:=j f) (by grind);exact get_map I.oI O (c.get f) c.hd n i (Ck g)<|h u _ (I.tok _) g
def xJ(I:Inv X Xs σ H s)(e:H a=some (.ins C dx fs))(c:Ac X.K C)(k:Meth X.K C m g)(l:fs.lookup m=none)
  (h:Q (.ref g,[.ref a]) s):wpAny (model X.prog X.w) A (getMethod (.ref a) m pl) Q E s:=by
 obtain⟨f,O,r,_,_,_⟩:=oW I.hok e;exact Du I.oI O (c.get m) k.at_ k.fn (jr.none_of<|by grind) h
def yC(I:Inv X Xs σ H s)(e:H a=some (.ins C dx fs))(c:Ac X.K C)(n:ik X.K C f)(L:fs.length<1000)(G:RelV y u)
  (h:∀s',Inv X Xs σ (upd H a<|.ins C dx<|gB f y fs) s'->Q () s'):wpAny (model X.prog X.w) A (setAttr (.ref a) f u) Q E s:=by
 obtain⟨m,O,r,j,_,l⟩:=oW I.hok e;refine GN I.oI O c.sa c.po n.MA c.hd j (by rw[QF,Q0];lia) λD i J=>h _ ?_;have p:∃o,D.get? dx=some o:=let ⟨o,_,_,F,_⟩:=i.ns;⟨o,F⟩;refine I.write (x:=a) (e:=dx) (by rw[e];exact True.intro) (.inr l) (λb q v z=>(J.2 b v).trans z) p ?_;refine⟨by rw[cG O.ne];exact l,?_,O.ne,i.obj,_,i.ns,λg=>?_,λg B=>?_⟩
 ·have:=n9 f y fs;lia
 ·show jr ((gB f y fs).lookup g) (if g=f then some u else m g)
  rw[cR];by_cases q:g=f
  ·rw[QI q,QI q];exact G
  ·rw[QG q,QG q];exact r g
 ·by_cases q:g=f
  ·rw[q];exact(mK f y fs).1
  ·refine(mK f y fs).2 g (j g λz=>B ?_)
   show(if g=f then some u else m g)=none;rw[QG q];exact z
def Inv.made(I:Inv X Xs σ H s):Inv X Xs σ (upd (upd H s.heap.objs.size<|.own<|s.heap.objs.size+1) (s.heap.objs.size+1)<|.ins C s.heap.objs.size [])
  { s with heap:=(s.heap.push emptyDict).push (instObj C s.heap.objs.size) }:=by
 have f:(s.heap.push emptyDict).get? s.heap.objs.size=some emptyDict:=QN s.heap rfl;have l:((s.heap.push emptyDict).push<|instObj C s.heap.objs.size).get? (s.heap.objs.size+1)=some (instObj C s.heap.objs.size):=by
  have:=QN (s.heap.push emptyDict) (o:=instObj C s.heap.objs.size) rfl
  rwa [Ub]at this
 have j:=I.laid (o:=.own<|s.heap.objs.size+1) (h':=s.heap.push emptyDict) (t':=s.toks) (λb u q=>QE _ q) (QJ _) ⟨_,f⟩;refine j.laid (a:=s.heap.objs.size+1) (o:=.ins C s.heap.objs.size []) (t':=s.toks) (λb u q=>QE _ q) (SS<|Ub _ _) ?_;have g:s.heap.objs.size≠s.heap.objs.size+1:=QU<|Tn _;refine⟨by rw[cG g,cE],RF _,g,l,λ_=>none,(Heap.Ns1.of_empty<|⟨emptyDict,#[],_,f,rfl,λe h=>absurd h<|by simp,λ_=>rfl⟩).at λo q=>QE _ q,λ_=>True.intro,λy i=>absurd rfl i⟩
def Hr(g:attributeBase e f env (eval e env)=eval e env)
  (h:wpAny (model prog w) A (eval e env) (λo a=>wpAny (model prog w) A (getAttr o f true) Q E a) E s):wpAny (model prog w) A (eval (.Attribute e f pos) env) Q E s:=
 Attribute_any_ h (by rw[arm_eval_Attribute,g])
inductive Oy(K:Frag)(f:Xn)(x:V)(H:Hp)(Q:VK):Prop
 |mk(a C e:Xg)(fs:Xm (Xn×V))(v:V)(g:x=.ref a)(h:H a=some (.ins C e fs))(c:Ac K C)(n:ik K C f)(l:fs.lookup f=some v)(q:Q v H)
def Mj(K:Frag)(ta:TE)(f:Xn):TE:=λσ H Q=>ta σ H λx H1=>Oy K f x H1 Q
def MB(K:Frag)(ta h:TE)(f:Xn):TS:=λD σ H=>h σ H λy H1=>ta σ H1 λx e=>∃a C g fs,x=.ref a/\e a=some (.ins C g fs)/\Ac K C/\ik K C f/\fs.length<1000/\
 D.nx σ (upd e a<|.ins C g<|gB f y fs)
def Dk(X:Cx)(op:Operator)(rd:V->V->Hp->VK->Prop):Prop:=
 ∀(a:Xq) (s:Xh) (σ:St) (H:Hp) (x y:V) (u v:Xf) (Q:VK),Inv X a σ H s->RelV x u->RelV y v->rd x y H Q->wpAny (model X.prog X.w) X.A (inplaceOp op u v) (EP X a σ Q) X.xe s
def KZ(he:PE X e ta)(m:attributeBase e f X.env (eval e X.env)=eval e X.env):PE X (.Attribute e f pos) (Mj X.K ta f):=by
 intro j s σ H Q I h;refine Hr m<|cX (he j s σ H _ I h) λu B g=>?_;obtain⟨x,H1,o,r,a,C,D,fs,v,i,y,c,n,l,q⟩:=g;subst i;obtain rfl:u=Value.ref a:=r;exact yL o y c n l λA z p w=>⟨v,H1,p,w,q⟩
def mG(E:PE X o ta)(B:PE X value tv)(w:swapsWith value (some<|.Attribute o f XI) pos.line X.env=pure false):PS X (.Assign [.Attribute o f XI] value pos) (MB X.K ta tv f):=by
 intro g s σ H D I h;refine plainObj_wpAny_Assign_Attribute (cX (B g s σ H _ I h) λu r ⟨y,H1,j,z,q⟩=>cX (E g r σ H1 _ j q) λv J e=>?_) w;obtain⟨x,L,p,A,a,C,N,fs,i,F,c,n,l,G⟩:=e;subst i;obtain rfl:v=Value.ref a:=A;exact yC p F c n l z λM m=>⟨σ,_,m,G⟩
def OY:V->V->Hp->VK->Prop:=λx y H Q=>∃i j,x=.int i/\y=.int j/\Q (.int<|i+j) H
def OM:V->V->Hp->VK->Prop:=λx y H Q=>∃i j,x=.int i/\y=.int j/\Q (.int<|i-j) H
def JP:Dk X .Add OY:=by
 rintro g s σ H x y u v Q I e f ⟨i,j,rfl,rfl,q⟩;obtain⟨t,rfl⟩:=(show ∃t,u=Value.int i t from e);obtain⟨a,rfl⟩:=(show ∃a,v=Value.int j a from f);exact PyProof.Rows.iadd_int ⟨.int<|i+j,H,I.tok _,⟨_,rfl⟩,q⟩
def JK:Dk X .Sub OM:=by
 rintro g s σ H x y u v Q I e f ⟨i,j,rfl,rfl,q⟩;obtain⟨t,rfl⟩:=(show ∃t,u=Value.int i t from e);obtain⟨a,rfl⟩:=(show ∃a,v=Value.int j a from f);exact PyProof.Rows.isub_int ⟨.int<|i-j,H,I.tok _,⟨_,rfl⟩,q⟩
inductive gQ(K:Frag)(H:Hp):V->Xf->Prop where
 |non:gQ K H .non (.type "NoneType")
 |bl (x:Bool):gQ K H (.bl x) (.type "bool")
 |int (i:Int):gQ K H (.int i) (.type "int")
 |str (x:Xn):gQ K H (.str x) (.type "str")
 |flt (x:UInt64):gQ K H (.flt x) (.type "float")
 |lst {a:Xg}{xs:Xm V}(e:H a=some (.lst xs)):gQ K H (.ref a) (.type "list")
 |frz {a:Xg}{o:Obj}{xs:Xm V}(e:H a=some (.frz o (.lst xs))):gQ K H (.ref a) (.type "list")
 |tup {a:Xg}{xs:Xm V}(e:H a=some (.tup xs)):gQ K H (.ref a) (.type "tuple")
 |dK {a:Xg}{Xu:Xm (Key×V)}(e:H a=some (.dK Xu)):gQ K H (.ref a) (.type "dict")
 |dT {a:Xg}{Xu:Xm (Xm Key×V)}(e:H a=some (.dT Xu)):gQ K H (.ref a) (.type "dict")
 |ins {a C f:Xg}{fs:Xm (Xn×V)}(e:H a=some (.ins C f fs)) (cl:Ac K C) (g:findIn K (.ref C) "__class__" =some (some (.builtin "object.__class__")))
   (j:PySem.W.specialIn K (.builtin "object.__class__") "__get__" =some (some (.builtin "getset_descriptor.__get__"))) (h:PySem.W.takesIn K (.builtin "object.__class__")=some true)
   (hm:PySem.W.mroIn K C (.type "object")=some true):gQ K H (.ref a) (.ref C)
def Bs(I:Inv X Xs σ H s)(f:RelV x u)(ty:gQ X.K H x t)(e:kitOne X.K t c=some b)(h:∀m,Q (.bool b) { s with toks:=m }):
  wpAny (model X.prog X.w) A (call (.builtin "isinstance") [u,c]) Q E s:=by
 cases ty with
 |non=>cases (show u=Value.none from f);exact US PySem.W.kitx_none I.oI True.intro e (λz=>nomatch z) h
 |bl y=>cases (show u=Value.bool y from f);exact US PySem.W.kitx_bool I.oI True.intro e (λz=>nomatch z) h
 |int i=>obtain⟨t,q⟩:=(show ∃t,u=Value.int i t from f);cases q;exact US PySem.W.kitx_int I.oI True.intro e (λz=>nomatch z) h
 |str y=>obtain⟨t,q⟩:=(show ∃t,u=Value.str y t from f);cases q;exact US PySem.W.kitx_str I.oI True.intro e (λz=>nomatch z) h
 |flt y=>obtain⟨t,q⟩:=(show ∃t,u=Value.float y t from f);cases q;exact US PySem.W.kitx_float I.oI True.intro e (λz=>nomatch z) h
 | @lst a j ea=>
  cases (show u=Value.ref a from f);obtain⟨_,_,n,_,g⟩:=(show cV X.prog X.w H s.heap a (.lst j) from I.hok a _ ea);exact US kitx_list I.oI ⟨_,g,rfl⟩ e (λz=>nomatch z) h
 | @frz a ob j ea=>
  cases (show u=Value.ref a from f);obtain⟨_,_,_,n,_,g⟩:=(show cV X.prog X.w H s.heap a (.frz ob<|.lst j) from I.hok a _ ea);exact US kitx_list I.oI ⟨_,g,rfl⟩ e (λz=>nomatch z) h
 | @tup a j ea=>
  cases (show u=Value.ref a from f);obtain⟨_,_,_,p⟩:=(show cV X.prog X.w H s.heap a (.tup j) from I.hok a _ ea);obtain⟨o,g,l,_⟩:=p;exact US PySem.W.kitx_tuple I.oI ⟨o,g,l⟩ e (λz=>nomatch z) h
 | @dK a Xu ea=>
  cases (show u=Value.ref a from f);obtain⟨_,_,B,_,p⟩:=(show cV X.prog X.w H s.heap a (.dK Xu) from I.hok a _ ea);obtain⟨o,r,v,g,l,_⟩:=p;exact US kitx_dict I.oI ⟨o,g,l.1⟩ e (λz=>nomatch z) h
 | @dT a Xu ea=>
  cases (show u=Value.ref a from f);obtain⟨_,_,j,_,o,r,v,g,l,_⟩:=(show cV X.prog X.w H s.heap a (.dT Xu) from I.hok a _ ea);exact US kitx_dict I.oI ⟨o,g,l.1⟩ e (λz=>nomatch z) h
 | @ins a C dx fs ea cl ha hn X4 hm=>
  cases (show u=Value.ref a from f);obtain⟨D,O,_⟩:=oW I.hok ea;obtain⟨F,J,_⟩:=O.look;exact US (PySem.W.kitx_own (cl.get _) cl.hd ha hn X4 hm) I.oI J e (λz=>nomatch z) h
structure dP(k:Nat)(A:Xl):Prop where
 hd:A.handled=none
 dp:A.depth+3*k+5<recursionLimit
 un:A.units+16*k+200<cLine
def dP.mono(r:dP k A)(h:j<=k):dP j A:=⟨r.hd,by have:=r.dp;lia,by have:=r.un;lia⟩
def dP.deeper(r:dP (k+1) A)(env:Env):dP k (A.deeper env):=
 ⟨r.hd,by have:=r.dp;show A.depth+1+3*k+5<_;lia,by have:=r.un;show A.units+3+16*k+200<_;lia⟩
def dP.in1(r:dP (k+1) A):dP k A.in1:=
 ⟨r.hd,by have:=r.dp;show A.depth+3*k+5<_;lia,by have:=r.un;show A.units+1+16*k+200<_;lia⟩
def zb{A:Xl}{us:Xm Xf}{kw:Xm (Xn×Xf)}:(A.under<|.builtin "type.__call__" ⟨.ref C::us,kw⟩).depth=A.depth+1:=by
 first|rfl|simp[Around.under,Code.weight,Code.isCreation,Code.isGuard,Code.isCaller,Code.frames,Code.isFrame,guardIds]
def yT{A:Xl}{us:Xm Xf}{kw:Xm (Xn×Xf)}:(A.under<|.builtin "type.__call__" ⟨.ref C::us,kw⟩).units=A.units+1:=by
 first|rfl|simp[Around.under,Code.cUnits,Code.frames,Code.isFrame]
def dP.make(r:dP (k+1) A)(C:Xg)(us:Xm Xf)(kw:Xm (Xn×Xf)):dP k (A.under<|.builtin "type.__call__" ⟨.ref C::us,kw⟩):=
 ⟨r.hd,by have:=r.dp;rw[zb];lia,by have:=r.un;rw[yT];lia⟩
def dP.depth(r:dP k A):A.depth<recursionLimit:=by have:=r.dp;lia
def dP.units(r:dP k A):A.units+64<cLine:=by have:=r.un;lia
def kT:TA:=λ_ H Q=>Q [] H
def dG(ta:TE)(tr:TA):TA:=λσ H Q=>ta σ H λx H1=>tr σ H1 λe a=>Q (x::e) a
def kW:PA X [] kT:=λ_ _ _ _ H Q I h=>Um ⟨[],H,I,.nil,h⟩
def fL(r:PE X e te)(hr:PA X es t)(o:starEach (e::es) X.env=(false,eval e X.env)::starEach es X.env:=by rfl):PA X (e::es) (dG te t):=by
 intro f g s σ H Q I h;rw[o];refine Sx<|cX (r g s σ H _ I h) λu n a=>?_;obtain⟨x,H1,j,i,q1⟩:=a;exact cX (hr f g n σ H1 _ j q1) λy w ⟨m,q,l,p,v⟩=>⟨x::m,q,l,.cons i p,v⟩
def Nt(t:TA):TE:=λσ H Q=>t σ H λa H1=>a.length<=sizeLine/\∀p,H1 p=none->Q (.ref p) (upd H1 p<|.tup a)
def Fu(t:TA):TE:=λσ H Q=>t σ H λa H1=>a.length<=sizeLine/\∀p,H1 p=none->Q (.ref p) (upd H1 p<|.lst a)
def JV{x1}(h:PA X es t):PE X (.Tuple es x1 pos) (Nt t):=by
 intro j s σ H Q I i;refine wpAny_Tuple_spliced (cX (h pos j s σ H _ I i) λg a ⟨l,H1,f,r,z,q⟩=>⟨by rw[<-r.length];exact z,?_⟩);refine⟨.ref a.heap.objs.size,upd H1 a.heap.objs.size<|.tup l,f.laid (t':=a.toks) (λb u e=>QE _ e) (QJ _) ?_,rfl,q _<|f.hok.fresh<|QJ _⟩;exact⟨z,g,r,⟨_,QN _ rfl,rfl,_,rfl⟩⟩
def LD(h:PA X es t):PE X (.List es pos) (Fu t):=by
 intro j s σ H Q I i;refine wpAny_List_spliced (cX (h pos j s σ H _ I i) λg a ⟨l,H1,f,r,z,q⟩=>⟨by rw[<-r.length];exact z,?_⟩);refine⟨.ref a.heap.objs.size,upd H1 a.heap.objs.size<|.lst l,f.laid (t':=a.toks) (λb u e=>QE _ e) (QJ _) ?_,rfl,q _<|f.hok.fresh<|QJ _⟩;exact⟨z,g,0,r,QN _ rfl⟩
abbrev Sp:=Xm V->Hp->VK->XK->Prop
abbrev Jz:=Xm Env->Hp->Xh->XK->Xo
structure qT(P:Xi)(w:Xj)(K:Frag)(mg:Xr)(base:Heap)(A:Xl)(outer:Xm Env)(s:Xh)(H:Hp):Prop where
 frames:A.frames=some outer
 mod:Mod K mg base
 bs:∀b o,base.get? b=some o->s.heap.get? b=some o/\H b=none
 bsz:base.objs.size<=s.heap.objs.size
 nX:s.heap.FunFrames base outer
 frf:∀b∈Bj outer,H b=none
 hok:gM P w H s.heap
 bare:AllBare s.gens
def CE(outer:Xm Env)(P:Xi)(w:Xj)(H:Hp)(s:Xh)(Q:VK)(u:Xf)(s':Xh):Prop:=
 ∃v a,s'.os=s.os/\AllBare s'.gens/\Un (Bj outer) [] H a s.heap s'.heap/\gM P w a s'.heap/\RelV v u/\Q v a
def CR(CX:Jz)(outer:Xm Env)(P:Xi)(w:Xj)(H:Hp)(s:Xh)(Q:VK)(E:XK)(r:Result)(s':Xh):Prop:=
 match r with
 |.ok (.ret u)=>CE outer P w H s Q u s'
 |.ok _=>False
 |.error e=>CX outer H s E e s'
structure fq(P:Xi)(w:Xj)(K:Frag)(mg:Xr)(base:Heap)(CX:Jz)(k:Nat)(f:Xg)(fd:FuncData)(ps:Xm Xn)(sp:Sp):Prop where
 len:∀vs H Q E,sp vs H Q E->vs.length=ps.length
 run:∀(A:Xl) (outer:Xm Env) (s:Xh) (H:Hp) (args:Args) (us:Xm Xf) (vs:Xm V) (Q:VK) (E:XK),dP k A->qT P w K mg base A outer s H->BindsTo s fd args (ps.zip us)->Vals vs us->sp vs H Q E->
  codeAny (model P w) A (.call (.ref f) args) (CR CX outer P w H s Q E) s
def qT.make{K:Frag}{a:Xr}{base:Heap}{A:Xl}{outer:Xm Env}{s:Xh}{H:Hp}(e:qT P w K a base A outer s H)(C:Xg)(us:Xm Xf)(kw:Xm (Xn×Xf)):
  qT P w K a base (A.under<|.builtin "type.__call__" ⟨.ref C::us,kw⟩) outer s H:=⟨by first|exact e.frames| (simpa [Around.under,Code.envs,Code.isFrame,pushEnvs] using e.frames),e.mod,e.bs,e.bsz,e.nX,e.frf,e.hok,e.bare⟩
def qT.in1{K:Frag}{a:Xr}{base:Heap}{A:Xl}{outer:Xm Env}{s:Xh}{H:Hp}(e:qT P w K a base A outer s H):
  qT P w K a base A.in1 outer s H:=⟨e.frames,e.mod,e.bs,e.bsz,e.nX,e.frf,e.hok,e.bare⟩
def Inv.Lo(I:Inv X Xs σ H s):qT X.prog X.w X.K X.mg X.base X.A X.stack s H:=
 ⟨I.ok.frames,I.ok.mod,I.bs,Rn I.ok.bsz I.sz,I.stack,I.zf,I.hok,I.bare⟩
def Inv.after(I:Inv X Xs σ H s)(h:CE X.stack X.prog X.w H s Q u s'):EP X Xs σ Q u s':=by
 obtain⟨v,j,f,bare,un,a,r,q⟩:=h;obtain⟨i,g,d,t,e⟩:=s';obtain rfl:e=s.os:=f;exact⟨v,j,I.call (h':=i) (g':=g) (d':=d) (t':=t) un a bare λb z=>absurd z<|by simp,r,q⟩
def pY(sp:Sp)(a:Xm V)(E:XK)(t:TA):TE:=λσ H Q=>t σ H λe H1=>sp (e++a) H1 Q E
inductive MethP(C:Xg)(m:Xn)(x:V)(H:Hp)(G:Prop):Prop
 |mk(a e:Xg)(fs:Xm (Xn×V))(f:x=.ref a)(h:H a=some (.ins C e fs))(l:fs.lookup m=none)(q:G)
def IF(C:Xg)(m:Xn)(sp:Sp)(f:Xm V)(E:XK)(ta:TE)(t:TA):TE:=λσ H Q=>ta σ H λx H1=>MethP C m x H1<|t σ H1 λe a=>sp (x::(e++f)) a Q E
def Ja(C:Xg)(sp:Sp)(g:Xm V)(E:XK)(t:TA):TE:=λσ H Q=>t σ H λf H1=>∀x a,H1 x=none->H1 a=none->a≠x->
 sp (.ref x::(f++g)) (upd (upd H1 a<|.own x) x<|.ins C a []) (λv e=>v=.non/\Q (.ref x) e) E
def Binds(K:Frag)(fd:FuncData)(ps:Xm Xn)(ds:Xm Xf):Prop:=
 ∀(s:Xh) (us:Xm Xf),K.In s.heap->(us++ds).length=ps.length->BindsTo s fd ⟨us,[]⟩ (ps.zip<|us++ds)
def Binds.all{K:Frag}(h:∀us:Xm Xf,us.length=ps.length->bindArgs fd ⟨us,[]⟩=pure (ps.zip us)):Binds K fd ps []:=λs us _ a=>by
 rw[Rm]at a ⊢;exact .of_eq<|h us a
def Passes(CX:Jz)(X:Cx)(E:XK):Prop:=∀(f:Xq) (σ:St) (H:Hp) (s:Xh) (e:Xf) (a:Xh),Inv X f σ H s->CX X.stack H s E e a->X.xe e a
def Fe(F:fq X.prog X.w X.K X.mg X.base CX k f fd ps sp)(hr:dP k X.A)(j:Binds X.K fd ps ds)(hd:Vals X7 ds)(l:Passes CX X E)
  (I:Inv X Xs σ H s)(r:Vals vs us)(h:sp (vs++X7) H Q E):wpAny (model X.prog X.w) X.A (call (.ref f) us) (EP X Xs σ Q) X.xe s:=by
 have g:=r.append hd;refine VU (Te (F.run X.A X.stack s H ⟨us,[]⟩ (us++ds) (vs++X7) Q E hr I.Lo (j s us I.oI<|by rw[<-g.length];exact F.len _ _ _ _ h) g h) λr i a=>?_);cases r with
 |error e=>exact l Xs σ H s e i I a
 |ok fl=>
  cases fl with
  |ret u=>exact I.after a
  |next=>exact False.elim a
  |brk=>exact False.elim a
  |cont=>exact False.elim a
def zF(F:fq X.prog X.w X.K X.mg X.base CX k f fd ps sp)(hr:dP k X.A)(l:Gl X x)(hm:X.mg x=some (.ref f))(m:keepIn X.K (.ref f)=true)(j:Binds X.K fd ps ds)(hd:Vals X7 ds)(o:Passes CX X E)
  (v:PA X (e::es) t) (a:(x==("__debug__" :Xn))=false:=by decide) (he:starEach (e::es) X.env=(false,eval e X.env)::starEach es X.env:=by rfl) (n:(backTo pos<|starEach es X.env).any (·.1)=false:=by rfl):
  PE X (.Call (.Name x p) (e::es) [] pos) (pY sp X7 E t):=by
 intro i s σ H Q I h;refine SU<|o6 I l hm ?_ a;refine callWith_K I.ok.mod.kin m (cX (v pos i s σ H _ I h) λB z ⟨y,H1,g,r,q⟩=>⟨g.oI,?_⟩) he n;exact Fe F hr j hd o g r q
def C3(he:PE X o ta)(c:Ac X.K C)(hm:Meth X.K C m f)(F:fq X.prog X.w X.K X.mg X.base CX k f fd ps sp)(hr:dP k X.A)(r:Binds X.K fd ps ds)(hd:Vals X7 ds)(y:Passes CX X E)
  (p:eval (.Call (.Attribute o m Xy) [] [] pos) X.env=(do
   let i <-eval o X.env
   standAt Xy.atName
   let (f,first) <-holding [i] (getMethod i m pl)
   callWith pos f first (backTo pos<|starEach [] X.env) (backToKw pos<|keywordEach [] X.env)):=by rfl):
  PE X (.Call (.Attribute o m Xy) [] [] pos) (IF C m sp X7 E ta kT):=by
 intro n s σ H Q I h;refine PySem.W.methodCall_KW (cX (he n s σ H _ I h) λu B e=>?_) p;obtain⟨x,H1,g,v,a,D,fs,j,z,l,q⟩:=e;subst j;obtain rfl:u=Value.ref a:=v;exact xJ g z c hm l <| PySem.W.callWith_K0 g.oI hm.kp (Fe (vs:=[.ref a]) F hr r hd y g (.cons rfl .nil) q)
structure Mk(K:Frag)(C f:Xg):Prop where
 makes:makesIn K C=true
 init:findIn K (.ref C) "__init__" =some (some (.ref f))
 fn:isFn K (.ref f)=true
 kp:keepIn K (.ref C)=true
def CL(M:Mk X.K C f)(F:fq X.prog X.w X.K X.mg X.base CX k f fd ps sp)(hr:dP (k+1) X.A)(n:Binds X.K fd ps ds)(hd:Vals X7 ds)
  (B:Passes CX X E)(I:Inv X Xs σ H s)(r:Vals vs us)
  (h:∀x i,H x=none->H i=none->i≠x->sp (.ref x::(vs++X7)) (upd (upd H i<|.own x) x<|.ins C i []) (λv D=>v=.non/\Q (.ref x) D) E):
  wpAny (model X.prog X.w) X.A (call (.ref C) us) (EP X Xs σ Q) X.xe s:=by
 have j:=h (s.heap.objs.size+1) s.heap.objs.size (I.hok.fresh<|TX _) (I.hok.fresh<|QJ _)<|QU<|Tn _;have g:=Inv.made (C:=C) I;have l:Vals (V.ref (s.heap.objs.size+1)::(vs++X7)) (Value.ref (s.heap.objs.size+1)::(us++ds)):=.cons rfl<|r.append hd;have z:(Value.ref (s.heap.objs.size+1)::us++ds).length=ps.length:=by
  have e:=l.length;rw[F.len _ _ _ _ j]at e;exact e.symm
 refine VU (EU I.oI M.makes M.init (Vq.mp M.fn) (Te (F.run _ X.stack _ _ ⟨Value.ref (s.heap.objs.size+1)::us,[]⟩ (Value.ref (s.heap.objs.size+1)::(us++ds)) _ _ E (hr.make C us [])
  (g.Lo.make C us []) (n _ (Value.ref (s.heap.objs.size+1)::us) g.oI z) l j) λr m a=>?_))
 cases r with
 |error e=>exact B Xs σ _ _ e m g a
 |ok fl=>
  cases fl with
  |ret u=>
   obtain⟨v,G,p,y,o,q⟩:=g.after a;subst o;exact⟨y,⟨V.ref<|s.heap.objs.size+1,G,p,rfl,q⟩⟩
  |next=>exact False.elim a
  |brk=>exact False.elim a
  |cont=>exact False.elim a
def Gu(M:Mk X.K C f)(F:fq X.prog X.w X.K X.mg X.base CX k f fd ps sp)(hr:dP (k+1) X.A)(l:Gl X x)(hm:X.mg x=some (.ref C))(n:Binds X.K fd ps ds)(hd:Vals X7 ds)(o:Passes CX X E)
  (i:PA X (e::es) t) (a:(x==("__debug__" :Xn))=false:=by decide) (he:starEach (e::es) X.env=(false,eval e X.env)::starEach es X.env:=by rfl) (m:(backTo pos<|starEach es X.env).any (·.1)=false:=by rfl):
  PE X (.Call (.Name x p) (e::es) [] pos) (Ja C sp X7 E t):=by
 intro j s σ H Q I h;refine SU<|o6 I l hm ?_ a;refine callWith_K I.ok.mod.kin M.kp (cX (i pos j s σ H _ I h) λv z ⟨y,H1,g,r,q⟩=>⟨g.oI,?_⟩) he m;exact CL M F hr n hd o g r q
structure cK(N P:Xm Xn)(sc:Scope):Prop where
 kind:sc.kind=.function:=by rfl
 co:sc.isCoroutine=false:=by rfl
 gen:sc.isGenerator=false:=by rfl
 nd:N.Nodup:=by decide+kernel
 pre:N.take P.length=P:=by rfl
 par:∀x∈P,sc.names.lookup x=some .local\/sc.names.lookup x=some .cell:=by decide+kernel
 nofree:∀y∈sc.names,y.2≠.free:=by decide+kernel
theorem rZ{kindOf:Xn->Xk NameKind}{x:Xn}:∀{binds:Xm (Xn×Xf)}{m:Xr},(∀v,(x,v) ∉ binds)->bindL kindOf binds m x=m x
 |[],_,_=>rfl
 | (n,v)::r,m,h=>by
  unfold bindL;rw[rZ λw a=>h w<|Ry _ a];split
  ·grind
  ·rfl
theorem tq{kindOf:Xn->Xk NameKind}{x:Xn}:∀{binds:Xm (Xn×Xf)}{m:Xr},(∀v,(x,v) ∉ binds)->bindC kindOf binds m x=m x
 |[],_,_=>rfl
 | (n,v)::r,m,h=>by
  unfold bindC;rw[tq λw a=>h w<|Ry _ a];split
  ·rfl
  ·grind
theorem rO{kindOf:Xn->Xk NameKind}{x:Xn}{v:Xf}:∀{P:Xm Xn}{vs:Xm Xf}{i:Nat}{m:Xr},P.Nodup->P[i]? =some x->vs[i]? =some v->kindOf x=some .local->
  bindL kindOf (P.zip vs) m x=some v
 |[],_,_,_,_,h,_,_=>by simp at h
 |_::_,[],_,_,_,_,h,_=>by simp at h
 |p::P,w::vs,0,m,nd,h1,h2,hk=>by
  simp at h1 h2;subst h1;subst h2;show bindL kindOf ((p,w)::P.zip vs) m p=_;unfold bindL;rw[rZ λv a=>(Sw.mp nd).1 (WO a).1,QI hk];simp
 |p::P,w::vs,i+1,m,nd,h1,h2,hk=>by
  show bindL kindOf ((p,w)::P.zip vs) m x=_;unfold bindL;exact rO (Sw.mp nd).2 (by simpa using h1) (by simpa using h2) hk
theorem sU{kindOf:Xn->Xk NameKind}{x:Xn}{v:Xf}:∀{P:Xm Xn}{vs:Xm Xf}{i:Nat}{m:Xr},P.Nodup->P[i]? =some x->vs[i]? =some v->kindOf x≠some .local->
  bindC kindOf (P.zip vs) m x=some v
 |[],_,_,_,_,h,_,_=>by simp at h
 |_::_,[],_,_,_,_,h,_=>by simp at h
 |p::P,w::vs,0,m,nd,h1,h2,hk=>by
  simp at h1 h2;subst h1;subst h2;show bindC kindOf ((p,w)::P.zip vs) m p=_;unfold bindC;rw[tq λv a=>(Sw.mp nd).1 (WO a).1,QG hk];simp
 |p::P,w::vs,i+1,m,nd,h1,h2,hk=>by
  show bindC kindOf ((p,w)::P.zip vs) m x=_;unfold bindC;exact sU (Sw.mp nd).2 (by simpa using h1) (by simpa using h2) hk
def start(N:Xm Xn)(vs:Xm V):St:=vs.map some++List.replicate (N.length-vs.length) none
def BA(CX:Jz)(P:Xi)(w:Xj)(K:Frag)(mg:Xr)(base:Heap)(N:Xm Xn)(g:Xn)(scope:Scope)(f:Xg)(cd:Xf)(A:Xl)(outer:Xm Env)(s:Xh)(H:Hp)(E:XK):Cx where
 prog:=P
 w:=w
 K:=K
 mg:=mg
 base:=base
 A:=A.deeper<|envOfC g scope s.heap.objs.size f cd
 N:=N
 s₀:=s
 H₀:=H
 env:=envOfC g scope s.heap.objs.size f cd
 outer:=outer
 stack:=envOfC g scope s.heap.objs.size f cd::outer
 ex:=[]
 calm:=true
 fn:=λ_=>true
 pn:=[]
 xe:=λe h=>wpAny (model P w) (A.deeper<|envOfC g scope s.heap.objs.size f cd) (leaving (envOfC g scope s.heap.objs.size f cd) e) (λ_ a=>CX outer H s E e a) (λi a=>CX outer H s E i a) h
def vM{sc:Scope}(h:sc.names.lookup x=some .cell):∃c,(cellsFrom n sc.names []).lookup x=some c:=Wd.mp<|Wx sc.names n []<|.inl h
def BC{w:Xj}{K:Frag}{F:Xr}{base:Heap}{N ps:Xm Xn}{B:Xn}{scope:Scope}{f:Xg}{cd:Xf}{A:Xl}{outer:Xm Env}{s s1:Xh}{H:Hp}{E:XK}{us:Xm Xf}{vs:Xm V}
  (S:cK N ps scope)(hd:A.handled=none)(j:qT P w K F base A outer s H)(O:vs.length=ps.length)(r:Vals vs us)
  (x:InCallC s s.heap.objs.size (bindL (envOfC B scope s.heap.objs.size f cd).kindOf (ps.zip us) λ_=>none) (cellsFrom (s.heap.objs.size+1) scope.names []) (bindC (envOfC B scope s.heap.objs.size f cd).kindOf (ps.zip us) λ_=>none) s1):
  Inv (BA CX P w K F base N B scope f cd A outer s H E) [] (start N vs) H s1:=by
 have R:ps.length<=N.length:=by have:=RH List.length S.pre;rw[RK]at this;lia
 obtain⟨C,M,rfl,G⟩:=x.done;have m:∀b:Xg,b ∉ (BA CX P w K F base N B scope f cd A outer s H E).ex:=λb z=>absurd (show b∈([]:Xm Xg) from z) (by simp);refine⟨⟨j.mod,S.kind,rfl,rfl,QJ _,λy z c C g=>?_,λy l=>?_,λy c _ h=>?_,λ_=>hd,Around.frames_deeper j.frames,.inr ⟨rfl,rfl⟩,λb z=>absurd z<|m b,j.bs,j.bsz,λb _ _=>m b,λb z=>absurd z<|m b,j.nX,j.frf⟩,
  rfl,j.bare,Un.kept G,⟨_,x.toInCall.ns,λi y v C g Q=>?_⟩,λy c h=>⟨_,x.cell y c h⟩,j.hok.fresh<|QJ _,λy c h=>?_,λp n=>absurd (show p∈([]:Xq) from n)<|by simp,j.hok.kept G,?_⟩
 ·exact name_of_addr x.apart (SF C)<|SF g
 ·have l:scope.names.lookup y=some .cell\/scope.names.lookup y=some .free:=l
  obtain l|l:=l
  ·exact vM l
  ·exact absurd rfl<|S.nofree _<|SF l
 ·exact Vo<|x.above y c<|SF h
 ·have D:i<vs.length:=by
   unfold start at g;by_cases D:i<vs.length
   ·exact D
   ·rw[QQ<|by simpa using D]at g
    rw[Wk]at g;split at g<;>cases g
  have L:vs[i]? =some v:=by
   unfold start at g;rw[QX<|by simpa using D,QR]at g;cases e:vs[i]? with
   |none=>rw[e]at g;cases g
   |some a=>rw[e]at g;cases g;rfl
  obtain⟨u,I,J⟩:=r.get L;have n:ps[i]? =some y:=by
   rw[<-S.pre,Sl<|by lia];exact C
  have o:ps.Nodup:=by rw[<-S.pre];exact S.nd.sublist<|VC _ _
  refine⟨u,J,?_⟩;obtain k|k:=S.par y (QH n)
  ·exact .inl ⟨k,rO o n I k⟩
  ·obtain⟨c,e⟩:=vM k
   refine .inr ⟨.inl k,c,e,?_⟩;have q:=x.cell y c e;rw[sU o n I<|by show scope.names.lookup y≠_;rw[k];decide]at q;exact q
 ·exact j.hok.fresh<|Vo<|x.above y c<|SF h
 ·unfold start
  show _=N.length;rw[QC,QF,WQ];lia
def Mc{w:Xj}{K:Frag}{B:Xr}{base:Heap}{k:Nat}{f:Xg}{name h:Xn}{params:Arguments}{body:Xm Stmt}{scope:Scope}{G kV F pm j ct L:Xf}{an od:Xk Xg}
  {R:Array (Xk Xf)}{N ps:Xm Xn}{sp:Sp}(I:K.lookup f=some ⟨L,od,.func<|fnOf name h params body scope G kV F pm an j ct,R⟩) (Yn:codeIn K j h=true) (S:cK N ps scope)
  (len:∀vs H Q E,sp vs H Q E->vs.length=ps.length)
  (Z:∀(A:Xl) (outer:Xm Env) (s:Xh) (H:Hp) (vs:Xm V) (Q:VK) (E:XK),dP k (A.deeper<|envOfC h scope s.heap.objs.size f j)->sp vs H Q E->
   ∃t,yR (BA CX P w K B base N h scope f j A outer s H E) body t/\t { nx:=λ_ H'=>Q .non H',rt:=Q } (start N vs) H):
  fq P w K B base CX (k+1) f (fnOf name h params body scope G kV F pm an j ct) ps sp:=by
 refine⟨len,λA outer s H args us vs Q E hr l M r D=>?_⟩;have C:=l.mod.kin.keeps λb o e=>(l.bs b o e).1;have g:∀y∈ps.zip us,scope.names.lookup y.1=some .local\/(scope.names.lookup y.1=some .cell/\((cellsFrom (s.heap.objs.size+1) scope.names []).lookup y.1).isSome=true):=λ⟨n,v⟩ X=>by
  obtain q|q:=S.par n (WO X).1
  ·exact .inl q
  ·exact .inr ⟨q,Wx _ _ _<|.inl q⟩
 refine codeAny_call_function hr.depth (C _ _ I) rfl S.co S.gen rfl (PySem.W.codeRec_of C Yn)<|M _ _ _ _ ?_;refine wpAny_newFunctionEnv_cells S.kind g λU he Y x=>?_;subst he;refine⟨(l.mod.nolimit.keeps λb o e=>(l.bs b o e).1).keeps x.toInCall.keep,codeAny_func ?_⟩;obtain⟨t,O,T⟩:=Z A outer s H vs Q E (hr.deeper _) D;refine RQ (O [] Y (start N vs) H _ (BC S hr.hd l (len _ _ _ _ D) r x) T) (λfl p i=>?_) λe p i=>i;have m:∀{a:St}{H':Hp}{v:V}{u:Xf},Inv (BA CX P w K B base N h scope f j A outer s H E) [] a H' p->RelV v u->Q v H'->CE outer P w H s Q u p:=
  λ{a H' v u} J z q=>⟨v,H',J.os,J.bare,J.base,J.hok,z,q⟩
 cases fl with
 |ret u=>
  obtain⟨v,a,H',J,z,q⟩:=i;exact m J z q
 |next=>
  obtain⟨a,H',J,q⟩:=i;exact m (v:=V.non) (u:=Value.none) J rfl q
 |brk=>
  obtain⟨_,_,_,q⟩:=i;exact False.elim q
 |cont=>
  obtain⟨_,_,_,q⟩:=i;exact False.elim q
section
variable {id:String}{T:String}{r:Xm V->Hp->VK->Prop}
def L5(r:Xm V->Hp->VK->Prop)(t:TA):TE:=λσ H Q=>t σ H λa H1=>r a H1 Q
def iE (w:eK X (.builtin id) r) (n:Gl X x) (hm:X.mg x=none) (j:bootBuiltins x=some (.builtin id)) (l:PA X (e::es) t) (y:x≠ "__name__" :=by decide) (a:(x==("__debug__" :Xn))=false:=by decide)
  (he:starEach (e::es) X.env=(false,eval e X.env)::starEach es X.env:=by rfl)(q:(backTo pos<|starEach es X.env).any (·.1)=false:=by rfl):PE X (.Call (.Name x p) (e::es) [] pos) (L5 r t):=by
 intro f s σ H Q I h;refine SU<|jd I n hm j ?_ y a;exact PyProof.Rows.callWith_builtin1 (cX (l pos f s σ H _ I h) λg o ⟨i,H1,v,m,q1⟩=>w f o σ H1 i g Q v m q1) he q
def B9 (w:eK X (.type T) r) (n:Gl X x) (hm:X.mg x=none) (j:bootBuiltins x=some (.type T)) (l:PA X (e::es) t) (y:x≠ "__name__" :=by decide) (a:(x==("__debug__" :Xn))=false:=by decide)
  (he:starEach (e::es) X.env=(false,eval e X.env)::starEach es X.env:=by rfl)(q:(backTo pos<|starEach es X.env).any (·.1)=false:=by rfl):PE X (.Call (.Name x p) (e::es) [] pos) (L5 r t):=by
 intro f s σ H Q I h;refine SU<|jd I n hm j ?_ y a;exact Sd (cX (l pos f s σ H _ I h) λg o ⟨i,H1,v,m,q1⟩=>w f o σ H1 i g Q v m q1) he q
end
end L2
namespace HT
def iq(n d:Nat):Xk Int->Nat
 |none=>d
 |some v=>if v<0 then(v+(n:Int)).toNat else min v.toNat n
def jK(n d:Nat):iq n d none=d:=rfl
def lT(n d k:Nat):iq n d (some (k:Int))=min k n:=by
 show(if(k:Int)<0 then((k:Int)+(n:Int)).toNat else min (k:Int).toNat n)=min k n;rw[QG<|by lia,VD]
def Ku(n d:Nat)(hd:d<=n)(o:Xk Int):iq n d o<=n:=by
 cases o with
 |none=>exact hd
 |some v=>
  show(if v<0 then(v+(n:Int)).toNat else min v.toNat n)<=n;by_cases a:v<0
  ·rw[QI a];lia
  ·rw[QG a];exact VM _ _
def Fs(a b:Nat):((min a b:Nat):Int)=min (a:Int) (b:Int):=by lia
end HT
namespace L2
abbrev TO:=St->Hp->(Xk Int->Hp->Prop)->Prop
def PO(X:Cx)(e:Xk Expr)(t:TO):Prop:=
 ∀(a:Xq) (s:Xh) (σ:St) (H:Hp) (Q:Xk Int->Hp->Prop),Inv X a σ H s->t σ H Q->
  wpAny (model X.prog X.w) X.A (evalPart e X.env) (λu g=>∃o f,Inv X a σ f g/\IsPart u o/\Q o f) X.xe s
def Aw:TO:=λ_ H Q=>Q none H
inductive OE(x:V)(H:Hp)(Q:Xk Int->Hp->Prop):Prop
 |mk(i:Int)(h:x=.int i)(q:Q (some i) H)
def IA(t:TE):TO:=λσ H Q=>t σ H λx H1=>OE x H1 Q
def intsAre_of{ns:Xm Int}:∀{us:Xm Xf},Vals (ns.map V.int) us->IntsAre us ns:=by
 induction ns with
 |nil=>intro us r;rw[map_nil]at r;cases r;exact .nil
 |cons n ns f=>
  intro us r;rw[RC]at r;cases r with
  |cons g a=>
   obtain⟨t,e⟩:=g;subst e;exact .cons n t<|f a
section
variable {te:TE}{lo:Xk Expr}{hi:Xk Expr}{tl:TO}{th:TO}{pos:Pos}{p2:Pos}
def Gm:PO X none Aw:=by
 intro a s σ H Q I h;rw[evalPart_none];exact QA ⟨none,H,I,.none,h⟩
def GL(h:PE X e te):PO X (some e) (IA te):=by
 intro g s σ H Q I f;rw[evalPart_some];refine cX (h g s σ H _ I f) λu m a=>?_;obtain⟨x,H1,l,j,q1⟩:=a;obtain⟨i,rfl,q⟩:=q1;obtain⟨t,rfl⟩:=j;exact⟨some i,H1,l,.int i t,q⟩
def Om(X:Cx)(r:V->Xk Int->Xk Int->Hp->VK->Prop):Prop:=
 ∀(a:Xq) (s:Xh) (σ:St) (H:Hp) (x:V) (v f e:Xf) (lo g:Xk Int) (sl:Xg) (Q:VK),Inv X a σ H s->RelV x v->s.heap.IsSliceOf sl f e .none->IsPart f lo->IsPart e g->r x lo g H Q->
  ∃T id,typeLookup (.type T) "__getitem__" =pure (some<|.builtin id)/\s.TypeIs v T/\wpAny (model X.prog X.w) X.A (getItem v<|.ref sl) (EP X a σ Q) X.xe s
def PY(r:V->Xk Int->Xk Int->Hp->VK->Prop)(e:TE)(f g:TO):TE:=λσ H Q=>e σ H λx H1=>f σ H1 λl a=>g σ a λu h=>r x l u h Q
def DY(hr:Om X r)(he:PE X e te)(G:PO X lo tl)(L:PO X hi th):PE X (.Subscript e (.Slice lo hi none p2) pos) (PY r te tl th):=by
 intro g s σ H Q I h;refine Subscript_<|cX (he g s σ H _ I h) λv M a=>?_;obtain⟨x,H1,z,n,q1⟩:=a;refine wpAny_Slice<|cX (G g M σ H1 _ z q1) λj C ⟨l,N,F,J,O⟩=>cX (L g C σ N _ F O) λi f a=>?_;obtain⟨u,m,B,K,E⟩:=a;rw[evalPart_none];refine QA ?_;have o:Inv X g σ m { f with heap:=f.heap.push { cls:=.type "slice",data:=.fields #[j,i,.none] } }:=B.kept (t':=f.toks) λb ob q=>QE _ q;obtain⟨T,id,D,p,y⟩:=hr g { f with heap:=f.heap.push { cls:=.type "slice",data:=.fields #[j,i,.none] } } σ m x v j i l u f.heap.objs.size Q o n (Heap.IsSliceOf.new ..) J K E;show wpAny (model X.prog X.w) X.A (subscriptTail e (.Slice lo hi none p2) v<|.ref f.heap.objs.size) (EP X g σ Q) X.xe { f with heap:=f.heap.push { cls:=.type "slice",data:=.fields #[j,i,.none] } };exact tail_any p D y (by with_unfolding_all rfl)
def d6(xs:Xm V)(lo a:Xk Int):Xm V:=(xs.drop<|HT.iq xs.length 0 lo).take<|HT.iq xs.length xs.length a-HT.iq xs.length 0 lo
def jA(xs:Xm V)(lo a:Xk Int):(d6 xs lo a).length<=xs.length:=by
 unfold d6;rw[RK,So];exact Rn (VM _ _)<|sub_le _ _
end
def LZ(n:Nat)(i:Int):Xk Nat:=if 0<=i then(if i<n then some i.toNat else none) else if -(n:Int)<=i then some (i+n).toNat else none
def qQ{α:Type}(xs:Xm α)(i:Int):Xk α:=(LZ xs.length i).bind λj=>xs[j]?
def F4(h:LZ n i=some j):seqIndex? i n=some j/\j<n/\ -(n:Int)<=i/\i<n:=by
 unfold LZ at h;by_cases f:0<=i
 ·rw[QI f]at h
  by_cases a:i<n
  ·rw[QI a]at h
   have e:=Ri h;exact⟨by rw[seqIndex_of f a,e],by lia,by lia,a⟩
  ·rw[QG a]at h;cases h
 ·rw[QG f]at h
  by_cases a: -(n:Int)<=i
  ·rw[QI a]at h
   have e:=Ri h;exact⟨by rw[seqIndex_neg (by lia) a,e],by lia,a,by lia⟩
  ·rw[QG a]at h;cases h
def tU{α:Type}{xs:Xm α}{i:Int}{v:α}(h:qQ xs i=some v):∃j,seqIndex? i xs.length=some j/\xs[j]? =some v/\j<xs.length/\ -(xs.length:Int)<=i/\i<xs.length:=by
 unfold qQ at h;cases e:LZ xs.length i with
 |none=>rw[e]at h;cases h
 |some j=>
  rw[e]at h;obtain⟨g,a,l,f⟩:=F4 e;exact⟨j,g,h,a,l,f⟩
def dq{j:Nat}{v:α}(h:xs[j]? =some v):qQ xs (j:Int)=some v:=by
 have a:=(gI0.mp h).1;have e:LZ xs.length (j:Int)=some j:=by
  unfold LZ;rw[QI<|by lia,QI<|by lia];simp
 unfold qQ;rw[e];exact h
def dU(b:Expr):Prop:=∀o i,subscripted b false o i=operate [o,i] (getItem o i)
def L9(X:Cx)(r:R2):Prop:=
 ∀(value slice:Expr) (a:Xq) (s:Xh) (σ:St) (H:Hp) (x y:V) (v u:Xf) (Q:VK),Inv X a σ H s->RelV x v->RelV y u->r x y H Q->
  subscripted slice false v u=operate [v,u] (getItem v u)->wpAny (model X.prog X.w) X.A (subscriptTail value slice v u) (EP X a σ Q) X.xe s
def Px(X:Cx)(id:String)(r:V->Xm V->Hp->VK->Prop):Prop:=
 ∀(a:Xq) (s:Xh) (σ:St) (H:Hp) (x:V) (xs:Xm V) (v:Xf) (us:Xm Xf) (Q:VK),Inv X a σ H s->RelV x v->Vals xs us->r x xs H Q->
  wpAny (model X.prog X.w) X.A (call (.builtin id) (v::us)) (EP X a σ Q) X.xe s
section
variable {tb:TE}{pos:Pos}
def Nc{r:R2}(hr:L9 X r)(o:PE X a ta)(f:PE X b tb)(l:dU b):PE X (.Subscript a b pos) (Fg r ta tb):=by
 intro e s σ H Q I h;exact Subscript_<|Ly o f I h λv u g x y n i j m q=>hr a b e g σ n x y v u Q i j m q<|l _ _
inductive Ox(S:Xg->Xm V->Prop)(x y:V)(H:Hp)(Q:VK):Prop
 |mk(p:Xg)(xs:Xm V)(i:Int)(v:V)(f:x=.ref p)(a:y=.int i)(s:S p xs)(e:qQ xs i=some v)(q:Q v H)
inductive OC(x y:V)(H:Hp)(Q:VK):Prop
 |mk(z:Xn)(i:Int)(c:Nat)(f:x=.str z)(a:y=.int i)(s:z.length<=sizeLine)(e:qQ z.cps.toList i=some c)(q:Q (.str ⟨#[c]⟩) H)
def xT{K:Frag}{H:Hp}{p:Xg}{xs:Xm V}{i:Int}{v:V}{Q:VK}(h:H p=some (.tup xs))(e:qQ xs i=some v)(q:Q v H):Ox (fh K H) (.ref p) (.int i) H Q:=⟨p,xs,i,v,rfl,rfl,fh.of h,e,q⟩
def xL{K:Frag}{H:Hp}{p:Xg}{xs:Xm V}{i:Int}{v:V}{Q:VK}(h:H p=some (.lst xs))(e:qQ xs i=some v)(q:Q v H):Ox (cN K H) (.ref p) (.int i) H Q:=⟨p,xs,i,v,rfl,rfl,cN.of h,e,q⟩
def K8(K:Frag):R2:=λx y H Q=>Ox (cN K H) x y H Q
def Js(K:Frag):R2:=λx y H Q=>Ox (fh K H) x y H Q
def Mo:R2:=λx y H Q=>OC x y H Q
def zP:L9 X (K8 X.K):=by
 intro value slice B s σ H x y v u Q I J L h o;obtain⟨p,O,i,z,rfl,rfl,C,M,q⟩:=h;cases J;obtain⟨t,rfl⟩:=L;obtain⟨F,r,g,N⟩:=I.list C;obtain⟨j,e,A,P,D,E⟩:=tU M;obtain⟨w,n,f⟩:=r.get A;have G:=r.length;have R:=qc;have a:EP X B σ Q w s:=⟨z,H,I,f,q⟩;by_cases m:0<=i
 ·have l:i.toNat=j:=by
   rw[seqIndex_of m E]at e;exact Ri e
  exact item_listR g.isList m (by lia) (by rw[l];simpa using n) a o
 ·have l:(i+(F.toArray.size:Int)).toNat=j:=by
   rw[seqIndex_neg (by lia) D]at e;rw[Rl,<-G];exact Ri e
  exact subscriptTail_builtinR g.isList.typeIs slot_list_getitem.lookup
   (wpAny_getItem_list_neg g.isList (by lia) (by rw[Rl]<;>lia) (by lia) (by rw[l];simpa using n) ⟨rfl,a⟩) o
def Ej:L9 X (Js X.K):=by
 intro value slice B s σ H x y v u Q I m o h n;obtain⟨p,L,i,z,rfl,rfl,g,A,q⟩:=h;cases m;obtain⟨t,rfl⟩:=o;obtain⟨F,r,e,G⟩:=I.tuple g;obtain⟨j,D,f,M,C,E⟩:=tU A;obtain⟨w,l,a⟩:=r.get f;have J:=r.length;have N:=qc;exact subscriptTail_builtinR e.typeIs slot_tuple_getitem.lookup
  (getItem_tuple (j:=j) e (by lia) (by lia) (by grind) (by simpa using l) ⟨rfl,⟨z,H,I,a,q⟩⟩) n
def yi:L9 X Mo:=by
 intro value slice A s σ H x y v u Q I n p h o;obtain⟨z,i,c,rfl,rfl,C,w,q⟩:=h;obtain⟨t,rfl⟩:=n;obtain⟨B,rfl⟩:=p;obtain⟨j,a,e,D,f,g⟩:=tU w;have m:z.cps.toList.length=z.length:=by simp[Str.length]
 rw[m]at a f g;have E:=qc;exact tail_any (typeIs_str s z t) slot_str_getitem.lookup (getItem_str (by
  have r:decide (i < -(2^63:Int))=false:=QM (by lia);have l:decide (i ≥ 2^63)=false:=QM (by lia);rw[r,l,Bool.or_false]) (by rw[a];simpa using e) ⟨.str ⟨#[c]⟩,H,I.tok _,⟨_,rfl⟩,q⟩) o
def DB(v:Int)(n d:Nat):max 0 (min (if v<0 then v+(n:Int) else v) (n:Int))=((HT.iq n d (some v):Nat):Int):=by
 show _=(((if v<0 then(v+(n:Int)).toNat else min v.toNat n):Nat):Int);by_cases a:v<0
 ·rw[QI a,QI a,Int.toNat_eq_max,Int.max_comm,Int.min_eq_left<|by lia]
 ·rw[QG a,QG a,HT.Fs,Sg<|Int.not_lt.mp a]
  exact Int.max_eq_right<|Int.le_min.mpr ⟨Int.not_lt.mp a,Int.natCast_nonneg n⟩
def uF(lo a:Xk Int)(n:Nat):(sliceBounds lo a none n).1=((HT.iq n 0 lo:Nat):Int)/\(sliceBounds lo a none n).2.1=((HT.iq n n a:Nat):Int)/\(sliceBounds lo a none n).2.2=1:=by
 refine⟨?_,?_,rfl⟩
 ·cases lo with
  |none=>simp[sliceBounds,HT.iq]
  |some i=>
   simp only[sliceBounds,getD_none,show(1:Int) > 0 by decide,if_true];exact DB i n 0
 ·cases a with
  |none=>simp[sliceBounds,HT.iq]
  |some i=>
   simp only[sliceBounds,getD_none,show(1:Int) > 0 by decide,if_true];exact DB i n n
def qM(a:Xm Xf)(lo e:Xk Int):slicePick a.toArray lo e none=((a.drop<|HT.iq a.length 0 lo).take<|HT.iq a.length a.length e-HT.iq a.length 0 lo).toArray:=by
 obtain⟨g,f,h⟩:=uF lo e a.toArray.size;unfold slicePick;rw[g,f,h];simp only[sliceRange_one,pick_run,size_toArray]<;>rfl
inductive Qx(K:Frag)(x:V)(lo e:Xk Int)(H:Hp)(Q:VK):Prop
 |mk(a:Xg)(xs:Xm V)(f:x=.ref a)(s:cN K H a xs)(q:∀p,H p=none->Q (.ref p) (upd H p (.lst (d6 xs lo e))))
def Nb(K:Frag):V->Xk Int->Xk Int->Hp->VK->Prop:=λx a e H Q=>Qx K x a e H Q
def FG:Om X (Nb X.K):=by
 intro y s σ H x v B z f i sl Q I o p m n h;obtain⟨a,e,rfl,w,q⟩:=h;cases o;obtain⟨A,r,g,l⟩:=I.list w;have j:=r.length;refine⟨"list",_,slot_list_getitem.lookup,g.isList.typeIs,?_⟩;refine wpAny_getItem_list_slice g.isList p m n .none (by simp) ?_ (by grind);rw[qM,<-j];refine⟨.ref s.heap.objs.size,_,I.laid (t':=s.toks) (λb ob q=>QE _ q) (QJ _) ?_,rfl,q _<|I.hok.fresh<|QJ _⟩;exact⟨Rn (jA e f i) l,_,0,(r.drop<|HT.iq e.length 0 f).take<|HT.iq e.length e.length i-HT.iq e.length 0 f,QN _ rfl⟩
def dO:V->Bool
 |.non=>true
 |.bl _=>true
 |.int _=>true
 |.str _=>true
 |_=>false
def vP:V->V->Bool
 |.non,.non=>true
 |.bl a,.bl b=>a==b
 |.bl a,.int b=>(if a then 1 else 0)==b
 |.int a,.bl b=>a==(if b then 1 else 0)
 |.int a,.int b=>a==b
 |.str a,.str b=>a==b
 |_,_=>false
def uk(h:RelV y u)(e:RelV x v)(i:dO y=true)(g:dO x=true):SeqAt.EqAt A s u v (vP y x):=by
 cases y with
 |non=>
  cases h;cases x with
  |non=>cases e;exact Wy _
  |bl b=>cases e;exact SeqAt.EqAt.none_bool b
  |int b=>obtain⟨t,rfl⟩:=e;exact SeqAt.EqAt.none_int b t
  |str b=>obtain⟨t,rfl⟩:=e;exact SeqAt.EqAt.none_str b t
  |_=>exact absurd (show false=true from g) bF0
 |bl a=>
  cases h;cases x with
  |non=>cases e;exact SeqAt.EqAt.bool_none a
  |bl b=>cases e;exact SeqAt.EqAt.bool_bool a b
  |int b=>obtain⟨t,rfl⟩:=e;exact SeqAt.EqAt.bool_int a b t
  |str b=>obtain⟨t,rfl⟩:=e;exact SeqAt.EqAt.bool_str a b t
  |_=>exact absurd (show false=true from g) bF0
 |int a=>
  obtain⟨f,rfl⟩:=h;cases x with
  |non=>cases e;exact SeqAt.EqAt.int_none a f
  |bl b=>cases e;exact SeqAt.EqAt.int_bool a f b
  |int b=>obtain⟨t,rfl⟩:=e;exact SeqAt.EqAt.int_int a f b t
  |str b=>obtain⟨t,rfl⟩:=e;exact SeqAt.EqAt.int_str a f b t
  |_=>exact absurd (show false=true from g) bF0
 |str a=>
  obtain⟨f,rfl⟩:=h;cases x with
  |non=>cases e;exact SeqAt.EqAt.str_none a f
  |bl b=>cases e;exact SeqAt.EqAt.str_bool a f b
  |int b=>obtain⟨t,rfl⟩:=e;exact SeqAt.EqAt.str_int a f b t
  |str b=>obtain⟨t,rfl⟩:=e;exact SeqAt.EqAt.str_str a f b t
  |_=>exact absurd (show false=true from g) bF0
 |_=>exact absurd (show false=true from i) bF0
def yE(x:V)(u:Xf):Bool:=match u with
 |.none=>vP .non x
 |.bool b=>vP (.bl b) x
 |.int i _=>vP (.int i) x
 |.str z _=>vP (.str z) x
 |_=>false
def Dj(r:RelV y u)(f:dO y=true):yE x u=vP y x:=by
 cases y with
 |non=>cases r;rfl
 |bl b=>cases r;rfl
 |int i=>obtain⟨t,rfl⟩:=r;rfl
 |str z=>obtain⟨t,rfl⟩:=r;rfl
 |_=>exact absurd (show false=true from f) bF0
theorem lU{x:V}:∀{xs:Xm V}{us:Xm Xf},Vals xs us->xs.all dO=true->us.any (yE x)=xs.any λy=>vP y x
 |_,_,.nil,_=>rfl
 |y::xs,u::us,.cons r t,f=>by
  rw[V1,RZ]at f;rw[Tg,Tg,Dj r f.1,lU t f.2]
theorem jC{A:Xl}{s:Xh}{x:V}{v:Xf}(g:RelV x v)(e:dO x=true):∀{xs:Xm V}{us:Xm Xf},Vals xs us->xs.all dO=true->∀u∈us,SeqAt.EqAt A s u v (yE x u)
 |_,_,.nil,_=>λu a=>by cases a
 |y::xs,u::us,.cons r t,f=>λh a=>by
  rw[V1,RZ]at f;obtain rfl|a:=Rf.mp a
  ·rw[Dj r f.1];exact uk r g f.1 e
  ·exact jC g e t f.2 h a
def IL(x:V)(xs:Xm V):Bool:=xs.any λy=>vP y x
inductive Qg(K:Frag)(neg:Bool)(x y:V)(H:Hp)(Q:VK):Prop
 |mk(p:Xg)(xs:Xm V)(a:y=.ref p)(s:cN K H p xs\/fh K H p xs)(f:dO x=true)(fs:xs.all dO=true)(q:Q (.bl (if neg then !IL x xs else IL x xs)) H)
def Nm(K:Frag)(neg:Bool):R2:=λx y H Q=>Qg K neg x y H Q
def iC:jk X (compareOp .In) (Nm X.K false):=by
 intro n s σ H x y v u Q I j m h;obtain⟨p,o,rfl,a,i,fs,q⟩:=h;cases m;obtain a|a:=a
 ·obtain⟨e,r,g,l⟩:=I.list a
  refine SeqAt.in_listAt (yE x) g.isList (λw f=>jC j i r fs w<|by simpa using f) ⟨.bl _,H,I,rfl,?_⟩;rw[show e.toArray.any (yE x)=e.any (yE x) by simp,lU r fs];exact q
 ·obtain⟨e,r,g,l⟩:=I.tuple a
  refine SeqAt.in_tupleAt (yE x) g (λw f=>jC j i r fs w<|by simpa using f) ⟨.bl _,H,I,rfl,?_⟩;rw[show e.toArray.any (yE x)=e.any (yE x) by simp,lU r fs];exact q
def gr:jk X (compareOp .NotIn) (Nm X.K true):=by
 intro n s σ H x y v u Q I j m h;obtain⟨p,o,rfl,a,i,fs,q⟩:=h;cases m;obtain a|a:=a
 ·obtain⟨e,r,g,l⟩:=I.list a
  refine SeqAt.notIn_listAt (yE x) g.isList (λw f=>jC j i r fs w<|by simpa using f) ⟨.bl _,H,I,rfl,?_⟩;rw[show e.toArray.any (yE x)=e.any (yE x) by simp,lU r fs];exact q
 ·obtain⟨e,r,g,l⟩:=I.tuple a
  refine SeqAt.notIn_tupleAt (yE x) g (λw f=>jC j i r fs w<|by simpa using f) ⟨.bl _,H,I,rfl,?_⟩;rw[show e.toArray.any (yE x)=e.any (yE x) by simp,lU r fs];exact q
inductive L6(K:Frag)(xs:Xm V)(H:Hp)(Q:VK):Prop
 |mk(p:Xg)(ys:Xm V)(e:xs=[.ref p])(s:cN K H p ys\/fh K H p ys)(q:Q (.int ys.length) H)
def uf:eK X (.builtin "len") (λxs H Q=>L2.L6 X.K xs H Q):=by
 intro n s σ H xs v Q I r h;obtain⟨p,i,rfl,a,q⟩:=h;obtain⟨u,rfl,m⟩:=vals1 r;cases m;have o:=qc;obtain a|a:=a
 ·obtain⟨j,f,g,l⟩:=I.list a
  have e:=f.length;exact Calls.call_len_list g.isList (by simp only[size_toArray]<;>lia) ⟨.int i.length,H,I.tok _,⟨s.toks+1,by rw[Rl,e]⟩,q⟩
 ·obtain⟨j,f,g,l⟩:=I.tuple a
  have e:=f.length;exact len_tuple g (by simp only[size_toArray]<;>lia) ⟨.int i.length,H,I.tok _,⟨s.toks+1,by rw[Rl,e]⟩,q⟩
def gx:eK X (.builtin "len") (λxs H Q=>∃z,xs=[.str z]/\z.length<=sizeLine/\Q (.int z.length) H):=by
 intro e s σ H xs a Q I r h;obtain⟨z,rfl,g,q⟩:=h;obtain⟨u,rfl,t,rfl⟩:=vals1 r;have f:=qc;exact len_str (by lia) ⟨.int z.length,H,I.tok _,⟨_,rfl⟩,q⟩
def vh:eK X (.type "list") (λxs H Q=>∃p ys,xs=[.ref p]/\(cN X.K H p ys\/fh X.K H p ys)/\∀l,H l=none->Q (.ref l) (upd H l<|.lst ys)):=by
 intro E s σ H xs G Q I r h;obtain⟨p,ys,rfl,v,q⟩:=h;obtain⟨u,rfl,F⟩:=vals1 r;cases F;have m:∀(f:Xm Xf),Vals ys f->ys.length<=sizeLine->∀(a:Heap) (i:Nat),(∀b C,s.heap.get? b=some C->a.get? b=some C)->
   a.get? s.heap.objs.size=some { cls:=.type "list",dict:=none,data:=.seq f.toArray i,slots:= #[] }->EP X E σ Q (.ref s.heap.objs.size) { s with heap:=a }:=λf g x a i j e=>
  ⟨.ref s.heap.objs.size,_,I.laid (t':=s.toks) j (QJ _)<|show cV X.prog X.w _ a _ (.lst ys) from ⟨x,f,i,g,e⟩,rfl,q _<|I.hok.fresh<|QJ _⟩
 obtain v|v:=v
 ·obtain⟨f,g,A,x⟩:=I.list v
  have D:=g.length;obtain⟨o,z,B,n,y⟩:=A.isList;exact call_list_seq p (.inl rfl) z B y (λa i j e=>m f g x a i j e) (by simp only[size_toArray]<;>lia)
 ·obtain⟨f,g,A,x⟩:=I.tuple v
  have D:=g.length;obtain⟨o,z,B,n,y⟩:=A;exact call_list_seq p (.inr rfl) z B y (λa i j e=>m f g x a i j e) (by simp only[size_toArray]<;>lia)
def Qa(K:Frag)(T:String)(x:V)(H:Hp):Prop:=match x with
 |.str _=>T= "str"
 |.int _=>T= "int"
 |.ref p=>(T= "list" /\∃e,cN K H p e)\/(T= "tuple" /\∃o,K.lookup p=some o/\o.cls=.type "tuple" /\o.dict=none)\/
   (T= "dict" /\((∃a,H p=some (.dK a))\/∃a,H p=some (.dT a)))\/(T= "set" /\∃S n,H p=some (.set S n))
 |_=>False
def Kc(I:Inv X Xs σ H s)(r:RelV x v)(ty:Qa X.K T x H):
  s.TypeIs v T/\∀a,v=.ref a->∃ob,s.heap.get? a=some ob/\ob.dict=none:=by
 cases x with
 |str z=>
  obtain⟨t,rfl⟩:=r;cases (show T= "str" from ty);exact⟨typeIs_str s z t,λ_ e=>nomatch e⟩
 |int i=>
  obtain⟨t,rfl⟩:=r;cases (show T= "int" from ty);exact⟨typeIs_int s i t,λ_ e=>nomatch e⟩
 |ref p=>
  cases r;obtain ⟨rfl,A,q⟩|⟨rfl,o,f,w,h⟩|⟨rfl,f⟩|⟨rfl,S,n,f⟩:=ty
  ·obtain⟨y,_,l,_⟩:=I.list q
   refine⟨l.isList.typeIs,λa e=>?_⟩;cases e;obtain⟨o,n,e,c,h,_⟩:=l;exact⟨o,e,h⟩
  ·refine⟨⟨o,I.oI p o f,w⟩,λa e=>?_⟩
   cases e;exact⟨o,I.oI _ o f,h⟩
  ·have z:∃o,s.heap.get? p=some o/\o.ExactDict:=by
    obtain ⟨m,f⟩|⟨m,f⟩:=f
    ·obtain⟨_,_,_,_,o,_,_,e,g,_⟩:=I.hok p _ f
     exact⟨o,e,g⟩
    ·obtain⟨_,_,_,_,o,_,_,e,g,_⟩:=I.hok p _ f
     exact⟨o,e,g⟩
   obtain⟨o,e,g⟩:=z;refine⟨⟨o,e,g.1⟩,λa j=>?_⟩;cases j;exact⟨o,e,g.2.1⟩
  ·obtain⟨o,_,_,_,e,g,_⟩:=I.hok p _ f
   refine⟨⟨o,e,g.1⟩,λa j=>?_⟩;cases j;exact⟨o,e,g.2.1⟩
 |_=>exact False.elim ty
def PM(K:Frag)(T:String)(r:V->Xm V->Hp->VK->Prop)(to:TE)(t:TA):TE:=λσ H Q=>to σ H λx H1=>Qa K T x H1/\t σ H1 λa e=>r x a e Q
variable {T:String}{id:String}{r:V->Xm V->Hp->VK->Prop}
def NQ (M:PlainAttrs T) (slot:Slot T name id) (j:typeOf (.builtin id)=pure (.type "method_descriptor")) (hm:Px X id r) (C:PE X o to) (L:PA X (e::es) t)
  (A:attributeBase o name X.env (eval o X.env)=eval o X.env:=by rfl)
  (g:((backTo Xx<|starEach (e::es) X.env).all (λx=> !x.1)&&(backToKw Xx<|keywordEach [] X.env).all (λx=>x.1.isSome)
   && decide ((e::es).length+([]:Xm Keyword).length+(if([]:Xm Keyword).isEmpty then 0 else 1)<30))=true:=by rfl)
  (q:(Xy.endLine==Xx.line)=true:=by rfl) (E:starEach (e::es) X.env=(false,eval e X.env)::starEach es X.env:=by rfl) (a:(backTo Xx<|starEach es X.env).any (·.1)=false:=by rfl):
  PE X (.Call (.Attribute o name Xy) (e::es) [] Xx) (PM X.K T r to t):=by
 intro i s σ H Q I h;refine wpAny_Call_method_late A g q rfl<|cX (C i s σ H _ I h) λv D f=>?_;obtain⟨x,H1,m,l,ty,q1⟩:=f;obtain⟨z,p⟩:=Kc m l ty;refine⟨T,id,M,slot,j,z,p,?_⟩;have n:=L Xx i D σ H1 _ m q1;rw[E]at n ⊢;refine Tv (by show(false||(backTo Xx<|starEach es X.env).any (·.1))=false;rw[a]<;>rfl)<|UD ?_;exact cX n λJ y ⟨w,G,B,F,N⟩=>hm i y σ G x w v J Q B l F N
end
def Pw(X:Cx)(id:String)(r:V->Xm V->Hp->VK->Prop):Prop:=
 ∀(a:Xq) (s:Xh) (σ:St) (H:Hp) (x:V) (xs:Xm V) (v:Xf) (us:Xm Xf) (Q:VK),Inv X a σ H s->RelV x v->Vals xs us->r x xs H Q->
  wpAny (model X.prog X.w) X.A (call (.builtin id) (v::us)) (EP X a σ Q) X.xe s
def Vals.one:∀{x:V}{us:Xm Xf},Vals [x] us->∃u,us=[u]/\RelV x u
 |_,_,.cons r .nil=>⟨_,rfl,r⟩
theorem Vals.eraseIdx:∀{xs:Xm V}{us:Xm Xf}(i:Nat),Vals xs us->Vals (xs.eraseIdx i) (us.eraseIdx i)
 |_,_,_,.nil=>.nil
 |_,_,0,.cons _ t=>t
 |_,_,i+1,.cons r t=>.cons r<|Vals.eraseIdx i t
theorem rJ{α:Type}:∀(l:Xm α) (i:Nat),(l.eraseIdx i).length<=l.length
 |[],_=>QJ _
 |_::_,0=>TX _
 |_::r,i+1=>Nat.succ_le_succ<|rJ r i
def Inv.Kt{a X0:Xm Xf}{f:Array Xf->Array Xf}{t':Nat}(I:Inv X Xs σ H s)(h:H l=some (.lst xs))
  (e:s.heap.get? l=some { cls:=.type "list",data:=.seq a.toArray n }) (hf:f a.toArray=X0.toArray) (g:Vals ys X0) (hz:ys.length<=sizeLine):
  Inv X Xs σ (upd H l<|.lst ys) { s with heap:=s.heap.update l<|Obj.mapSeq f,toks:=t' }:=by
 have q:=PySem.IsL.update e f;rw[hf]at q;refine I.write (by rw[h];exact trivial) (.inl rfl) (λm u j i=>(Uo s.heap (Obj.mapSeq f)<|Tf j).trans i) ⟨_,q⟩ ?_;exact⟨hz,X0,_,g,q⟩
def Inv.OU(I:Inv X Xs σ H s)(a:Vals ys Xw)(hz:ys.length<=sizeLine):
  Inv X Xs σ (upd H s.heap.objs.size<|.lst ys) { s with heap:=s.heap.push { cls:=.type "list",data:=.seq Xw.toArray },toks:=t' }:=
 I.laid (λ_ _ q=>QE _ q) (QJ _) ⟨hz,Xw,0,a,QN _ rfl⟩
def Inv.fresh(I:Inv X Xs σ H s):H s.heap.objs.size=none:=I.hok.fresh<|QJ _
def Inv.Ft(I:Inv X Xs σ H s)(f:H l=some (.lst xs)):xs.length<=sizeLine/\∃(a:Xm Xf) (n:Nat),Vals xs a/\xs.length=a.length/\s.heap.get? l=some { cls:=.type "list",data:=.seq a.toArray n }:=by
 obtain⟨z,a,n,r,e⟩:=I.hok l _ f;exact⟨z,a,n,r,r.length,e⟩
def EE(h:n<=sizeLine):Builtin.List.listTooLong n=false:=by
 unfold Builtin.List.listTooLong;exact QM (by lia)
inductive OK(x:V)(vs:Xm V)(H:Hp)(Q:VK):Prop
 |mk(l:Xg)(xs:Xm V)(y:V)(e:x=.ref l)(a:vs=[y])(s:H l=some (.lst xs))(b:xs.length<sizeLine)(q:Q .non (upd H l (.lst (xs++[y]))))
def Ab:V->Xm V->Hp->VK->Prop:=λx a H Q=>OK x a H Q
def rY:Pw X "list.append" Ab:=by
 intro m s σ H x o v B Q I i g h;obtain⟨l,A,y,rfl,rfl,f,p,q⟩:=h;cases i;obtain⟨u,rfl,j⟩:=g.one;obtain⟨z,a,n,r,w,e⟩:=I.Ft f;refine W2 Rq ⟨_,e,rfl⟩ F.entry_list_append (F.args_list_append_2 _ _) (PySem.list_append l a.toArray n u<|by grind) ⟨e,.non,_,I.Kt (X0:=a++[u]) f e (by simp) (r.append<|.cons j .nil) ?_,rfl,q⟩;rw[QC,List.length_singleton];lia
def AL:V->Xm V->Hp->VK->Prop:=λx f H Q=>∃l b a e,x=.ref l/\f=[.ref b]/\H l=some (.lst a)/\H b=some (.lst e)/\a.length+e.length<=sizeLine/\Q .non (upd H l<|.lst<|a++e)
def mP:Pw X "list.extend" AL:=by
 intro D s σ H x J v N Q I p o h;obtain⟨l,b,M,E,rfl,rfl,i,B,K,q⟩:=h;cases p;obtain⟨u,rfl,A⟩:=o.one;cases A;obtain⟨z,g,n,r,L,e⟩:=I.Ft i;obtain⟨G,a,C,w,j,m⟩:=I.Ft B;have y:g.toArray.size+a.toArray.size<=sizeLine:=by rw[Rl,Rl];lia
 have f:¬(!g.toArray.isEmpty&&Builtin.List.listTooLong (g.toArray.size+a.toArray.size))=true:=by
  rw[EE y,Su];exact bF0
 refine W2 F.slot_list_extend ⟨_,e,rfl⟩ F.entry_list_extend (F.args_list_extend_2 _ _)
  (AutoSeq1.list_extend_list_list_0 l g.toArray n b a.toArray C f (by lia)<|by lia) ⟨e,m,?_⟩
 refine⟨.non,_,I.Kt (X0:=g++a) i e (by simp) (r.append w) ?_,rfl,q⟩;rw[QC];lia
def Ei:V->Xm V->Hp->VK->Prop:=λx e H Q=>∃l a i k y,x=.ref l/\e=[.int i]/\H l=some (.lst a)/\ -(2^63)<=i/\i<2^63/\seqIndex? i a.length=some k/\a[k]? =some y/\Q y (upd H l<|.lst<|a.eraseIdx k)
def p5:Pw X "list.pop" Ei:=by
 intro J s σ H x K v L Q I E p h;obtain⟨l,D,i,k,y,rfl,rfl,g,o,j,m,C,q⟩:=h;cases E;obtain⟨u,rfl,G⟩:=p.one;obtain⟨t,rfl⟩:=G;obtain⟨z,a,n,r,B,e⟩:=I.Ft g;obtain⟨w,A,f⟩:=r.get C;refine W2 F.slot_list_pop ⟨_,e,rfl⟩ F.entry_list_pop (F.args_list_pop_2 _ _)
  (MeetsSeq.list_pop_at l a.toArray n i t k w (fitsIndex_both o j) (by rw[Rl,<-B];exact m) (by rw[<-QW];exact A)<|by rw[Rl];lia) ⟨e,?_⟩
 refine⟨y,_,I.Kt (X0:=a.eraseIdx k) g e ?_ (r.eraseIdx k) ?_,f,q⟩
 ·show a.toArray.eraseIdxIfInBounds k=(a.eraseIdx k).toArray
  rw[List.eraseIdxIfInBounds_toArray]
 ·have:=rJ D k
  lia
end L2
namespace Att
open PySem.W PySem.Calls
def oG{P:Params}{h:Heap}:∀(ns:Xm Int) (vs:Xm Xf),WellAll P h vs (ns.map WData.int)->IntsAre vs ns:=by
 intro ns
 induction ns with
 |nil=>
  intro vs w;rw[map_nil]at w;cases w;exact .nil
 |cons n ns e=>
  intro vs w;rw[RC]at w;cases w with
  |cons a b=>
   cases a;exact .cons _ _<|e _ b
def Cm{l:OpenLaw}(z:l.most=some n){h:Heap}{args:Xm WData}{j:Xm Xf}
  (m:l.row.toRowW.claim.pre args=true)(i:WellAll P h j args):
  ∃a vs ns,j=[Value.ref a]/\args=[WData.list<|ns.map WData.int]/\h.get? a=some { cls:=.type "list",data:=.seq vs.toArray }/\IntsAre vs ns/\ns.length<=n:=by
 have o:l.pre.holds [] { args:=args }=true:=(pre_splitW m).2;obtain⟨d,r,rfl,w,v⟩:=hasAllW_cons<|(pre_splitW m).1;obtain rfl:=hasAllW_nil v;obtain⟨B,rfl,y⟩:=hasW_list w;obtain⟨ns,rfl⟩:=items_int y;have p:ns.length<=n:=by
  unfold OpenLaw.pre at o;have f:(WTm.not<|.lt (.lit<|.int (n:Int))<|.len<|.arg 0).holds [] { args:=[.list<|ns.map .int] }=true:=by
   have f:=(holds_andW o).1;rw[z]at f;exact f
  have g:=condW_of f<|w_not<|w_lt w_lit<|w_len_list<|w_arg rfl;rw[QF]at g;refine Nat.le_of_not_lt λq=>?_
  first
   | (rw[dT0<|by lia]at g;exact absurd g<|by decide)
   | (simp at g;lia)
 cases i with
 |cons s A=>
  cases A;cases s with
  |list x e=>exact⟨_,_,ns,rfl,rfl,x,oG ns _ e,p⟩
def BO(l:OpenLaw)(args:Xm WData):l.row.toRowW.claim.post args (.bool true) args=true:=
 postW_of
  (show WShape.has [] (.bool true) .bool=true by first|rfl|decide|simp[WShape.has,WShape.arms,WShape.armsAll])
  (show(WTm.eq .res<|.lit<|.bool true).value [] { args:=args,res:=some<|.bool true,after:=args }=some (.bool<|true==true) from w_eq_bool (w_res rfl) w_lit) rfl
def v8{l:OpenLaw}{loose:Xm Xn}{XP:(Xr)->Heap->Prop}{YP:Xj->Heap->Prop}{d:DefRec}
  (K:l.most=some n)(s:d.params.defaults=[])
  (call:∀(w:Xj)(s₀ e:Xh)(j v:Xr)(h:Xg)(o:Obj)(m i y:Xf)(a:Xg)(vs:Xm Xf)(ns:Xm Int),
   Ground q loose [] XP w s₀ j v e.heap->YP w e.heap->
   e.heap.get? h=some o->o.data=.func (docDef d.name d.params d.body d.scope m i y)->e.heap.CodeRec i d.name->j d.name=some (.ref h)->
   e.heap.get? a=some { cls:=.type "list",data:=.seq vs.toArray }->IntsAre vs ns->ns.length<=n->e.gens= #[]->
   codeAny (model l.prog w) callerA (.call (.ref h) ⟨[.ref a],[]⟩) (λr s'=>r=.ok (.ret<|.bool true)/\OldK e.heap s'.heap/\s'.os=e.os/\AllBare s'.gens) e):
  WalkO q loose XP YP l.row.toRowW d [] (λf vs=>PySem.call f vs):=by
 intro w s₀ e j v G Y h o m i y N kV I B M z x E args R Q O A P p S;obtain rfl:N=.none:=Dflts.none z s;obtain rfl:kV=.none:=Dflts.noKw z;obtain⟨a,vs,ns,rfl,rfl,g,hints,C⟩:=Cm K O p;refine enter_call<|Te (call w s₀ e j v h o m i y a vs ns G Y I (fd_plain B) M x g hints C E) λr s' F=>?_;obtain⟨rfl,D,J,H⟩:=F;exact⟨.inl ⟨.bool true,.bool true,[],rfl,λ_=>rfl,.bool true,BO l _,λ_=>⟨List.Pairwise.nil,λ_ L=>nomatch L⟩⟩,D,J,H⟩
end Att
namespace L2
theorem mD:∀{vs:Xm Xf}{ns:Xm Int},IntsAre vs ns->Vals (ns.map V.int) vs
 |_,_,.nil=>.nil
 |_,_,.cons n t h=>.cons ⟨t,rfl⟩<|mD h
def Lr(H:Hp):Prop:=∀b,H b=none\/∃o a,H b=some (.frz o<|.lst a)
def Eb{w:Xj}{K:Frag}{I O:Xr}{CX:Jz}{k:Nat}{M a:Xg}{fd:FuncData}{x:Xn}{sp:Sp}{f:Xh}{vs:Xm Xf}{ns:Xm Int}
  (U:K.In f.heap) (A:f.heap.Ns mainGlobals I) (i:f.heap.Ns builtinsNs O) (S:∀x:Xn,x≠ "__name__" ->O x=bootBuiltins x) (B:f.heap.NoLimit) (hg:f.gens= #[])
  (L:f.heap.get? a=some { cls:=.type "list",data:=.seq vs.toArray }) (hi:IntsAre vs ns) (Z:ns.length<=sizeLine) (hr:dP k callerA)
  (F:∀base:Heap,K.In base->base.Ns mainGlobals I->fq P w K I base CX k M fd [x] sp)(l:∀(s:Xh)(u:Xf),BindsTo s fd ⟨[u],[]⟩ [(x,u)])
  (YD:∀H:Hp,Lr H->cN K H a (ns.map V.int)->sp [.ref a] H (λv _=>v=.bl true) λ_ _ _=>False)
  (R:∀H e s',CX [] H f (λ_ _ _=>False) e s'->False):
  codeAny (model P w) callerA (.call (.ref M) ⟨[.ref a],[]⟩) (λr s'=>r=.ok (.ret<|.bool true)/\OldK f.heap s'.heap/\s'.os=f.os/\AllBare s'.gens) f:=by
 have Y:=mD hi;have D:=hi.length;have core:∀H:Hp,Lr H->cN K H a (ns.map V.int)->gM P w H f.heap->(∀b,H b≠none->b=a)->(H a≠none->K.lookup a=none)->
   codeAny (model P w) callerA (.call (.ref M) ⟨[.ref a],[]⟩) (λr s'=>r=.ok (.ret<|.bool true)/\OldK f.heap s'.heap/\s'.os=f.os/\AllBare s'.gens) f:=by
  intro H W hS E X hK;have g:∀{b:Xg}{o:Obj},f.heap.get? b=some o->H b=none->(uv f.heap H).get? b=some o:=λe n=>DR e n;have T:∀{b:Xg}{o:Obj}{C:Array DictEntry}{G:Nat},f.heap.get? b=some o->o.data=.dict C G->H b=none:=λ{b o C G} e d=>by
   cases q:H b with
   |none=>rfl
   |some u=>
    have Q:b=a:=X b (by rw[q];simp);subst Q;rw[L]at e;cases e;have d':Data.seq vs.toArray _=Data.dict C G:=d;cases d'
  have j:∀{b:Xg}{m:Xr},f.heap.Ns b m->(uv f.heap H).Ns b m:=λ{b m} ⟨o,C,G,e,d,r⟩=>⟨o,C,G,g e<|T e d,d,r⟩;have J:K.In (uv f.heap H):=λb o e=>g (U b o e) (by
   cases q:H b with
   |none=>rfl
   |some u=>
    have Q:b=a:=X b (by rw[q];simp);subst Q;rw[hK<|by rw[q];simp]at e;cases e)
  have hM:Mod K I (uv f.heap H):=⟨J,j A,⟨O,j i,S⟩,let ⟨mc,h1,h2⟩:=B;⟨mc,j h1,h2⟩⟩;have e0:qT P w K I (uv f.heap H) callerA [] f H:=⟨rfl,hM,λb o e=>Ig e,SS<|AN _ _,trivial,λb i=>absurd (show b∈([]:Xm Xg) from i)<|by simp,E,.of_eq hg⟩;refine Te ((F _ J<|j A).run callerA [] f H ⟨[.ref a],[]⟩ [.ref a] [.ref a] _ _ hr e0 (l f<|.ref a) (.cons rfl .nil)<|YD H W hS) λr s' h=>?_;cases r with
  |error e=>exact(R H e s' h).elim
  |ok fl=>
   cases fl with
   |next=>exact False.elim h
   |brk=>exact False.elim h
   |cont=>exact False.elim h
   |ret u=>
    obtain⟨v,H',os,bare,un,y,r',q⟩:=h;have q':v=.bl true:=q;subst q';obtain rfl:u=Value.bool true:=r';refine⟨rfl,OldK.of_keep λb o e=>?_,os,bare⟩;cases q:H b with
    |none=>exact un.keep b o e q (by intro z;exact absurd (show b∈([]:Xm Xg) from z)<|by simp) (by simp)
    |some u=>
     obtain z|⟨ob,xs,z⟩:=W b
     ·rw[q]at z;cases z
     ·have z2:=un.frzs b ob _ z
      obtain⟨e1,_⟩:=E b _ z;obtain⟨e2,_⟩:=y b _ z2;rw[e]at e1;cases e1;exact e2
 cases N:K.lookup a with
 |some o=>
  have e:=U a o N;rw[L]at e;cases e;refine core (λ_=>none) (λ_=>.inl rfl) (.inr ⟨_,vs.toArray,_,N,rfl,rfl,rfl,by rw[Rl,D];exact Z,by simpa using Y⟩) (λb u z=>by have p:(none:Xk HO)=some u:=z;cases p) (λb z=>absurd rfl z) λz=>absurd rfl z
 |none=>
  refine core (λb=>if b=a then some (.frz { cls:=.type "list",data:=.seq vs.toArray } (.lst<|ns.map V.int)) else none) (λb=>?_) (.inl<|.inr ⟨{ cls:=.type "list",data:=.seq vs.toArray },QI rfl⟩) (λb u z=>?_) (λb z=>?_) λ_=>N
  ·by_cases i:b=a
   ·exact .inr ⟨_,_,QI i⟩
   ·exact .inl<|QG i
  ·by_cases i:b=a
   ·have p:=(QI i).symm.trans z
    cases p;subst i;exact⟨L,by rw[QF];exact Z,vs,_,Y,L⟩
   ·have p:=(QG i).symm.trans z
    cases p
  ·by_cases i:b=a
   ·exact i
   ·exact absurd (QG i) z
def HG{l:PySem.W.OpenLaw}{n k:Nat}{q:Xi}{loose:Xm Xn}{XP:(Xr)->Heap->Prop}{YP:Xj->Heap->Prop}{d:DefRec}{K:Params->Frag}{CX:Xj->Jz}{sp:Xj->Sp}{x:Xn}
  (P:l.most=some n)(A:n<=sizeLine)(y:d.params.defaults=[])(hr:dP k callerA)
  (N:∀(w:Xj)(h:Heap),YP w h->(K w.params).In h)
  (F:∀(w:Xj)(i:Xr)(p:Xg)(h:Heap),(K w.params).In h->h.Ns mainGlobals i->i d.name=some (.ref p)->
   ∃r:FuncData,(∀(s:Xh) (u:Xf),BindsTo s r ⟨[u],[]⟩ [(x,u)])/\
    ∀base:Heap,(K w.params).In base->base.Ns mainGlobals i->fq l.prog w (K w.params) i base (CX w) k p r [x] (sp w))
  (O:∀(w:Xj) (H:Hp) (a:Xg) (ns:Xm Int),ns.length<=n->Lr H->cN (K w.params) H a (ns.map V.int)->sp w [.ref a] H (λv _=>v=.bl true) λ_ _ _=>False)
  (z:∀(w:Xj) (H:Hp) (s:Xh) (e:Xf) (s':Xh),CX w [] H s (λ_ _ _=>False) e s'->False):
  PySem.W.WalkO q loose XP YP l.row.toRowW d [] (λf vs=>PySem.call f vs):=by
 refine Att.v8 P y λw E m i U p o S Z XX a vs ns G Y X R Yn B j hints C J=>?_;have D:=N w _ Y;obtain⟨r,I,M⟩:=F w i p _ D G.T.g B;exact Eb D G.T.g G.T.b G.T.builtins G.T.nolimit J j hints (Rn C A) hr M I (λH L Q=>O w H a ns C L Q) λH e s'=>z w H m e s'
abbrev oF:Jz:=λ_ _ _ _ _ _=>False
abbrev E0:XK:=λ_ _ _=>False
def Aa:Passes oF X E0:=λ_ _ _ _ _ _ _ h=>h.elim
structure qS(K:Frag)(x Xz:Xn)(st:Stmt)(f:Xg)(fd:FuncData):Prop where
 ex:∃(oc:Xf) (od:Xk Xg) (kV XX pm:Xf) (an:Xk Xg) (XN ct:Xf) (YA:Array (Xk Xf)),
  fd=fnOf x Xz (d4 st) (dh st) (cI st) .none kV XX pm an XN ct/\K.lookup f=some ⟨oc,od,.func fd,YA⟩/\codeIn K XN Xz=true
 kp:keepIn K (.ref f)=true
section
variable {K:Frag}{mg:Xr}{base:Heap}
def qS.ok{x e:Xn}{st:Stmt}{f:Xg}{fd:FuncData}{N ps:Xm Xn}{k:Nat}{sp:Sp}(F:qS K x e st f fd)(S:cK N ps (cI st))(len:∀vs H Q E,sp vs H Q E->vs.length=ps.length)
  (i:∀(a:Xf)(A:Xl)(outer:Xm Env)(s:Xh)(H:Hp)(vs:Xm V)(Q:VK)(E:XK),dP k (A.deeper<|envOfC e (cI st) s.heap.objs.size f a)->sp vs H Q E->
   ∃t,yR (BA oF P w K mg base N e (cI st) f a A outer s H E).Mu (dh st) t/\t { nx:=λ_ H'=>Q .non H',rt:=Q } (start N vs) H):fq P w K mg base oF (k+1) f fd ps sp:=by
 obtain⟨n,v,kV,p,m,r,a,y,o,rfl,g,l⟩:=F.ex;refine Mc g l S len λA outer s H vs Q E hr j=>?_;obtain⟨t,h,q⟩:=i a A outer s H vs Q E hr j;exact⟨t,h.Mu,q⟩
def qS.binds{st:Stmt}{f:Xg}{fd:FuncData}{ps:Xm Xn}(F:qS K x Xz st f fd)
  (h:∀(kV a g:Xf)(e:Xk Xg)(i ct:Xf)(us:Xm Xf),us.length=ps.length->bindArgs (fnOf x Xz (d4 st) (dh st) (cI st) .none kV a g e i ct) ⟨us,[]⟩=pure (ps.zip us)):Binds K fd ps []:=by
 obtain⟨o,l,kV,a,g,e,i,ct,j,rfl,m,n⟩:=F.ex;exact .all<|h kV a g e i ct
def jZ{st:Stmt}{f:Xg}{i:Xf}{h an:Xk Xg}{g:Array (Xk Xf)}{kV e pm a ct:Xf}(l:K.lookup f=some ⟨i,h,.func<|fnOf x Xz (d4 st) (dh st) (cI st) .none kV e pm an a ct,g⟩)
  (c:codeIn K a Xz=true)(k:keepIn K (.ref f)=true):qS K x Xz st f (fnOf x Xz (d4 st) (dh st) (cI st) .none kV e pm an a ct):=⟨⟨i,h,kV,e,pm,an,a,ct,g,rfl,l,c⟩,k⟩
end
def d5(hr:dP k A):A.units+1<cLine:=UE (Xa (by decide:1<=64) _) hr.units
def pv (i:Nat) (a:X.N[i]? =some x:=by rfl) (e:OD X.env.scope x:=by first|exact Or.inl rfl|exact Or.inr (Or.inl rfl)|exact Or.inr<|Or.inr rfl) (hd:(x==("__debug__" :Xn))=false:=by decide)
  (f:(x==("__classdict__" :Xn))=false:=by decide):PE X (.Name x pos) (je i):=mV a e hd f
def dH{A B:Prop}(h:B):if false=true then A else B:=by grind
def fO{A B:Prop}(h:A):if true=true then A else B:=by grind
def dF{c A B:Prop} [Decidable c] (a:c->A)(e:¬c->B):if c then A else B:=by grind
def cH(H H':Hp):Prop:=∀b o,H b=some o->H' b=some o
def cH.refl(H:Hp):cH H H:=λ_ _ h=>h
def cH.trans(a:cH H H1)(b:cH H1 H2):cH H H2:=λc o h=>b c o<|a c o h
def cH.free(e:cH H H')(h:H' l=Option.none):H l=Option.none:=by
 cases q:H l with
 |none=>rfl
 |some o=>
  rw[e l o q]at h;cases h
def cH.seq{K:Frag}{a:Xg}{xs:Xm V}(e:cH H H')(h:cN K H a xs):cN K H' a xs:=by
 obtain (h|⟨o,h⟩)|h:=h
 ·exact .inl<|.inl<|e _ _ h
 ·exact .inl<|.inr ⟨o,e _ _ h⟩
 ·exact .inr h
def xY(h:∀y∈scope.names,y.2=.free->∃c,env.cells.lookup y.1=some c):
  ∃f,closureFor scope env=pure f/\(∀y c,f.lookup y=some c->env.cells.lookup y=some c)/\(∀y∈scope.names,y.2=.free->f.lookup y.1=env.cells.lookup y.1):=by
 have w:∀(names:Xm (Xn×NameKind)) (i:Xm (Xn×Xg)),(∀y∈names,y.2=.free->∃c,env.cells.lookup y.1=some c)->(∀y c,i.lookup y=some c->env.cells.lookup y=some c)->
   ∃f,(forIn names i λx r=>match x with
    | (name,kind)=>if(kind==NameKind.free)=true then do
      let a <-cellOf env name
      pure (ForInStep.yield ((name,a)::r))
     else pure (ForInStep.yield r))=pure f/\(∀y c,f.lookup y=some c->env.cells.lookup y=some c)/\(∀y c,i.lookup y=some c->f.lookup y=some c)/\(∀y∈names,y.2=.free->f.lookup y.1=env.cells.lookup y.1):=by
  intro names
  induction names with
  |nil=>intro i _ o;exact⟨i,rfl,o,λ_ _ e=>e,λy g=>nomatch g⟩
  |cons x r D=>
   intro i B o;obtain⟨n,k⟩:=x;by_cases v:k=.free
   ·subst v
    obtain⟨c,p⟩:=B (n,.free) Ru rfl;have A:cellOf env n=pure c:=by
     unfold cellOf;rw[show env.cells.lookup n=some c from p]
    have C:∀y d,((n,c)::i).lookup y=some d->env.cells.lookup y=some d:=λy d e=>by
     rw[Vx]at e;cases q:y==n with
     |true=>rw[q]at e;cases e;rw[eq_of_beq q];exact p
     |false=>rw[q]at e;exact o y d e
    obtain⟨f,e,l,j,m⟩:=D ((n,c)::i) (λy g=>B y<|Ry _ g) C;refine⟨f,?_,l,λy d q=>?_,λy g s=>?_⟩
    ·rw[forIn_cons]
     simp only[beq_self_eq_true,if_true,A];exact e
    ·cases z:y==n with
     |true=>
      have:y=n:=eq_of_beq z;subst this;have q1:=o y d q;rw[p]at q1;cases q1;exact j y c (by rw[Vx,z])
     |false=>exact j y d (by rw[Vx,z];exact q)
    ·obtain rfl|g:=Rf.mp g
     ·have:=j n c (by rw[Vx,RS])
      rw[this,p]
     ·exact m y g s
   ·have E:(k==NameKind.free)=false:=by simpa using v
    obtain⟨f,e,l,j,m⟩:=D i (λy g=>B y<|Ry _ g) o;refine⟨f,?_,l,j,λy g s=>?_⟩
    ·rw[forIn_cons]
     simp only[E,false_eq_true,if_false];exact e
    ·obtain rfl|g:=Rf.mp g
     ·exact absurd s v
     ·exact m y g s
 obtain⟨f,e,l,_,m⟩:=w scope.names [] h (λy c e=>by cases e);refine⟨f,?_,l,m⟩;simp only[closureFor];rw[show(forIn scope.names ([]:Xm (Xn×Xg)) _:Sem _)=pure f from e];rfl
theorem l7{env:Env}(g:env.scope.kind=.function):∀{names:Xm (Xn×NameKind)}{x:Xn},names.lookup x=some .free->env.kindOf x=some .cell->
  (names.map λ(n,k)=>if(k==NameKind.free&&env.scope.kind==.function&&env.kindOf n==some .cell) then(n,NameKind.cell) else(n,k)).lookup x=some .cell
 |[],_,h,_=>by simp at h
 | (n,k)::r,x,h,hc=>by
  have i:=@l7 env g r x;show List.lookup x ((if(k==NameKind.free&&env.scope.kind==.function&&env.kindOf n==some .cell)=true then(n,NameKind.cell) else(n,k))::_)=_;cases f:x==n with
  |true=>
   simp only[lookup_cons,f]at h;cases h;have e:x=n:=eq_of_beq f;subst e;rw[QI<|by simp[g,hc]];simp[lookup_cons]
  |false=>
   simp only[lookup_cons,f]at h;by_cases a:(k==NameKind.free&&env.scope.kind==.function&&env.kindOf n==some .cell)=true
   ·rw[QI a];simp only[lookup_cons,f];exact i h hc
   ·rw[QG a];simp only[lookup_cons,f];exact i h hc
def l0(h:(relabel scope env).names.lookup y=some k')(g:k'=.cell\/k'=.free)(a:∀z∈scope.names,z.2≠.cell):(y,NameKind.free)∈scope.names:=by
 obtain⟨⟨n,k⟩,f,e⟩:=Rk.mp<|SF h;dsimp only at e;split at e
 ·grind
 ·grind
def du(X:Cx)(a:Xm Xn)(scope:Scope)(cl:Xm (Xn×Xg))(fp:Xm Xg)(s3:Xh)(e:Hp)(C:Xg):Cx:=
 { X with N:=a,s₀:=s3,H₀:=e,env:=compEnvC scope cl C X.env,outer:=X.stack,ex:=fp,fn:=λ_=>false,pn:=[],xe:=λ_ _=>False }
def ee(is:Xm Nat)(σ:St):St:=is.map λi=>(σ[i]?).join
def jY(J:It)(is:Xm Nat)(j:TE)(σ:St)(H1:Hp)(Q:VK):Prop:=∀D,H1 D=none->∃W:Nat->Nat->Xm V->Hp->Prop,(∃m,W 0 m []<|upd H1 D<|.lst [])/\
 ∀i m e a,W i m e a->a D=some (.lst e)/\((J.stop i a/\Q (.ref D) a)\/(J.go i a/\∀v h,J.yld i a v h->j (some v::ee is σ) h λy f=>
  f D=some (.lst e)/\e.length<sizeLine/\∃g,g<m/\W (i+1) g (e++[y]) (upd f D<|.lst<|e++[y])))
def PX(a:TI)(is:Xm Nat)(e:TE):TE:=λσ H Q=>a σ H λJ H1=>jY J is e σ H1 Q
structure NW(sc:Scope)(N:Xm Xn)(x:Xn)(scope:Scope)(is:Xm Nat)(ns:Xm Xn):Prop where
 kind:scope.kind=.function:=by rfl
 nocell:∀y∈scope.names,y.2≠.cell:=by decide+kernel
 names:∀y∈scope.names,y.2=.local->scope.names.lookup y.1=some .local:=by decide+kernel
 free:∀y∈scope.names,y.2=.free->sc.names.lookup y.1=some .cell:=by decide+kernel
 hx:scope.names.lookup x=some .local:=by rfl
 cap:ns.map some=is.map λi=>N[i]? :=by rfl
 nd:(x::ns).Nodup:=by decide+kernel
 capf:∀y∈ns,scope.names.lookup y=some .free/\sc.names.lookup y=some .cell:=by decide+kernel
section
variable {K:Frag}{σ:St}{H:Hp}{Q:VK}
def cH.upd{H:Hp}(h:H D=none):cH H (upd H D o):=λb u e=>by
 rw[cG<|cF e h];exact e
def J2{J:It}{xs:Xm V}(f:V->V)(hz:xs.length<=sizeLine)(w:∀i a,cH H a->i<xs.length->J.go i a)(x:∀a,cH H a->J.stop xs.length a)
  (s:∀i a v l,cH H a->i<xs.length->J.yld i a v l->l=a/\xs[i]? =some v)
  (he:∀v a p,v∈xs->cH H a->p (f v) a->te (some v::ee is σ) a p)(q:∀D,H D=none->Q (.ref D) (upd H D<|.lst<|xs.map f)):jY J is te σ H Q:=by
 intro D o;refine⟨λi m n a=>m=xs.length-i/\i<=xs.length/\n=(xs.take i).map f/\a=upd H D (.lst n),⟨_,rfl,RF _,by simp,rfl⟩,?_⟩;rintro i m n a ⟨rfl,z,h,rfl⟩;have j:cH H (upd H D<|.lst n):=cH.upd o;refine⟨cE,?_⟩;by_cases g:i<xs.length
 ·refine .inr ⟨w i _ j g,λv l y=>?_⟩
  obtain⟨rfl,r⟩:=s i _ v l j g y;refine he v _ _ (QH r) j ⟨cE,?_,xs.length-(i+1),by lia,rfl,g,?_,zA⟩
  ·rw[h,QF,RK]
   lia
  ·rw[h,RE,r,Si]
   rfl
 ·have e:i=xs.length:=by lia
  subst e;refine .inl ⟨x _ j,?_⟩;rw[h,RR];exact q D o
def cH.Lq{xs:Xm V}(e:cH H H')(h:fh K H a xs):fh K H' a xs:=by
 obtain (h|⟨o,h⟩)|h:=h
 ·exact .inl<|.inl<|e _ _ h
 ·exact .inl<|.inr ⟨o,e _ _ h⟩
 ·exact .inr h
end
def signs(z:Xn):Xm V:=z.cps.toList.map λc=>V.str ⟨#[c]⟩
def signs_length(z:Xn):(signs z).length=z.cps.size:=by simp[signs]
def qI(z:Xn):It:=⟨λi _=>i<z.cps.size,λi H x a=>a=H/\(signs z)[i]? =some x,λi _=>i=z.cps.size⟩
def CO{P:Xi}{w:Xj}{K:Frag}{tg:Expr}{ty:String}{z:Xn}{t:Tok}(it:Xg)(J:∀A:Xl,A.handled=none->Walks P w A it [it] [it] z.cps.size (SignAt z) λi h=>h.IsStrIter it ty z t i)
  (W:∀(A:Xl)(i:Nat)(s:Xh)(Q:Xo)(E:Xo),s.heap.IsStrIter it ty z t i->Q (.ref it) s->wpAny (model P w) A (pyIter<|.ref it) Q E s)
  (S:["enumerate","zip","dict_itemiterator","dict_reverseitemiterator","odict_iterator","itertools.zip_longest","itertools.pairwise"].contains ty=false):Turn P w K tg (qI z) [it] it (λi h=>h.IsStrIter it ty z t i) where
 mem:=by simp
 obj:=λi h f b a=>by
  have e:b=it:=by simpa using a
  subst e;obtain⟨o,e,c,d⟩:=f;exact⟨o,e,λv z=>by rw[d]at z;cases z⟩
 keep:=λi h L f k=>by
  obtain⟨o,e,r⟩:=f;exact⟨o,k it (by simp) o e,r⟩
 item:=by
  intro X D y x G i O s σ H E I g f l;subst D y x;obtain⟨n,q,T,F,C,B⟩:=g it (by simp);refine(J X.A<|I.ok.hd G).item i s _ _ l f λv L R U M p=>?_;obtain⟨c,u,j,rfl⟩:=U;obtain⟨o,e,N,d⟩:=id M;refine⟨_,rfl,rH e N d S ⟨.str ⟨#[c]⟩,H,I.turned (λb o a e=>p b o (by simpa using a) e) n q F C B,⟨u,rfl⟩,⟨rfl,?_⟩,M,λb a=>(g b a).1⟩⟩;unfold signs;rw[QR,QW,j];rfl
 done:=by
  intro X D y x G i O s σ H E I g f l;subst D y x;obtain⟨n,q,T,F,C,B⟩:=g it (by simp);have m:i=z.cps.size:=l;subst m;exact(J X.A<|I.ok.hd G).done s _ _ f λL R p=>⟨rfl,I.turned (λb o a e=>p b o (by simpa using a) e) n q F C B⟩
 self:=W
def Pa(a:TE):TI:=λσ H R=>a σ H λx H1=>∃z,x=.str z/\R (qI z) H1
def Lv{l:Expr}(G:PE X l tl):PI X tg l (Pa tl):=by
 intro p s σ H R I h;refine cX (G p s σ H _ I h) λv a g=>?_;obtain⟨x,H1,j,D,q1⟩:=g;obtain⟨z,e,q⟩:=q1;subst e;obtain⟨t,rfl⟩:=D;have f:∀(ty:String) (r:∀A:Xl,A.handled=none->Walks X.prog X.w A a.heap.objs.size [a.heap.objs.size] [a.heap.objs.size] z.cps.size (SignAt z) λi h=>h.IsStrIter a.heap.objs.size ty z t i)
   (C:∀(A:Xl) (i:Nat) (s:Xh) (Q:Xo) (E:Xo),s.heap.IsStrIter a.heap.objs.size ty z t i->Q (.ref a.heap.objs.size) s->wpAny (model X.prog X.w) A (pyIter<|.ref a.heap.objs.size) Q E s)
   (y:["enumerate","zip","dict_itemiterator","dict_reverseitemiterator","odict_iterator","itertools.zip_longest","itertools.pairwise"].contains ty=false),
   Mt X p σ tg R (.ref a.heap.objs.size) { a with heap:=a.heap.push { cls:=.type ty,data:=.fields #[.str z t,.int 0 0] } }:=λty r C y=>by
  refine⟨a.heap.objs.size,[a.heap.objs.size],_,_,H1,rfl,j.kept (t':=a.toks) λb o e=>QE _ e,CO _ r C y,⟨_,QN _ rfl,rfl,rfl⟩,λb F=>?_,q⟩;have e:b=a.heap.objs.size:=by simpa using F
  subst e;exact j.ui (QJ _)<|j.hok.fresh<|QJ _
 cases B:z.cps.all (· < 128)
 ·exact wpAny_pyIter_wide B (f "str_iterator" (λA m=>Walks.strWide m _ z t) (λA i s Q E n h=>wpAny_pyIter_striter_wide n h) (by decide))
 ·exact wpAny_pyIter_ascii B (f "str_ascii_iterator" (λA m=>Walks.strAscii m _ z t) (λA i s Q E n h=>wpAny_pyIter_striter_ascii n h) (by decide))
def LP{H:Hp}{Q:VK}(f:V->V)(hz:z.length<=sizeLine)(he:∀v a g,v∈signs z->cH H a->g (f v) a->te (some v::ee is σ) a g)
  (q:∀D,H D=none->Q (.ref D) (upd H D<|.lst<|(signs z).map f)):jY (qI z) is te σ H Q:=
 J2 f (by rw[signs_length];exact hz) (λi a _ e=>by rw[signs_length]at e;exact e) (λa _=>signs_length z) (λi a v h _ e y=>y) he q
theorem wX:∀bs:Xm Bool,((List.range bs.length).all λi=>bs.getD i false)=bs.all id
 |[]=>rfl
 |b::r=>by
  rw[Rz,UW,V1,all_map,V1,<-wX r];rfl
def sN(O:X.calm=true):eK X (.builtin "all") (λxs H Q=>∃(p:Xg) (bs:Xm Bool),xs=[.ref p]/\cN X.K H p (bs.map V.bl)/\Q (.bl<|bs.all id) H):=by
 intro g s σ H xs W Q I r h;obtain⟨p,bs,rfl,G,q⟩:=h;obtain⟨u,rfl,M⟩:=vals1 r;cases M;obtain⟨a,l,f,T⟩:=I.list G;have w:=l.length;rw[QF]at w;refine call_all_walk<|Td f.isList ?_;refine⟨s.heap.objs.size,[s.heap.objs.size,p],[s.heap.objs.size],a.toArray.size,_,_,λi=>bs.getD i false,rfl,Vg (show X.A.in1.handled=none from I.ok.hd O) s.heap.objs.size p (QU (by obtain⟨o,n,e,_⟩:=f;exact QY e)) a.toArray,
  ⟨⟨_,QN _ rfl,rfl,rfl⟩,?_⟩,λi v P U S y C=>?_,λE j F=>?_⟩
 ·obtain⟨o,e,r⟩:=f.isList
  exact⟨o,QE _ e,r⟩
 ·have x:i<bs.length:=by
   have:i<a.length:=by
    have:=(Tz.mp y).1
    simpa using this
   lia
  have B:(bs.map V.bl)[i]? =some (V.bl bs[i]):=by simp[x]
  obtain⟨u,L,N⟩:=l.get B;have m:a[i]? =some v:=by simpa using y
  rw[L]at m;cases m;obtain rfl:v=Value.bool bs[i]:=N;refine RG ?_;have e:bs.getD i false=bs[i]:=by simp[List.getD,x]
  rw[<-e];exact C
 ·refine⟨.bl<|bs.all id,H,?_,?_,q⟩
  ·have R:Inv X g σ H { s with heap:=s.heap.push { cls:=.type "list_iterator",data:=.fields #[.ref p,.int 0 0] } }:=I.kept (t':=s.toks) λb o e=>QE _ e
   have J:Inv X g σ H { s with heap:=E,toks:=j }:=I.kept (t':=j) λb o e=>F b o (by
    intro z;have D:b=s.heap.objs.size:=by simpa using z
    exact absurd (QY e)<|by rw[D];exact Uy _)<|QE _ e
   exact J
  ·show Value.bool _=Value.bool _
   congr 1
   rw[Rl,<-w];exact wX bs
inductive NF(K:Frag)(xs:Xm V)(H:Hp)(Q:VK):Prop
 |mk(x:V)(t:Xf)(n:String)(b:Bool)(e:xs=[x,.ty n])(ty:gQ K H x t)(k:kitOne K t (.type n)=some b)(q:Q (.bl b) H)
def lJ:eK X (.builtin "isinstance") (λxs H Q=>L2.NF X.K xs H Q):=by
 intro g s σ H xs j Q I r h;obtain⟨x,t,n,b,rfl,ty,e,q⟩:=h;obtain⟨u,c,rfl,a,f⟩:=vals2 r;obtain rfl:c=Value.type n:=f;exact Bs I a ty e λi=>⟨.bl b,H,I.tok _,rfl,q⟩
def sV:jk X (compareOp .LtE) (λx y H Q=>∃i j,x=.str i/\y=.str j/\Q (.bl<|!decide (j.cps.toList<i.cps.toList)) H):=by
 intro f s σ H x y v u Q I a e h;obtain⟨i,j,rfl,rfl,q⟩:=h;obtain⟨t,rfl⟩:=a;obtain⟨g,rfl⟩:=e;exact PySem.P.le_str ⟨.bl _,H,I,rfl,q⟩
def mN(z:Xn)(lo a:Xk Int):Xn:=⟨((z.cps.toList.drop<|HT.iq z.length 0 lo).take<|HT.iq z.length z.length a-HT.iq z.length 0 lo).toArray⟩
def jG(z:Xn)(lo a:Xk Int):(mN z lo a).length<=z.length:=by
 show(((z.cps.toList.drop _).take _).toArray).size<=z.cps.size;rw[Rl,RK,So,QS];exact Rn (VM _ _)<|sub_le _ _
def Jo(v:Int)(n d:Nat):max 0 (min (if v<0 then v+(n:Int) else v) (n:Int))=((HT.iq n d (some v):Nat):Int):=DB v n d
def picked_eq(z:Xn)(lo a:Xk (Int×Tok)):slicePicked z lo a none=(List.range<|HT.iq z.length z.length (a.map (·.1))-HT.iq z.length 0 (lo.map (·.1))).map (HT.iq z.length 0 (lo.map (·.1))+·):=by
 unfold slicePicked Builtin.Str.strSliceIndices;simp only[Option.map_none,getD_none,show(1:Int) > 0 by decide,if_true];rw[<-sliceRange_one]
 congr 1
 ·cases lo with
  |none=>rfl
  |some p=>exact Jo p.1 z.length 0
 ·cases a with
  |none=>rfl
  |some p=>exact Jo p.1 z.length z.length
inductive OP(x:V)(lo a:Xk Int)(H:Hp)(Q:VK):Prop
 |mk(z:Xn)(e:x=.str z)(b:z.length<=sizeLine)(q:Q (.str (mN z lo a)) H)
def Nq:V->Xk Int->Xk Int->Hp->VK->Prop:=λx a e H Q=>OP x a e H Q
def tI:Om X Nq:=by
 intro D s σ H x v G E F J sl Q I w y n r h;obtain⟨z,rfl,m,q⟩:=h;obtain⟨t,rfl⟩:=w;have part:∀{u:Xf}{o:Xk Int},IsPart u o->∃p:Xk (Int×Tok),u=partValue p/\o=p.map (·.1):=λ{u o} p=>by
  cases p with
  |none=>exact⟨none,rfl,rfl⟩
  |int i t=>exact⟨some (i,t),rfl,rfl⟩
 obtain⟨l,rfl,rfl⟩:=part n;obtain⟨u,rfl,rfl⟩:=part r;refine⟨"str",_,slot_str_getitem.lookup,typeIs_str s z t,?_⟩;refine wpAny_getItem_str_slice (st:=none) y rfl ?_;unfold sliceMade;have a:(⟨((slicePicked z l u none).filterMap (z.cps[·]?)).toArray⟩:Xn)=mN z (l.map (·.1)) (u.map (·.1)):=by
  rw[picked_eq];unfold mN
  congr 2
  exact pick_run z.cps _ _
 split
 ·rename_i c
  rw[RZ]at c;have f:=eq_of_beq c.2;rw[picked_eq,QF,Sy]at f;have B:HT.iq z.length z.length (u.map (·.1))<=z.length:=HT.Ku _ _ (QJ _) _;have C:mN z (l.map (·.1)) (u.map (·.1))=z:=by
   unfold mN;by_cases g:z.length=0
   ·have e:z.cps.toList=[]:=by
     have:z.cps.size=0:=g;exact Rc (by simpa using this)
    rw[e];simp only[List.drop_nil,List.take_nil];obtain⟨j⟩:=z
    congr 1
    exact(Array.toList_eq_nil_iff.mp e).symm
   ·have A:HT.iq z.length 0 (l.map (·.1))=0:=by lia
    rw[f,A];rw[Uc,R7<|by simp[Str.length]]
  exact⟨.str _,H,I,⟨t,by rw[C]⟩,q⟩
 ·refine⟨?_,.str _,H,I.tok _,⟨_,by rw[a]⟩,q⟩
  rw[a];exact Rn (jG _ _ _) m
def Inv.O4(I:Inv X Xs σ H s):sysModules<s.heap.objs.size:=by
 exact U4 (by decide)<|(I.mod.glob.keeps I.bk).lt
def Gw(h:Heap)(a:sysModules<h.objs.size):cV P w H (h.push { cls:=.type "dict",data:=.dict #[] }) h.objs.size (.dK []):=
 ⟨RF _,R3.mpr<|Tf<|QU a,[],.nil,Vm h⟩
def IM:TE:=λ_ H Q=>∀p,H p=none->Q (.ref p) (upd H p<|.dK [])
def ki:PE X (.Dict [] [] pos) IM:=λa s σ H Q I h=>
 We ⟨.ref s.heap.objs.size,_,I.laid (t':=s.toks) (λ_ _ q=>QE _ q) (QJ _)<|Gw s.heap I.O4,rfl,h _<|I.hok.fresh<|QJ _⟩
structure Df(K:Frag)(mg:Xr)(x:Xn)(st:Stmt)(ps:Xm Xn)(f:Xg)(fd:FuncData):Prop where
 fn:qS K x x st f fd
 nm:mg x=some (.ref f)
 bi:Binds K fd ps []
def tys:Xm String:=["NoneType","bool","int","str","list","tuple","dict"]
def DC(T n:String):Bool:=T==n||(T == "bool" && n == "int")
def fM {K:Frag}(e:T∈tys) (a:n∈["int","bool","str","list","tuple"]):kitOne K (.type T) (.type n)=some (DC T n):=by
 simp only[tys,mem_cons,not_mem_nil,or_false]at e a;rcases e with rfl|rfl|rfl|rfl|rfl|rfl|rfl<;>rcases a with rfl|rfl|rfl|rfl|rfl<;>rfl
section
variable {K:Frag}{x:V}{T:String}
def ty_int (ty:gQ K H x (.type "int")):∃i,x=.int i:=by
 generalize h:Value.type "int" =t at ty;cases ty<;>first|exact⟨_,rfl⟩| (injection h with h';exact absurd h'<|by decide)|cases h
def ty_str (ty:gQ K H x (.type "str")):∃z,x=.str z:=by
 generalize h:Value.type "str" =t at ty;cases ty<;>first|exact⟨_,rfl⟩| (injection h with h';exact absurd h'<|by decide)|cases h
def BW(ty:gQ K H (.int i) (.type T)):T= "int" :=by
 generalize h:Value.type T=t at ty;cases ty;injection h
def Cd(ty:gQ K H (.str z) (.type T)):T= "str" :=by
 generalize h:Value.type T=t at ty;cases ty;injection h
end
def df:bootBuiltins "isinstance" =some (.builtin "isinstance"):=by decide+kernel
def DF:bootBuiltins "int" =some (.type "int"):=by decide+kernel
def Gq:bootBuiltins "bool" =some (.type "bool"):=by decide+kernel
def yc:bootBuiltins "str" =some (.type "str"):=by decide+kernel
def mw:bootBuiltins "all" =some (.builtin "all"):=by decide+kernel
def di:bootBuiltins "len" =some (.builtin "len"):=by decide+kernel
def eF:bootBuiltins "list" =some (.type "list"):=by decide+kernel
def p8:bootBuiltins "tuple" =some (.type "tuple"):=by decide+kernel
def notStar(e:Expr):Bool:=match e with
 |.Starred _ _=>false
 |_=>true
def cU{rest:Xm Expr}{env:Env}(h:notStar e=true):starEach (e::rest) env=(false,eval e env)::starEach rest env:=by
 cases e<;>first|rfl|cases h
theorem gG{env:Env}{pos:Pos}:∀{es:Xm Expr},es.all notStar=true->(backTo pos<|starEach es env).any (·.1)=false
 |[],_=>rfl
 |e::es,h=>by
  rw[V1,RZ]at h;rw[cU h.1];exact gG h.2
def OB(a:PE X e te)(hr:PA X es t)(h:notStar e=true:=by rfl):PA X (e::es) (dG te t):=fL a hr<|cU h
def hV(e:Expr):Bool:=match e with
 |.ListComp .. =>true
 |.SetComp .. =>true
 |.DictComp .. =>true
 |_=>false
def jz(h:hV e=false):swapsWith e tg n env=pure false:=by
 cases e<;>first|rfl|cases h
def Hg(h:PE X (.Call f as kw p) t):PT X (.Call f as kw p) (tB t):=yI h λ_=>rfl
def NP:dU (.BinOp l op r p):=λ_ _=>rfl
def Ge:dU (.Name x p):=λ_ _=>rfl
def LQ:dU (.Constant c k p):=λ_ _=>rfl
def kO(h:op'≠.In:=by decide)(a:op'≠.NotIn:=by decide):lastMarks [op,op'] [b,c]=false:=by
 have e:lastMarks [op,op'] [b,c]=behindInMarks op' c:=by rfl
 rw[e];exact cM c h a
def Nw(he:PE X e te)(h:hV e=false:=by rfl):PS X (.Expr e p) (Ee te):=GJ he<|jz h
structure Slot(X:Cx)(i:Nat)(x:Xn):Prop where
 hN:X.N[i]? =some x
 lc:Loc X.env.scope x
 fn:X.fn x=true\/X.env.scope.names.lookup x=some .local
 db:(x==("__debug__" :Xn))=false
 cd:(x==("__classdict__" :Xn))=false
structure Bt(X:Cx)(x:Xn):Prop where
 gl:Gl X x
 nm:X.mg x=none
 hn:x≠ "__name__"
 db:(x==("__debug__" :Xn))=false
structure Ke(X:Cx)(x:Xn)(sp:Sp):Prop where
 ex:∃(k:Nat) (f:Xg) (fd:FuncData) (ps:Xm Xn),fq X.prog X.w X.K X.mg X.base oF k f fd ps sp/\dP k X.A/\X.mg x=some (.ref f)/\keepIn X.K (.ref f)=true/\Binds X.K fd ps []
 gl:Gl X x
 db:(x==("__debug__" :Xn))=false
def Slot.rd(S:Slot X i x):PE X (.Name x p) (je i):=mV S.hN (S.lc.elim .inl λh=>.inr<|.inl h) S.db S.cd
def Slot.set(S:Slot X i x)(nd:X.N.Nodup)(he:PE X e te)(h:hV e=false:=by rfl):PS X (.Assign [.Name x XI] e pos) (vN te<|eU i):=LG nd S.hN S.lc he (jz h) S.fn
def Slot.tg(S:Slot X i x)(nd:X.N.Nodup):PG X (.Name x p) (eU i):=o9 nd S.hN S.lc S.fn
def Bt.call{id:String}(B:Bt X x)(i:eK X (.builtin id) r)(a:bootBuiltins x=some (.builtin id))(f:PA X (e::es) t)(h:notStar e=true:=by rfl)
  (g:es.all notStar=true:=by rfl):PE X (.Call (.Name x p) (e::es) [] pos) (L5 r t):=iE i B.gl B.nm a f B.hn B.db (cU h)<|gG g
def Bt.Nr(B:Bt X x)(i:eK X (.type T) r)(a:bootBuiltins x=some (.type T))(f:PA X (e::es) t)(h:notStar e=true:=by rfl)
  (g:es.all notStar=true:=by rfl):PE X (.Call (.Name x p) (e::es) [] pos) (L5 r t):=B9 i B.gl B.nm a f B.hn B.db (cU h)<|gG g
def Bt.ty(B:Bt X x)(a:bootBuiltins x=some (.type n)):PE X (.Name x p) (tC<|.ty n):=oT (v:=.ty n) B.gl B.nm a rfl B.hn B.db
def Ke.call(C:Ke X x sp)(i:PA X (e::es) t)(l:notStar e=true:=by rfl)
  (j:es.all notStar=true:=by rfl):PE X (.Call (.Name x p) (e::es) [] pos) (pY sp [] E0 t):=by
 obtain⟨k,f,m,n,G,hr,g,a,h⟩:=C.ex;exact zF G hr C.gl g a h .nil Aa i C.db (cU l)<|gG j
end L2
open L2
namespace J
structure JE(X:Cx)(e:Expr)(t:TE):Prop where
 out:PE X e t
structure JT(X:Cx)(e:Expr)(t:TT):Prop where
 out:PT X e t
structure JW(X:Cx)(e:Expr)(t:TT):Prop where
 out:PW X e t
structure JA(X:Cx)(es:Xm Expr)(t:TA):Prop where
 out:PA X es t
structure JS(X:Cx)(st:Stmt)(t:TS):Prop where
 out:PS X st t
structure x6(X:Cx)(st:Xm Stmt)(t:TS):Prop where
 out:yR X st t
structure JG(X:Cx)(tg:Expr)(g:TG):Prop where
 out:PG X tg g
structure Mx(X:Cx)(ts:Xm Expr)(g:wO):Prop where
 out:MF X ts g
structure JI(X:Cx)(tg it:Expr)(wi:TI):Prop where
 out:PI X tg it wi
structure JO(X:Cx)(e:Xk Expr)(t:TO):Prop where
 out:PO X e t
structure JB(X:Cx)(op:Operator)(r:R2):Prop where
 out:jk X (binaryOp op) r
structure JC(X:Cx)(op:CmpOp)(r:R2):Prop where
 out:jk X (compareOp op) r
structure JU(X:Cx)(op:UnaryOp)(r:V->Hp->VK->Prop):Prop where
 out:Ow X (unaryOp op) r
structure JF(X:Cx)(f:Xf)(r:Xm V->Hp->VK->Prop):Prop where
 out:eK X f r
structure JX(X:Cx)(r:R2):Prop where
 out:L9 X r
structure JL(X:Cx)(r:V->Xk Int->Xk Int->Hp->VK->Prop):Prop where
 out:Om X r
structure dU(b:Expr):Prop where
 out:L2.dU b
section
variable {r':R2}{u:TS}{v:TS}{st:Stmt}{sts:Xm Stmt}{tg:Expr}
def _root_.bA:JB X .Add (Cp λi j=>.int<|i+j):=⟨Kz⟩
def _root_.bI:JB X .Mult (rI GZ λi j=>.int<|i*j):=⟨Jv⟩
def _root_.bJ:JB X .FloorDiv (rI MP λi j=>.int<|i / j):=⟨HH⟩
def _root_.aX:JB X .Mod (rI (λ_ j=>0<j) λi j=>.int<|i%j):=⟨JN⟩
def nH:JB X .Pow (rI M6 λi j=>.int<|i^j.toNat):=⟨L2.nH⟩
def iV:JB X .Add (λx y H Q=>∃i j,x=.str i/\y=.str j/\i.length+j.length<=sizeLine/\Q (.str<|i++j) H):=⟨L2.iV⟩
def xV:JU X .USub (rU λi=>.int<|-i):=⟨L2.xV⟩
def _root_.aO:JC X .Eq PU:=⟨IG⟩
def _root_.b9:JC X .NotEq PR:=⟨Jk⟩
def _root_.bW:JC X .Lt (Cp λi j=>.bl<|decide<|i<j):=⟨NN⟩
def _root_.bG:JC X .LtE (Cp λi j=>.bl<|decide<|i<=j):=⟨vp⟩
def _root_.bR:JC X .Gt (Cp λi j=>.bl<|decide<|j<i):=⟨Na⟩
def D6:JC X .GtE (Cp λi j=>.bl<|decide<|j<=i):=⟨L2.D6⟩
def ph:JC X .Is (λx y H Q=>y=.non/\Q (.bl<|decide<|x=.non) H):=⟨L2.ph⟩
def oR:JC X .IsNot (λx y H Q=>y=.non/\Q (.bl<|!decide (x=.non)) H):=⟨L2.oR⟩
def iC:JC X .In (Nm X.K false):=⟨L2.iC⟩
def gr:JC X .NotIn (Nm X.K true):=⟨L2.gr⟩
def _root_.aY:JF X (.builtin "len") (λxs H Q=>L6 X.K xs H Q):=⟨uf⟩
def gx:JF X (.builtin "len") (λxs H Q=>∃z,xs=[.str z]/\z.length<=sizeLine/\Q (.int z.length) H):=⟨L2.gx⟩
def _root_.bD:JF X (.type "list") (λxs H Q=>∃p ys,xs=[.ref p]/\(cN X.K H p ys\/fh X.K H p ys)/\∀l,H l=none->Q (.ref l) (upd H l<|.lst ys)):=⟨vh⟩
def _root_.bZ:JF X (.builtin "isinstance") (λxs H Q=>NF X.K xs H Q):=⟨lJ⟩
def _root_.cu(a:X.calm=true):JF X (.builtin "all") (λxs H Q=>∃(p:Xg) (bs:Xm Bool),xs=[.ref p]/\cN X.K H p (bs.map V.bl)/\Q (.bl<|bs.all id) H):=⟨sN a⟩
def m9:JF X (.type "int") (λxs H Q=>(∃i,xs=[.int i]/\Q (.int i) H)\/∃k,xs=[.bl k]/\Q (.int<|if k then 1 else 0) H):=⟨L2.m9⟩
def mZ(a:X.calm=true):JF X (.builtin "max") (λxs H Q=>∃i j,xs=[.int i,.int j]/\Q (.int<|if j > i then j else i) H):=⟨L2.mZ a⟩
def gD(a:X.calm=true):JF X (.builtin "min") (λxs H Q=>∃i j,xs=[.int i,.int j]/\Q (.int<|if j<i then j else i) H):=⟨L2.gD a⟩
def _root_.aU:JX X (K8 X.K):=⟨zP⟩
def _root_.aE:JX X (Js X.K):=⟨Ej⟩
def yi:JX X Mo:=⟨L2.yi⟩
def _root_.bP{l r:Expr}:dU (.BinOp l op r p):=⟨NP⟩
def _root_.aR:dU (.Name x p):=⟨Ge⟩
def _root_.ah{c:Const}:dU (.Constant c k p):=⟨LQ⟩
def _root_.cw:JL X (Nb X.K):=⟨FG⟩
def tI:JL X Nq:=⟨L2.tI⟩
def _root_.bX:JO X none Aw:=⟨Gm⟩
def _root_.bV(h:JE X e te):JO X (some e) (IA te):=⟨GL h.out⟩
def _root_.ae{i j pos}:JE X (.Constant (.int i) j pos) (tC<|.int i):=⟨nO⟩
def _root_.bj{b j pos}:JE X (.Constant (.bool b) j pos) (tC<|.bl b):=⟨IV⟩
def _root_.bL{j pos}:JE X (.Constant .none j pos) (tC .non):=⟨K4⟩
def _root_.ao{x j pos}:JE X (.Constant (.str x) j pos) (tC<|.str x):=⟨yf⟩
def _root_.aD(f:JB X op r)(e:JE X a ta)(g:JE X b tb):JE X (.BinOp a op b pos) (Fg r ta tb):=⟨Ij f.out e.out g.out⟩
def EG{r:V->Hp->VK->Prop}(f:JU X op r)(e:JE X a ta):JE X (.UnaryOp op a pos) (PZ r ta):=⟨L2.EG f.out e.out⟩
def _root_.ai(hr:JX X r)(f:JE X a ta)(g:JE X b tb)(e:dU b):JE X (.Subscript a b pos) (Fg r ta tb):=⟨Nc hr.out f.out g.out e.out⟩
def _root_.bT{r:V->Xk Int->Xk Int->Hp->VK->Prop}{lo g:Xk Expr}{a f:TO}(hr:JL X r)(he:JE X e te)(h:JO X lo a)(i:JO X g f):JE X (.Subscript e (.Slice lo g none p2) pos) (PY r te a f):=⟨DY hr.out he.out h.out i.out⟩
def _root_.ba(f:JC X op r)(e:JE X a ta)(g:JE X b tb)(hm:behindInMarks op b=false):JE X (.Compare a [op] [b] pos) (Fg r ta tb):=⟨Ao f.out e.out g.out hm⟩
def _root_.aF(f:JC X op r)(e:JE X a ta)(g:JE X b tb)(hm:behindInMarks op b=false):JT X (.Compare a [op] [b] pos) (zR<|Fg r ta tb):=⟨Gh f.out e.out g.out hm⟩
def jT(e:JC X op r)(g:JC X op' r')(f:JE X a ta)(h:JE X b tb)(i:JE X c tc)(hm:lastMarks [op,op'] [b,c]=false):JE X (.Compare a [op,op'] [b,c] pos) (tV r r' ta tb tc):=⟨L2.jT e.out g.out f.out h.out i.out hm⟩
def jW(e:JC X op r)(g:JC X op' r')(f:JE X a ta)(h:JE X b tb)(i:JE X c tc)(hm:lastMarks [op,op'] [b,c]=false):JT X (.Compare a [op,op'] [b,c] pos) (zR<|tV r r' ta tb tc):=⟨L2.jW e.out g.out f.out h.out i.out hm⟩
def _root_.b6:behindInMarks op (.Name x p)=false:=rfl
def Dm:behindInMarks op (.Tuple es k p)=false:=rfl
def _root_.a8{op}(h:JE X a te):JE X (.BoolOp op [a] pos) te:=⟨ue h.out⟩
def _root_.aV(e:JE X a ta)(f:JE X (.BoolOp .And (b::es) pos) tb):JE X (.BoolOp .And (a::b::es) pos) (Iv ta tb):=⟨tH e.out f.out⟩
def Af(e:JE X a ta)(f:JE X (.BoolOp .Or (b::es) pos) tb):JE X (.BoolOp .Or (a::b::es) pos) (Hc ta tb):=⟨L2.Af e.out f.out⟩
def _root_.bq(e:JT X a tA):JW X (.BoolOp .And [a] pos) tA:=⟨GO e.out⟩
def _root_.b5(e:JT X a tA):JW X (.BoolOp .Or [a] pos) tA:=⟨DO e.out⟩
def _root_.bg(e:JT X a tA)(f:JW X (.BoolOp .And (b::es) pos) tB'):JW X (.BoolOp .And (a::b::es) pos) (Jq tA tB'):=⟨Kv e.out f.out⟩
def _root_.bS(e:JT X a tA)(f:JW X (.BoolOp .Or (b::es) pos) tB'):JW X (.BoolOp .Or (a::b::es) pos) (PF tA tB'):=⟨IY e.out f.out⟩
def _root_.a7(h:JW X e tA):JT X e tA:=⟨h.out.pt⟩
def _root_.bu(e:JT X a tA):JT X (.UnaryOp .Not a pos) (N2 tA):=⟨xN e.out⟩
def _root_.bh(h:JE X (.Call f as kw p) te):JT X (.Call f as kw p) (tB te):=⟨Hg h.out⟩
def _root_.bz:JA X [] kT:=⟨kW⟩
def _root_.bK(a:JE X e te)(hr:JA X es t)(h:notStar e=true:=by rfl):JA X (e::es) (dG te t):=⟨OB a.out hr.out h⟩
def _root_.aj(a:JE X e te)(i:notStar e=true:=by rfl):JA X [e] (dG te kT):=bK a bz i
def _root_.aB{a:Expr}{f:TE}(i:JE X e te)(a1:JE X a f)(h:notStar e=true:=by rfl)(g:notStar a=true:=by rfl):JA X [e,a] (dG te<|dG f kT):=bK i (aj a1 g) h
def _root_.aP{f a:Expr}{h g:TE}(l:JE X e te)(a1:JE X f h)(a2:JE X a g)(i:notStar e=true:=by rfl)(j:notStar f=true:=by rfl)(m:notStar a=true:=by rfl):JA X [e,f,a] (dG te<|dG h<|dG g kT):=bK l (aB a1 a2 j m) i
def _root_.bQ{g a f:Expr}{j h i:TE}(n:JE X e te)(a1:JE X g j)(a2:JE X a h)(q:JE X f i)(l:notStar e=true:=by rfl)(m:notStar g=true:=by rfl)(p:notStar a=true:=by rfl)(o:notStar f=true:=by rfl):JA X [e,g,a,f] (dG te<|dG j<|dG h<|dG i kT):=bK n (aP a1 a2 q m p o) l
def _root_.b7{a f g h:Expr}{m j l i:TE}(q:JE X e te)(a1:JE X a m)(a2:JE X f j)(w:JE X g l)(n:JE X h i)(p:notStar e=true:=by rfl)(o:notStar a=true:=by rfl)(v:notStar f=true:=by rfl)(r:notStar g=true:=by rfl)(s:notStar h=true:=by rfl):JA X [e,a,f,g,h] (dG te<|dG m<|dG j<|dG l<|dG i kT):=bK q (bQ a1 a2 w n o v r s) p
def _root_.a5(h:JA X es t):JE X (.List es pos) (Fu t):=⟨LD h.out⟩
def _root_.aL{k}(h:JA X es t):JE X (.Tuple es k pos) (Nt t):=⟨JV h.out⟩
def ki:JE X (.Dict [] [] pos) IM:=⟨L2.ki⟩
def oZ {v:V}{u:Xf}(a:Gl X x) (hm:X.mg x=some u) (r:RelV v u) (hd:(x==("__debug__" :Xn))=false):JE X (.Name x pos) (tC v):=⟨L2.oZ a hm r hd⟩
def _root_.aQ(h:JE X e te):JI X tg e (IQ X.K te):=⟨GA h.out⟩
def xZ(h:JE X e te):JI X tg e (Of X.K te):=⟨L2.xZ h.out⟩
def _root_.aI:x6 X [] zL:=⟨zw⟩
def _root_.af(a:JS X st u)(e:x6 X sts v):x6 X (st::sts) (C8 u v):=⟨vA a.out e.out⟩
def _root_.ag(a:JS X st u):x6 X [st] u:=⟨lN a.out⟩
def _root_.cB:x6 X sts CQ:=⟨Cj⟩
def _root_.aw(h:JE X e te):JS X (.Return (some e) pos) (Gz te):=⟨pW h.out⟩
def _root_.br(h:JE X e te)(a:hV e=false:=by rfl):JS X (.Expr e pos) (Ee te):=⟨Nw h.out a⟩
def _root_.aH{a:TT}(e:JT X c a)(g:x6 X x u)(f:x6 X y v):JS X (.If c x y pos) (HJ a u v):=⟨Jj e.out g.out f.out⟩
def _root_.aZ{g:TG}{tb:TS}(a:PassesOwn (model X.prog X.w) X.A X.env X.xe)(i:X.calm=true)(j:JI X tg it wi)(h:JG X tg g)(e:x6 X body tb)
  (f:∀x,foldedSetIterable it X.env x=pure x:=by intro _;rfl):JS X (.For tg it body [] pos) (NL wi g tb):=⟨KD a i j.out h.out e.out f⟩
end
def _root_.aa(S:L2.Slot X i x):JE X (.Name x p) (je i):=⟨S.rd⟩
def _root_.au(S:L2.Slot X i x)(nd:X.N.Nodup)(he:JE X e te)(h:hV e=false:=by rfl):JS X (.Assign [.Name x XI] e pos) (vN te<|eU i):=⟨S.set nd he.out h⟩
def _root_.aN(S:L2.Slot X i x)(nd:X.N.Nodup):JG X (.Name x p) (eU i):=⟨S.tg nd⟩
def _root_.aJ{id:String}(B:Bt X x)(i:JF X (.builtin id) r)(a:bootBuiltins x=some (.builtin id))(f:JA X (e::es) t)(h:notStar e=true:=by rfl)(g:es.all notStar=true:=by rfl):
  JE X (.Call (.Name x p) (e::es) [] pos) (L5 r t):=⟨B.call i.out a f.out h g⟩
def _root_.bo(B:Bt X x)(i:JF X (.type T) r)(a:bootBuiltins x=some (.type T))(f:JA X (e::es) t)(h:notStar e=true:=by rfl)(g:es.all notStar=true:=by rfl):
  JE X (.Call (.Name x p) (e::es) [] pos) (L5 r t):=⟨B.Nr i.out a f.out h g⟩
def ty(B:Bt X x)(a:bootBuiltins x=some (.type n)):JE X (.Name x p) (tC<|.ty n):=⟨B.ty a⟩
def _root_.ak(C:Ke X x sp)(f:JA X (e::es) t)(a:notStar e=true:=by rfl)(g:es.all notStar=true:=by rfl):JE X (.Call (.Name x p) (e::es) [] pos) (pY sp [] E0 t):=⟨C.call f.out a g⟩
def _root_.b8 (B:Bt X "range") (a:JA X [e] t) (h:notStar e=true:=by rfl):JI X tg (.Call (.Name "range" p) [e] [] pos) (Im t):=⟨Co B.gl B.nm a.out<|cU h⟩
def Nx{w:Xj}{K:Frag}{e:Xr}{base:Heap}{x g:Xn}{st:Stmt}{f:Xg}{fd:FuncData}{N ps:Xm Xn}{k:Nat}{sp:Sp}(F:qS K x g st f fd)(S:cK N ps (cI st))(len:∀vs H Q E,sp vs H Q E->vs.length=ps.length)
  (l:∀(X:Cx)(a:Xf)(A:Xl)(outer:Xm Env)(s:Xh)(H:Hp)(vs:Xm V)(Q:VK)(E:XK),X=(BA oF P w K e base N g (cI st) f a A outer s H E).Mu->dP k X.A->sp vs H Q E->
   ∃t,x6 X (dh st) t/\t { nx:=λ_ H'=>Q .non H',rt:=Q } (L2.start N vs) H):fq P w K e base oF (k+1) f fd ps sp:=by
 refine F.ok S len λa A outer s H vs Q E hr h=>?_;obtain⟨t,j,i⟩:=l _ a A outer s H vs Q E rfl hr h;exact⟨t,j.out,i⟩
end J
namespace L2
def Inv.rV{i:Xq}{σ:St}{H:Hp}{s:Xh}{g:Heap}{t':Nat}{fp:Xm Xg}{T:Xg}{o:HO}(I:Inv X i σ H s)(hf:∀b∈fp,nU X i H b)
  (k:∀b u,b ∉ fp->s.heap.get? b=some u->g.get? b=some u)(j:s.heap.objs.size<=T)(C:∀b∈fp,∃u,s.heap.get? b=some u)(new:cV X.prog X.w (upd H T o) g T o):Inv X i σ (upd H T o) { s with heap:=g,toks:=t' }:=by
 have h:=I.hok.fresh j;have He:∀b u,H b=some u->b ∉ fp:=λb u e z=>by rw[(hf b z).1]at e;cases e
 refine I.step (g':=s.gens) (d':=s.drawn) (λb f=>⟨(hf b f).2.2.2.1,(hf b f).2.1,(hf b f).2.2.2.2.1,(hf b f).2.2.2.2.2⟩) (λb u _ _ a e _=>k b u a e) (λb u _ _ a e _=>⟨u.slots,k b u a e⟩) (λb u _ e n=>?_)
  (λb u a e=>⟨u,k b u a e⟩) (λb l e=>?_) (λb u l e=>?_) (λb B e=>⟨#[],?_⟩) (λm y=>?_) (λb u e=>?_) I.bare
 ·rw[cG<|QU<|Rp (QY e) j]
  exact n
 ·rw[cG<|cF e h]
  exact e
 ·rw[cG<|cF e h]
  exact e
 ·rw[cG<|cF e h,e]
  simp
 ·obtain⟨ob,x,A,p,r⟩:=y
  exact⟨ob,x,A,k _ ob (λz=>(hf _ z).2.1 rfl) p,r⟩
 ·by_cases f:b=T
  ·subst f
   rw[cE]at e;cases e;exact new
  ·rw[cG f]at e
   refine(I.hok b u e).gh (λc v a q=>k c v ?_ q) (λc q=>by rw[cG<|cF q h];exact q) λc l q=>by rw[cG<|cF q h];exact q
   obtain rfl|a:=a
   ·exact He c u e
   ·exact He c _ a
def Inv.m8{t':Nat}{fp:Xm Xg}(I:Inv X Xs σ H s)(hf:∀b∈fp,nU X Xs H b)
  (k:∀b u,b ∉ fp->s.heap.get? b=some u->g.get? b=some u):Inv X Xs σ H { s with heap:=g,toks:=t' }:=by
 have He:∀b u,H b=some u->b ∉ fp:=λb u e z=>by rw[(hf b z).1]at e;cases e
 refine I.step (g':=s.gens) (d':=s.drawn) (λb f=>⟨(hf b f).2.2.2.1,(hf b f).2.1,(hf b f).2.2.2.2.1,(hf b f).2.2.2.2.2⟩) (λb u _ _ a e _=>k b u a e) (λb u _ _ a e _=>⟨u.slots,k b u a e⟩) (λ_ _ _ _ n=>n)
  (λb u a e=>⟨u,k b u a e⟩) (λ_ _ e=>e) (λ_ _ _ e=>e) (λb o e=>⟨#[],by rw[e];simp⟩) (λm j=>?_) (λb u e=>?_) I.bare
 ·obtain⟨ob,i,l,h,r⟩:=j
  exact⟨ob,i,l,k _ ob (λz=>(hf _ z).2.1 rfl) h,r⟩
 ·refine(I.hok b u e).gh (λc v a q=>k c v ?_ q) (λ_ q=>q) λ_ _ q=>q
  obtain rfl|a:=a
  ·exact He c u e
  ·exact He c _ a
def O5(q:Bool)(K:Frag)(H:Hp)(a:Xg)(xs:Xm V):Prop:=match q with
 |true=>cN K H a xs
 |false=>fh K H a xs
def JJ(q:Bool)(h:Heap)(it a:Xg)(i:Nat):Prop:=match q with
 |true=>h.IsListIter it a i
 |false=>h.IsTupleIter it a i
def wb(p:JJ q h it a i):∃o,h.get? it=some o/\∀v,o.data≠.cell v:=by
 cases q with
 |true=>obtain⟨o,e,c,d⟩:=p;exact⟨o,e,λv z=>by rw[d]at z;cases z⟩
 |false=>obtain⟨o,e,c,d⟩:=p;exact⟨o,e,λv z=>by rw[d]at z;cases z⟩
def Bb{i:Nat}(p:JJ q h it a i)(k:∀o,h.get? it=some o->g.get? it=some o):JJ q g it a i:=by
 cases q with
 |true=>obtain⟨o,e,r⟩:=p;exact⟨o,k o e,r⟩
 |false=>obtain⟨o,e,r⟩:=p;exact⟨o,k o e,r⟩
def Pp(n b:Nat)(h:b∈[n+1,n]):n<=b:=by grind
def uq:bootBuiltins "enumerate" =some (.type "enumerate"):=by decide+kernel
def Hn(I:Inv X Xs σ H s)(h:O5 q X.K H a xs):a<s.heap.objs.size:=by
 cases q with
 |true=>obtain⟨f,r,⟨o,n,e,_⟩,z⟩:=I.list h;exact QY e
 |false=>obtain⟨f,r,⟨o,e,_⟩,z⟩:=I.tuple h;exact QY e
def L3(K:Frag)(a:Xg):It:=
 ⟨λi H=>∃e x,cN K H a e/\e[i]? =some x,λi H v f=>∃p x,H p=none/\v=.ref p/\f=upd H p (.tup [.int i,x])/\∀e,cN K H a e->e[i]? =some x,λi H=>∃e,cN K H a e/\e.length=i⟩
def BU{P:Xi}{w:Xj}{K:Frag}{es:Xm Expr}{kk:Nat}{tp:Pos}{a:Xg}(e it:Xg)(ne:e≠it)(n1:a≠e)(n2:a≠it):
  Turn P w K (.Tuple es kk tp) (L3 K a) [e,it] e (λi h=>(∃f,IsEnum h e it i f)/\h.IsListIter it a i):=by
 refine⟨by simp,λi h y b j=>?_,λi h g y k=>?_,?_,?_,λA i s Q E y h=>?_⟩
 ·obtain⟨⟨f,m⟩,n⟩:=y
  simp only[mem_cons,not_mem_nil,or_false]at j;obtain rfl|rfl:=j
  ·exact⟨_,m,λv e=>by cases e⟩
  ·exact wb (q:=true) n
 ·obtain⟨⟨f,m⟩,n⟩:=y
  exact⟨⟨f,k _ (by simp) _ m⟩,Bb (q:=true) n λo e=>k _ (by simp) o e⟩
 ·intro X D S R Z i Xs s σ H E I G y N
  subst D S R;obtain⟨⟨f,m⟩,n⟩:=y;obtain⟨xs,x,J,ex⟩:=N;obtain⟨z,r,p,l⟩:=I.list J;obtain⟨u,eu,ru⟩:=r.get ex;have W:=WalksT.enumerate (prog:=X.prog) (w:=X.w) (A:=X.A) (I.ok.hd Z) e it a ne n1 n2 z.toArray;have hi:i<z.toArray.size:=by
   have:=(gI0.mp eu).1
   simpa using this
  refine W.item i s _ _ hi ⟨⟨f,m⟩,n,p.isList⟩ λT Yr g O D hT F hM L=>?_;obtain⟨t,v,hv,rfl⟩:=D;have Y:v=u:=by
   have:z[i]? =some v:=by simpa using hv
   rw[eu]at this;exact(Ri this).symm
  subst Y;have C:=W.apart i T g hM;refine⟨_,rfl,W.go es kk tp i T { s with heap:=g,toks:=O } _ _ hM λg2 XR B=>?_⟩;have hn:=I.hok.fresh hT;have M:∀b u,b ∉ [e,it]->s.heap.get? b=some u->g2.get? b=some u:=λb u j q=>B b u j<|L b u j q;have I2:Inv X Xs σ (upd H T<|.tup [.int i,x]) { s with heap:=g2,toks:=O }:=by
   refine I.rV G M hT (λb j=>?_) ⟨by show 2<=sizeLine;decide,[.int i t,v],.cons ⟨t,rfl⟩<|.cons ru .nil,?_⟩
   ·simp only[mem_cons,not_mem_nil,or_false]at j
    obtain rfl|rfl:=j
    ·exact⟨_,m⟩
    ·obtain⟨o,q,_⟩:=wb (q:=true) n;exact⟨o,q⟩
   ·obtain⟨o,q,rest⟩:=F
    exact⟨o,B T o C q,rest⟩
  refine⟨.ref T,_,I2,rfl,⟨T,x,hn,rfl,rfl,λzs hz=>by rw[I.xw hz J];exact ex⟩,⟨by simpa using XR.1,XR.2.1⟩,λb j=>?_⟩;have U:b≠T:=by
   rintro rfl;exact C j
  rw[cG U];exact(G b j).1
 ·intro X D S R Z i Xs s σ H E I G y N
  subst D S R;obtain⟨⟨f,m⟩,n⟩:=y;obtain⟨xs,J,rfl⟩:=N;obtain⟨z,r,p,l⟩:=I.list J;have W:=WalksT.enumerate (prog:=X.prog) (w:=X.w) (A:=X.A) (I.ok.hd Z) e it a ne n1 n2 z.toArray;have e1:xs.length=z.toArray.size:=by rw[Rl];exact r.length
  rw[e1]at m n;exact W.done s _ _ ⟨⟨f,m⟩,n,p.isList⟩ λg O L=>⟨rfl,I.m8 G L⟩
 ·obtain⟨⟨f,m⟩,n⟩:=y
  exact wpAny_pyIter_enum m h
def IH(K:Frag)(ta:TA):TI:=λσ H R=>ta σ H λe H1=>∃a,e=[.ref a]/\(∃f,cN K H1 a f)/\R (L3 K a) H1
def oS {es:Xm Expr}{y:Nat}{C p pos:Pos}{ta:TA}(B:Bt X "enumerate") (E:PA X [e1] ta) (z:notStar e1=true:=by rfl):PI X (.Tuple es y C) (.Call (.Name "enumerate" p) [e1] [] pos) (IH X.K ta):=by
 intro v s σ H R I h;refine SU<|jd I B.gl B.nm uq ?_ B.hn B.db;refine Sd (cX (E pos v s σ H _ I h) λO l i=>?_) (cU z)<|gG rfl;obtain⟨G,H1,f,w,a,e,⟨N,n⟩,q⟩:=i;subst e;obtain⟨M,rfl,D⟩:=vals1 w;cases D;obtain⟨L,J,A,P⟩:=f.list n;have m:=Hn (q:=true) f n;refine call_enumerate_list A.isList λg o F _ r=>?_;refine wpAny_pyIter_enum o ?_;refine⟨_,_,_,_,H1,rfl,f.kept (t':=l.toks) r,BU (l.heap.objs.size+1) l.heap.objs.size (UB<|Tn _) (QU<|SO m)<|QU m,⟨⟨_,o⟩,F⟩,λb x=>?_,q⟩;have j:l.heap.objs.size<=b:=Pp _ _ x;exact f.ui j<|f.hok.fresh j
def Dg{K:Frag}{a:Xg}{xs:Xm V}{g:TG}{tb:TS}{D:Ends}{σ:St}{H:Hp}(Pv:Nat->St->Hp->Prop)(h0:Pv 0 σ H)(q:∀i σ H,Pv i σ H->cN K H a xs)
  (r:∀(i:Nat) x p σ H,xs[i]? =some x->H p=none->Pv i σ H->g (.ref p) σ (upd H p<|.tup [.int i,x]) λh n=>tb { D with nx:=Pv<|i+1,ct:=Pv<|i+1,bk:=D.nx } h n)(hd:∀σ H,Pv xs.length σ H->D.nx σ H):
  ∃W:Nat->Nat->St->Hp->Prop,(∃m,W 0 m σ H)/\∀i m σ H,W i m σ H->
   ((L3 K a).stop i H/\D.nx σ H)\/((L3 K a).go i H/\∃N:St->Hp->Prop,(∀f H',N f H'->∃o,o<m/\W (i+1) o f H')/\∀x H',(L3 K a).yld i H x H'->g x σ H' λh n=>tb { D with nx:=N,ct:=N,bk:=D.nx } h n):=by
 refine⟨λi m σ H=>m=xs.length-i/\i<=xs.length/\Pv i σ H,⟨xs.length,by simp,RF _,h0⟩,?_⟩;rintro i m σ H ⟨rfl,B,p⟩;have l:=q i σ H p;by_cases j:i<xs.length
 ·refine .inr ⟨⟨xs,xs[i],l,by simp[j]⟩,Pv<|i+1,λf H' z=>⟨xs.length-(i+1),by lia,rfl,j,z⟩,λv H' y=>?_⟩
  obtain⟨A,x,s,rfl,rfl,w⟩:=y;exact r i x A σ H (w xs l) s p
 ·have e:i=xs.length:=by lia
  subst e;exact .inl ⟨⟨xs,l,rfl⟩,hd σ H p⟩
theorem pZ:∀{zs:Xm Xn}{us:Xm Xf},Vals (zs.map V.str) us->StrsAre us zs
 |[],_,r=>by cases r;exact .nil
 |z::zs,_,r=>by
  cases r with
  |cons e a=>
   obtain⟨t,rfl⟩:=e;exact .cons z t<|pZ a
def tX:Px X "str.join" (λx vs H Q=>∃(a:Xn) (p:Xg) (zs:Xm Xn),x=.str a/\vs=[.ref p]/\cN X.K H p (zs.map V.str)/\(zs.map (·.length)).sum+zs.length*a.length<=16777216/\Q (.str<|Txt.join a zs) H):=by
 intro m s σ H x w v y Q I j g h;obtain⟨a,p,zs,rfl,rfl,e,f,q⟩:=h;obtain⟨t,rfl⟩:=j;obtain⟨u,rfl,l⟩:=vals1 g;cases l;obtain⟨o,r,i,_⟩:=I.list e;exact join_list i.isList (by simpa using pZ r) f λn k=>⟨.str _,H,I.tok _,⟨_,rfl⟩,q⟩
local instance keyBEq:BEq Key:=instBEqOfDecidableEq
local instance keyLBEq:@LawfulBEq Key keyBEq:=inferInstanceAs (@LawfulBEq Key instBEqOfDecidableEq)
def uD{prog:Xi}{w:Xj}{h:Heap}{a:Xg}{S f:Key->Bool}{n g:Nat}(i:h.SetOf (cL prog w) a S n)(e:∀k,S k=f k)(j:n=g):h.SetOf (cL prog w) a f g:=by
 have:S=f:=funext e;subst this;subst j;exact i
section
variable {n:Nat}{P:Nat->Xf->Prop}{St:Nat->Xh->Prop}
def setLoop(W:WalksS prog w A.in1 I fp wr G n P St)(S:Xg)(M:S ∉ fp)(key:Nat->Key)(p:∀i v,P i v->og (key i) v=true/\v.scannable=true)
  (YE:∀i j,i<j->j<n->key i≠key j)(B:n+1<scanBound):∀(k i:Nat) (s:Xh),n-i=k->i<=n->St i s->s.heap.SetOf (cL prog w) S (λc=>(List.range i).any λj=>decide<|c=key j) i->
   (∀s',Moved (S::wr) G s s'->s'.heap.SetOf (cL prog w) S (λc=>(List.range n).any λj=>decide<|c=key j) n->R (.ok<|.ret .none) s')->
   codeAny (model prog w) A (.builtin "set.update.loop" ⟨[.ref S,.ref I],[]⟩) R s:=by
 have K:=λh=>M<|W.sub _ h;have a:∀b∈wr,b∈S::wr:=λb B=>Ry _ B;have gh:∀{s s':Xh}{T:Key->Bool}{m:Nat},Moved wr G s s'->s.heap.SetOf (cL prog w) S T m->s'.heap.SetOf (cL prog w) S T m:=λf ⟨o,X,Z,O,Q,rest⟩=>⟨o,X,Z,O,f.heap S _ K Q,rest⟩;intro k
 induction k with
 |zero=>
  intro i s N Y C H J;obtain rfl:i=n:=by lia
  refine RT SG ?_;rw[RL RN _];refine Qz<|W.done s _ _ C λs' f=>?_;exact QA<|J s' (f.mono a)<|gh f H
 |succ k ih=>
  intro i s N Y C H J;have l:i<n:=by lia
  refine RT SG ?_;rw[RL RN _];refine Qz<|W.item i s _ _ l C λv s' hP z f=>?_;obtain⟨y,F⟩:=p i v hP;have E:=gh f H;refine Qz<|Rh ?_;unfold setAdd;refine Rh ?_;refine Qz<|(cL prog w).pyHash y ?_;refine wpAny_setAddHashed_of y F E (by lia) λg r U=>?_;have L:((List.range i).any λj=>decide<|key i=key j)=false:=by grind
  refine QA ⟨SE RN _,ih (i+1) _ (by lia) l (W.frame _ s' _ _ z (TX _) λb B o e=>?_) (by grind) λD x q=>?_⟩
  ·rw[r.2 b<|by grind]
   exact e
  ·refine J D (Wl W.gtrans ((f.mono a).then_heap (TX _) λb o B e=>?_) x) q
   rw[r.2 b<|by grind];exact e
end
def BY{l:Xg}{items:Array Xf}{key:Nat->Key}{Q:Xo}(hh:A.handled=none)(hl:s.heap.IsList l items)(hv:∀i v,items[i]? =some v->og (key i) v=true/\v.scannable=true)
  (YE:∀i j,i<j->j<items.size->key i≠key j)(F:items.size+1<scanBound)
  (h:∀(g:Heap)(G:Nat)(T:Key->Bool),g.SetOf (cL prog w) s.heap.objs.size T items.size->(∀b o,b<s.heap.objs.size->s.heap.get? b=some o->g.get? b=some o)->Q (.ref s.heap.objs.size) { s with heap:=g,toks:=G }):
  wpAny (model prog w) A (call (.type "set") [.ref l]) Q E s:=by
 obtain⟨c,tl,Y⟩:=Sq.mro;have K:=Sq.made;have U:=Sq.sub;refine VU<|Wz ?_;show wpAny _ _ (callAny (.type "set") _) _ _ _;refine QA ⟨Code.quiet_builtin _<|by decide+kernel,RT Wm ?_⟩;rw[Around.under_plain (weight_type_call_type "set" [.ref l] []) rfl];have f1:=Sq.notType;have f2:=Sq.canCreate;have f3:=WA<|.ref l
 repeat (any_goals (first|assumption|wp_step))
 refine Te (code_set_new_1 (.ref l) (E:=E) (Q₁:=λy u=>∃a:Bool,y=.ref s.heap.objs.size/\u={ s with heap:=s.heap.push { cls:=.type "set",dict:=none,data:=.set #[] 0 (.fresh 0 0 a) } }) λa=>⟨a,rfl,rfl⟩) λr u hr=>?_;cases r with
 |error e=>exact hr
 |ok fl=>
  cases fl with
  |ret y=>
   obtain⟨a,rfl,rfl⟩:=hr;have X:(s.heap.push { cls:=.type "set",dict:=none,data:=.set #[] 0 (.fresh 0 0 a) }).get? s.heap.objs.size=some { cls:=.type "set",dict:=none,data:=.set #[] 0 (.fresh 0 0 a) }:=QN _ rfl;have hT:Shared.TypeIs { s with heap:=s.heap.push { cls:=.type "set",dict:=none,data:=.set #[] 0 (.fresh 0 0 a) } } (.ref s.heap.objs.size) "set" :=⟨_,X,rfl⟩;have ac:=Sq.init.lookup;have ab:=Sq.init.bind<|.ref s.heap.objs.size
   repeat (any_goals (first|assumption|wp_step))
   refine Te (codeAny_call_builtin (R:=wants (λr u=>r=.none/\∃g G T,u={ s with heap:=g,toks:=G }/\g.SetOf (cL prog w) s.heap.objs.size T items.size/\(∀b o,b<s.heap.objs.size->s.heap.get? b=some o->g.get? b=some o)) E)
    Sq.init.plain WB (check_set_init_1 hT ?_)) λr2 u m=>?_
   ·obtain⟨⟨P,n,L,f⟩,W,D,S,z⟩:=hl
    simp only at D z;subst D;subst z;have B:(s.heap.push { cls:=.type "set",dict:=none,data:=.set #[] 0 (.fresh 0 0 a) }).get? l=some { cls:=.type "list",dict:=n,data:=.seq items S,slots:=f }:=QE _ W;have k1:=W3;have k2:=V3;have k3:(Value.type "list" == Value.type "dict")=false:=by decide
    have C:(s.heap.push { cls:=.type "set",dict:=none,data:=.set #[] 0 (.fresh 0 0 a) }).IsList l items:=⟨_,B,rfl,S,rfl⟩;unfold Builtin.«set.__init__» noKeywords Builtin.Frozenset.updateFrom;generalize M:pyIter=PI
    wp_walk
    subst M;refine Td C ?_;refine Qz<|W4 ?_;have q:l<s.heap.objs.size:=QY W;have x:l≠(s.heap.push { cls:=.type "set",dict:=none,data:=.set #[] 0 (.fresh 0 0 a) }).objs.size:=by
     rw[Ub];exact QU<|SO q
    have Yq:s.heap.objs.size ∉ [(s.heap.push { cls:=.type "set",dict:=none,data:=.set #[] 0 (.fresh 0 0 a) }).objs.size,l]:=by
     rw[Ub];simp only[mem_cons,not_mem_nil,or_false,not_or];exact⟨QU<|Tn _,UB q⟩
    refine setLoop ((Vg (show A.in1.in1.in1.handled=none by simp[hh]) _ l x items).toS) s.heap.objs.size Yq key hv YE F (items.size-0) 0 _ (by lia) (RF _) ⟨⟨_,QN _ rfl,rfl,rfl⟩,C.push _⟩ ?_ ?_
    ·refine uD ((PyProof.Rows.setObjOf_fresh (knd:=cL prog w) a).setOf (QE _ X)<|by unfold scanBound;lia) (λ_=>rfl) rfl
    ·intro Z H p
     obtain⟨g,g',d',N,J⟩:=Z;have eg:g'=s.gens:=H.gens;have ed:d'=s.drawn:=H.drawn;have eo:J=s.os:=H.os;subst eg ed eo;show wpAny _ _ _ _ _ _;refine QA ?_;show wpAny _ _ (ret Value.none) _ _ _;refine QA ⟨rfl,g,N,_,rfl,p,λb o F e=>?_⟩;have O:b≠(s.heap.push { cls:=.type "set",dict:=none,data:=.set #[] 0 (.fresh 0 0 a) }).objs.size:=by
      rw[Ub];exact QU<|SO F
     exact H.heap b o (by simp only[mem_cons,not_mem_nil,or_false,not_or];exact⟨QU F,O⟩)<|QE _<|QE _ e
   ·cases r2 with
    |error e=>exact m
    |ok I=>
     cases I with
     |ret r=>
      obtain⟨rfl,g,G,T,rfl,p,Yh⟩:=m
      repeat (any_goals (first|assumption|wp_step))
      exact h _ _ _ p Yh
     |_=>exact m.elim
  |_=>exact hr.elim
def setM(P:Xi)(w:Xj)(a:Xg)(n:Nat):HO:=.ext λh=>∃T,h.SetOf (cL P w) a T n
def mX{X:Cx}(P:X.calm=true):eK X (.type "set") (λxs H Q=>∃(p:Xg) (zs:Xm Xn),xs=[.ref p]/\cN X.K H p (zs.map V.str)/\zs.Nodup/\zs.length<1000/\∀q,H q=none->Q (.ref q) (upd H q<|setM X.prog X.w q zs.length)):=by
 intro S s σ H xs Y Q I r h;obtain⟨p,zs,rfl,D,nd,W,q⟩:=h;obtain⟨u,rfl,G⟩:=vals1 r;cases G;obtain⟨y,x,E,_⟩:=I.list D;have l:=x.length;rw[QF]at l;refine BY (key:=λi=>Sum.inr<|zs.getD i "") (I.ok.hd P) E.isList (λi v e=>?_) (λi j B Z=>?_) (by rw[Rl,<-l];unfold scanBound;lia) λg C T m A=>?_
 ·have n:y[i]? =some v:=by simpa using e
  have z:i<zs.length:=by grind
  obtain⟨u,O,t,rfl⟩:=x.get (show(zs.map V.str)[i]? =some (V.str zs[i]) by simp[z]);rw[O]at n;cases n;have f:zs.getD i "" =zs[i]:=by simp[List.getD,z]
  rw[f];exact⟨r8 _ _,rfl⟩
 ·have M:j<zs.length:=by grind
  have a:i<zs.length:=by lia
  intro e;have f:zs[i]=zs[j]:=by simpa [List.getD,a,M] using (SV e)
  exact absurd ((TJ nd).mp f) (by lia)
 ·have J:=I.hok.fresh (QJ _)
  have N:y.toArray.size=zs.length:=by rw[Rl,l]
  rw[N]at m;refine⟨.ref s.heap.objs.size,_,I.laid (t':=C) (o:=setM X.prog X.w s.heap.objs.size zs.length) (λb o e=>A b o (QY e) e) (QJ _) ⟨⟨T,m⟩,?_,λU R p k=>?_⟩,rfl,q _ J⟩
  ·obtain⟨o,_,_,_,e,_⟩:=m
   exact⟨o,e⟩
  ·obtain⟨T,o,F,L,t,e,rest⟩:=p
   exact⟨T,o,F,L,t,k o e,rest⟩
def hZ{X:Cx}:eK X (.builtin "len") (λxs H Q=>∃(p:Xg) (n:Nat),xs=[.ref p]/\H p=some (setM X.prog X.w p n)/\Q (.int n) H):=by
 intro m s σ H xs y Q I r h;obtain⟨p,n,rfl,g,q⟩:=h;obtain⟨u,rfl,j⟩:=vals1 r;cases j;obtain⟨⟨T,o,a,x,t,e,f,d,_,_,l,i,rfl⟩,_⟩:=I.hok p _ g;have v:a.size<4096:=l;exact call_len_set e f d i (by lia) ⟨.int a.size,H,I.tok _,⟨_,rfl⟩,q⟩
section
variable {K:Frag}
def K9(Pv:Xg->Nat->Xm V->Hp->Prop)(hz:n<=sizeLine)(h0:∀D,H D=none->Pv D 0 [] (upd H D<|.lst []))
  (l:∀D i ys a,Pv D i ys a->a D=some (.lst ys)/\ys.length=i)(r:∀D i ys a,Pv D i ys a->i<n->J.go i a)(A:∀D ys a,Pv D n ys a->J.stop n a)
  (he:∀D i ys a v f (h:VK),Pv D i ys a->i<n->J.yld i a v f->(∀y H4,H4 D=some (.lst ys)->Pv D (i+1) (ys++[y]) (upd H4 D<|.lst<|ys++[y])->h y H4)->te (some v::ee is σ) f h)
  (q:∀D ys a,H D=none->Pv D n ys a->Q (.ref D) a):jY J is te σ H Q:=by
 intro D g;refine⟨λi m ys a=>m=n-i/\i<=n/\Pv D i ys a,⟨_,rfl,RF _,h0 D g⟩,?_⟩;rintro i m ys a ⟨rfl,z,p⟩;obtain⟨o,w⟩:=l D i ys a p;refine⟨o,?_⟩;by_cases e:i<n
 ·refine .inr ⟨r D i ys a p e,λv f y=>he D i ys a v f _ p e y λx H4 s j=>⟨s,by lia,n-(i+1),by lia,rfl,e,j⟩⟩
 ·grind
def AE{xs:Xm V}(f:V->V)(hz:xs.length<=sizeLine)(B:∀i a,cH H a->i<xs.length->J.go i a)(C:∀a,cH H a->J.stop xs.length a)
  (A:∀i a v g,cH H a->i<xs.length->J.yld i a v g->g=a/\xs[i]? =some v)
  (he:∀v a (r:VK),v∈xs->cH H a->(∀g,cH a g->r (f v) g)->te (some v::ee is σ) a r)
  (q:∀D H',H D=none->cH H H'->H' D=some (.lst<|xs.map f)->Q (.ref D) H'):jY J is te σ H Q:=by
 refine K9 (λD i h a=>H D=none/\cH H a/\a D=some (.lst h)/\i<=xs.length/\h=(xs.take i).map f) hz (λD l=>⟨l,cH.upd l,cE,RF _,by simp⟩)
  (λD i h a p=>⟨p.2.2.1,by rw[p.2.2.2.2,QF,RK];have:=p.2.2.2.1;lia⟩) (λD i h a p w=>B i a p.2.1 w) (λD h a p=>C a p.2.1) ?_ ?_
 ·rintro D i h a v g r ⟨l,m,z,w,n⟩ j y k
  obtain⟨rfl,x⟩:=A i a v g m j y;refine he v _ _ (QH x) m λE s=>?_;refine k _ _ (s _ _ z) ⟨l,λb o e=>?_,cE,j,?_⟩
  ·rw[cG<|cF e l]
   exact s _ _<|m _ _ e
  ·rw[n,RE,x,Si]
   rfl
 ·grind
def lF{xs:Xm V}(f:V->V)(h:cN K H a xs)(hz:xs.length<=sizeLine)(he:∀v e (l:VK),v∈xs->cH H e->(∀j,cH e j->l (f v) j)->te (some v::ee is σ) e l)
  (q:∀D H',H D=none->cH H H'->H' D=some (.lst<|xs.map f)->Q (.ref D) H'):jY (FR K a) is te σ H Q:=
 AE f hz (λi e g m=>⟨xs,xs[i],g.seq h,by simp[m]⟩) (λe g=>⟨xs,g.seq h,QJ _⟩) (λi e v j g m y=>⟨y.1,y.2 xs<|g.seq h⟩) he q
def HF{xs:Xm V}(f:V->V)(h:fh K H a xs)(hz:xs.length<=sizeLine)(he:∀v e (l:VK),v∈xs->cH H e->(∀j,cH e j->l (f v) j)->te (some v::ee is σ) e l)
  (q:∀D H',H D=none->cH H H'->H' D=some (.lst<|xs.map f)->Q (.ref D) H'):jY (O6 K a) is te σ H Q:=
 AE f hz (λi e g m=>⟨xs,xs[i],g.Lq h,by simp[m]⟩) (λe g=>⟨xs,g.Lq h,QJ _⟩) (λi e v j g m y=>⟨y.1,y.2 xs<|g.Lq h⟩) he q
end
theorem jf{env:Env}{k:NameKind}(f:k≠.free):∀{names:Xm (Xn×NameKind)}{x:Xn},names.lookup x=some k->
  (names.map λ(n,k)=>if(k==NameKind.free&&env.scope.kind==.function&&env.kindOf n==some .cell) then(n,NameKind.cell) else(n,k)).lookup x=some k
 |[],_,h=>by simp at h
 | (n,j)::r,x,h=>by
  have g:=@jf env k f r x;show List.lookup x ((if(j==NameKind.free&&env.scope.kind==.function&&env.kindOf n==some .cell)=true then(n,NameKind.cell) else(n,j))::_)=_;cases e:x==n with
  |true=>
   simp only[lookup_cons,e]at h;cases h;rw[QG<|by simp[f]];simp only[lookup_cons,e]
  |false=>
   simp only[lookup_cons,e]at h;by_cases a:(j==NameKind.free&&env.scope.kind==.function&&env.kindOf n==some .cell)=true
   ·rw[QI a];simp only[lookup_cons,e];exact g h
   ·rw[QG a];simp only[lookup_cons,e];exact g h
theorem jx{env:Env}:∀{names:Xm (Xn×NameKind)}{x:Xn},names.lookup x=some .free->
  (names.map λ(n,k)=>if(k==NameKind.free&&env.scope.kind==.function&&env.kindOf n==some .cell) then(n,NameKind.cell) else(n,k)).lookup x=some .cell\/
  (names.map λ(n,k)=>if(k==NameKind.free&&env.scope.kind==.function&&env.kindOf n==some .cell) then(n,NameKind.cell) else(n,k)).lookup x=some .free
 |[],_,h=>by simp at h
 | (n,j)::r,x,h=>by
  have a:=@jx env r x;cases e:x==n with
  |true=>grind
  |false=>grind
structure Bh(X:Cx)(x:Xn)(sp:Sp):Prop where
 ex:∃(k:Nat) (f:Xg) (fd:FuncData) (ps:Xm Xn),fq X.prog X.w X.K X.mg X.base oF k f fd ps sp/\dP k X.A/\X.mg x=some (.ref f)/\keepIn X.K (.ref f)=true/\Binds X.K fd ps []
 db:(x==("__debug__" :Xn))=false
def Bh.lc(B:Bh X y sp)(h:scope.names.lookup y=some .globalImplicit):Ke (du X (x::ns) scope cl fp s3 H3 C) y sp:=⟨B.ex,jf (by decide) h,B.db⟩
structure Gd(P:Xi)(w:Xj)(K:Frag)(mg:Xr)(base:Heap)(k:Nat)(x:Xn)(sp:Sp):Prop where
 ex:∃(f:Xg) (fd:FuncData) (ps:Xm Xn),fq P w K mg base oF k f fd ps sp/\mg x=some (.ref f)/\keepIn K (.ref f)=true/\Binds K fd ps []
structure Md(P:Xi)(w:Xj)(K:Frag)(mg:Xr)(base:Heap)(k:Nat)(C:Xg)(m:Xn)(sp:Sp):Prop where
 ex:∃(f:Xg) (fd:FuncData) (ps:Xm Xn),fq P w K mg base oF k f fd ps sp/\Meth K C m f/\Binds K fd ps []
 cl:Ac K C
structure Kd(P:Xi)(w:Xj)(K:Frag)(mg:Xr)(base:Heap)(k:Nat)(x:Xn)(C:Xg)(sp:Sp):Prop where
 ex:∃(f:Xg) (fd:FuncData) (ps:Xm Xn),fq P w K mg base oF k f fd ps sp/\Mk K C f/\Binds K fd ps []
 nm:mg x=some (.ref C)
structure Pg(X:Cx)(x:Xn)(C:Xg)(sp:Sp):Prop where
 ex:∃(k:Nat) (f:Xg) (fd:FuncData) (ps:Xm Xn),fq X.prog X.w X.K X.mg X.base oF k f fd ps sp/\dP (k+1) X.A/\Mk X.K C f/\Binds X.K fd ps []
 nm:X.mg x=some (.ref C)
 gl:Gl X x
 db:(x==("__debug__" :Xn))=false
structure Met(X:Cx)(C:Xg)(m:Xn)(sp:Sp):Prop where
 ex:∃(k:Nat) (f:Xg) (fd:FuncData) (ps:Xm Xn),fq X.prog X.w X.K X.mg X.base oF k f fd ps sp/\dP k X.A/\Meth X.K C m f/\Binds X.K fd ps []
 cl:Ac X.K C
structure Here(X:Cx)(P:Xi)(w:Xj)(K:Frag)(mg:Xr)(base:Heap)(sc:Scope)(N:Xm Xn)(k:Nat):Prop where
 pr:X.prog=P
 wd:X.w=w
 fK:X.K=K
 gm:X.mg=mg
 bs:X.base=base
 calm:X.calm=true
 own:PassesOwn (model X.prog X.w) X.A X.env X.xe
 hsc:X.env.scope=sc
 hN:X.N=N
 nd:X.N.Nodup
 room:dP k X.A
 fn:∀x,X.fn x=true
section
variable {K:Frag}{mg:Xr}{base:Heap}{sc:Scope}{N:Xm Xn}{k:Nat}{j:Nat}{x:Xn}{m:Xn}{sp:Sp}{C:Xg}
def Here.slot (h:Here X P w K mg base sc N k) (i:Nat) (a:N[i]? =some x) (lc:Loc sc x) (db:(x==("__debug__" :Xn))=false) (cd:(x==("__classdict__" :Xn))=false):Slot X i x:=
 ⟨by rw[h.hN];exact a,by rw[h.hsc];exact lc,.inl<|h.fn x,db,cd⟩
def Here.sl (h:Here X P w K mg base sc N k) (i:Nat) (x:Xn) (a:N[i]? =some x:=by rfl) (lc:Loc sc x:=by first|exact .inl rfl|exact .inr rfl) (db:(x==("__debug__" :Xn))=false:=by decide) (cd:(x==("__classdict__" :Xn))=false:=by decide):Slot X i x:=h.slot i a lc db cd
def OR(X:Cx):Xm Nat->Xm Xn->Prop
 |i::is,x::r=>Slot X i x/\OR X is r
 |_,_=>True
theorem Here.Nz(h:Here X P w K mg base sc N k):∀(is:Xm Nat) (r:Xm Xn),(∀(j i:Nat) x,is[j]? =some i->r[j]? =some x->N[i]? =some x)->(∀x∈r,(sc.names.lookup x=some .local\/sc.names.lookup x=some .cell)/\(x==("__debug__" :Xn))=false/\(x==("__classdict__" :Xn))=false)->OR X is r
 |[],_,_,_=>trivial
 |_::_,[],_,_=>trivial
 |i::is,x::r,e,c=>⟨h.slot i (e 0 i x rfl rfl) (c x Ru).1 (c x Ru).2.1 (c x Ru).2.2,Here.Nz h is r (λj i x a b=>e (j+1) i x a b) λy f=>c y<|Ry _ f⟩
def Here.fg (h:Here X P w K mg base sc N k) (is:Xm Nat) (e:is=List.range N.length:=by rfl) (c:∀x∈N,(sc.names.lookup x=some .local\/sc.names.lookup x=some .cell)/\(x==("__debug__" :Xn))=false/\(x==("__classdict__" :Xn))=false:=by decide+kernel):OR X is N:=h.Nz is N (λj i x a b=>by
 subst e;obtain⟨g,f⟩:=gI0.mp a;rw[List.getElem_range]at f;exact f ▸ b) c
def Here.gl(h:Here X P w K mg base sc N k)(a:sc.names.lookup x=some .globalImplicit):Gl X x:=by
 show X.env.scope.names.lookup x=_;rw[h.hsc];exact a
def Here.bt (h:Here X P w K mg base sc N k) (hm:mg x=none) (a:sc.names.lookup x=some .globalImplicit) (e:x≠ "__name__") (db:(x==("__debug__" :Xn))=false):Bt X x:=⟨h.gl a,by rw[h.gm];exact hm,e,db⟩
def Here.b (h:Here X P w K mg base sc N k) (hm:mg x=none) (a:sc.names.lookup x=some .globalImplicit:=by rfl) (e:x≠ "__name__" :=by decide) (db:(x==("__debug__" :Xn))=false:=by decide):Bt X x:=h.bt hm a e db
def Here.gN (h:Here X P w K mg base sc N k) (G:Gd P w K mg base j x sp) (o:sc.names.lookup x=some .globalImplicit) (g:j<=k) (db:(x==("__debug__" :Xn))=false):Ke X x sp:=by
 obtain⟨f,a,e,m,i,n,l⟩:=G.ex;obtain⟨rfl,rfl,rfl,rfl,rfl⟩:=And.intro h.pr<|And.intro h.wd<|And.intro h.fK<|And.intro h.gm h.bs;exact⟨⟨j,f,a,e,m,h.room.mono g,i,n,l⟩,h.gl o,db⟩
def Here.c (h:Here X P w K mg base sc N k) (G:Gd P w K mg base j x sp) (a:sc.names.lookup x=some .globalImplicit:=by rfl) (e:j<=k:=by first|decide|exact QJ _) (db:(x==("__debug__" :Xn))=false:=by decide):Ke X x sp:=h.gN G a e db
def Here.we (h:Here X P w K mg base sc N k) (G:Gd P w K mg base j x sp) (g:j<=k) (db:(x==("__debug__" :Xn))=false):Bh X x sp:=by
 obtain⟨f,a,e,m,i,n,l⟩:=G.ex;obtain⟨rfl,rfl,rfl,rfl,rfl⟩:=And.intro h.pr<|And.intro h.wd<|And.intro h.fK<|And.intro h.gm h.bs;exact⟨⟨j,f,a,e,m,h.room.mono g,i,n,l⟩,db⟩
def Here.ci (h:Here X P w K mg base sc N k) (G:Gd P w K mg base j x sp) (a:j<=k:=by first|decide|exact QJ _) (db:(x==("__debug__" :Xn))=false:=by decide):Bh X x sp:=h.we G a db
def Here.Pf (h:Here X P w K mg base sc N k) (G:Kd P w K mg base j x C sp) (n:sc.names.lookup x=some .globalImplicit) (g:j+1<=k) (db:(x==("__debug__" :Xn))=false):Pg X x C sp:=by
 obtain⟨f,a,e,l,i,m⟩:=G.ex;obtain⟨rfl,rfl,rfl,rfl,rfl⟩:=And.intro h.pr<|And.intro h.wd<|And.intro h.fK<|And.intro h.gm h.bs;exact⟨⟨j,f,a,e,l,h.room.mono g,i,m⟩,G.nm,h.gl n,db⟩
def Here.met(h:Here X P w K mg base sc N k)(G:Md P w K mg base j C m sp)(g:j<=k):Met X C m sp:=by
 obtain⟨f,a,e,l,i,n⟩:=G.ex;obtain⟨rfl,rfl,rfl,rfl,rfl⟩:=And.intro h.pr<|And.intro h.wd<|And.intro h.fK<|And.intro h.gm h.bs;exact⟨⟨j,f,a,e,l,h.room.mono g,i,n⟩,G.cl⟩
end
def CD:bootBuiltins "set" =some (.type "set"):=by decide+kernel
def uG:bootBuiltins "min" =some (.builtin "min"):=by decide+kernel
def JQ:bootBuiltins "max" =some (.builtin "max"):=by decide+kernel
def fH{c A B:Prop} [Decidable c] (a:c)(h:A):if c then A else B:=by grind
def gP{c A B:Prop} [Decidable c] (a:¬c)(h:B):if c then A else B:=by grind
inductive OZ(K:Frag)(x y:V)(H:Hp)(Q:VK):Prop
 |mk(l b:Xg)(xs zs:Xm V)(f:x=.ref l)(a:y=.ref b)(s:cN K H l xs)(t:cN K H b zs)(e:xs.length+zs.length<=sizeLine)(q:∀p,H p=none->Q (.ref p) (upd H p (.lst (xs++zs))))
def Jd(K:Frag):R2:=λx y H Q=>OZ K x y H Q
def F2:jk X (binaryOp .Add) (Jd X.K):=by
 intro S s σ H x y v u Q I M N h;obtain⟨l,b,Z,T,rfl,rfl,J,P,W,q⟩:=h;cases M;cases N;obtain⟨o,r,L,z⟩:=I.list J;obtain⟨a,C,j,U⟩:=I.list P;have Y:=r.length;have G:=C.length;obtain⟨⟨E,O,data,sl⟩,B,D,n,w⟩:=L.isList;obtain⟨⟨A,m,data2,p⟩,i,g,R,f⟩:=j.isList;simp only at D w g f;subst D w g f;have e:o.toArray++a.toArray=(o++a).toArray:=by simp
 refine concat_meets ⟨_,B,rfl⟩ ⟨_,i,rfl⟩ noFill_list_add seq_list_add PySem.F.slot_list_add PySem.F.entry_list_add (PySem.F.args_list_add_2 _ _) (list_addW l b o.toArray a.toArray n R O m sl p<|by grind) ⟨B,i,?_⟩;rw[e];exact⟨.ref _,_,I.OU (t':=s.toks) (r.append C)<|by grind,rfl,q _ I.fresh⟩
end L2
namespace J
structure MU(X:Cx)(id:String)(r:V->Xm V->Hp->VK->Prop):Prop where
 out:Px X id r
def _root_.cj (h:scope.names.lookup x=some .local) (db:(x==("__debug__" :Xn))=false) (cd:(x==("__classdict__" :Xn))=false):JE (du X (x::ns) scope cl fp s3 H3 C) (.Name x p) (je 0):=
 ⟨mV rfl (.inl<|Sv h) db cd⟩
def Pc {i:Nat}(h:scope.names.lookup y=some .free) (a:ns[i]? =some y) (db:(y==("__debug__" :Xn))=false) (cd:(y==("__classdict__" :Xn))=false):JE (du X (x::ns) scope cl fp s3 H3 C) (.Name y p) (je<|i+1):=
 ⟨mV a (.inr<|jx h) db cd⟩
def Pf(M:Pg X x C sp)(g:JA X (e::es) t)(i:notStar e=true:=by rfl)(h:es.all notStar=true:=by rfl):JE X (.Call (.Name x p) (e::es) [] pos) (Ja C sp [] E0 t):=by
 obtain⟨k,f,j,l,F,hr,mk,a⟩:=M.ex;exact⟨Gu mk F hr M.gl M.nm a .nil Aa g.out M.db (cU i)<|gG h⟩
def _root_.bE(M:Met X C m sp)(he:JE X o ta)(g:eval (.Call (.Attribute o m Xy) [] [] pos) X.env=(do
   let a <-eval o X.env
   standAt Xy.atName
   let (f,first) <-holding [a] (getMethod a m pl)
   callWith pos f first (backTo pos<|starEach [] X.env) (backToKw pos<|keywordEach [] X.env))):JE X (.Call (.Attribute o m Xy) [] [] pos) (IF C m sp [] E0 ta kT):=by
 obtain⟨k,f,i,j,F,hr,h,e⟩:=M.ex;exact⟨C3 he.out M.cl h F hr e .nil Aa g⟩
def _root_.cb(he:JE X (.Name x p) ta):JE X (.Attribute (.Name x p) f pos) (Mj X.K ta f):=⟨KZ he.out rfl⟩
def mG(e:JE X o ta)(a:JE X value tv)(h:hV value=false:=by rfl):JS X (.Assign [.Attribute o f XI] value pos) (MB X.K ta tv f):=⟨L2.mG e.out a.out<|jz h⟩
def _root_.bF:MU X "list.append" Ab:=⟨rY⟩
def tX:MU X "str.join" (λx vs H Q=>∃(a:Xn) (p:Xg) (zs:Xm Xn),x=.str a/\vs=[.ref p]/\cN X.K H p (zs.map V.str)/\(zs.map (·.length)).sum+zs.length*a.length<=16777216/\Q (.str<|Txt.join a zs) H):=⟨L2.tX⟩
def iR(o:Expr):Bool:=match o with
 |.Call .. =>false
 |_=>true
def fQ(h:iR o=true):attributeBase o name env v=v:=by
 cases o<;>first|rfl|cases h
def LW(a:notStar e=true):((backTo Xx<|starEach [e] env).all (λx=> !x.1)&&(backToKw Xx<|keywordEach [] env).all (λx=>x.1.isSome)
   && decide ([e].length+([]:Xm Keyword).length+(if([]:Xm Keyword).isEmpty then 0 else 1)<30))=true:=by
 rw[cU a];rfl
def _root_.bw {T id:String}(j:PlainAttrs T) (slot:Slot T name id) (a:typeOf (.builtin id)=pure (.type "method_descriptor")) (hm:MU X id r) (g:JE X o te) (i:JA X [e] t)
  (h:iR o=true:=by rfl)(f:notStar e=true:=by rfl)(l:(Xy.endLine==pos.line)=true:=by rfl):JE X (.Call (.Attribute o name Xy) [e] [] pos) (PM X.K T r te t):=
 ⟨NQ j slot a hm.out g.out i.out (fQ h) (LW f) l (cU f) rfl⟩
def oS (B:Bt X "enumerate") (e:JA X [e1] t) (a:notStar e1=true:=by rfl):JI X (.Tuple es kk tp) (.Call (.Name "enumerate" p) [e1] [] pos) (IH X.K t):=⟨L2.oS B e.out a⟩
def mX(a:X.calm=true):JF X (.type "set") (λxs H Q=>∃(p:Xg) (zs:Xm Xn),xs=[.ref p]/\cN X.K H p (zs.map V.str)/\zs.Nodup/\zs.length<1000/\∀q,H q=none->Q (.ref q) (upd H q<|setM X.prog X.w q zs.length)):=⟨L2.mX a⟩
def hZ:JF X (.builtin "len") (λxs H Q=>∃(p:Xg) (n:Nat),xs=[.ref p]/\H p=some (setM X.prog X.w p n)/\Q (.int n) H):=⟨L2.hZ⟩
def _root_.bH:Mx X [] MY:=⟨Hh⟩
def _root_.aT(S:JG X (.Name x p) g)(h:Mx X es u):Mx X (.Name x p::es) (IS g u):=⟨E6 S.out h.out rfl⟩
def _root_.bO(e:X.calm=true)(h:Mx X es u)(f:(assignEach es X.env).length=n:=by rfl)(a:(assignEach es X.env).findIdx? (·.1)=none:=by rfl):JG X (.Tuple es k pos) (Lm X.K n u):=⟨EB e h.out f a⟩
def asg(he:JE X e te)(f:JG X tg g)(a:swapsWithSole [tg] e pos.line X.env=pure false:=by rfl)(hw:swappedStores [tg] e X.env=pure none:=by rfl)
  (h:(assignEach [tg] X.env).map (·.2)=[assign tg X.env]:=by rfl):JS X (.Assign [tg] e pos) (vN te g):=⟨Kw he.out f.out a hw h⟩
def _root_.cA:JB X .Add (Jd X.K):=⟨F2⟩
def Ap(h:JE X (.Name x p) te):JT X (.Name x p) (tB te):=⟨yI h.out λ_=>rfl⟩
def _root_.cv:dU (.Subscript a b p):=⟨λ_ _=>rfl⟩
def _root_.cC{K:Frag}{base:Heap}{sc:Scope}{N:Xm Xn}{k:Nat}{v:V}(a:Here X P w K mg base sc N k)(hm:∃u,mg x=some u/\RelV v u)(g:sc.names.lookup x=some .globalImplicit)
  (db:(x==("__debug__" :Xn))=false):JE X (.Name x p) (tC v):=by
 obtain⟨u,f,e⟩:=hm;exact J.oZ (a.gl g) (by rw[a.gm];exact f) e db
section
variable {K:Frag}{mg:Xr}{base:Heap}{x:Xn}{Xz:Xn}{m:Xn}{st:Stmt}{f:Xg}{C:Xg}{fd:FuncData}{N:Xm Xn}{ps:Xm Xn}{k:Nat}{sp:Sp}
def oP(F:qS K x Xz st f fd)(S:cK N ps (cI st))(len:∀vs H Q E,sp vs H Q E->vs.length=ps.length)
  (e:∀(X:Cx)(H:Hp)(vs:Xm V)(Q:VK)(E:XK),Here X P w K mg base (cI st) N k->sp vs H Q E->∃t,x6 X (dh st) t/\t { nx:=λ_ H'=>Q .non H',rt:=Q } (L2.start N vs) H):fq P w K mg base oF (k+1) f fd ps sp:=by
 refine Nx F S len λX g A outer s H vs Q E a hr h=>?_;subst a;exact e _ H vs Q E ⟨rfl,rfl,rfl,rfl,rfl,rfl,PassesOwn.never,rfl,rfl,S.nd,hr,λ_=>rfl⟩ h
def Le(D:Df K mg x st ps f fd)(S:cK N ps (cI st))(len:∀vs H Q E,sp vs H Q E->vs.length=ps.length)
  (a:∀(X:Cx)(H:Hp)(vs:Xm V)(Q:VK)(E:XK),Here X P w K mg base (cI st) N k->sp vs H Q E->∃t,x6 X (dh st) t/\t { nx:=λ_ H'=>Q .non H',rt:=Q } (L2.start N vs) H):Gd P w K mg base (k+1) x sp:=
 ⟨f,fd,ps,oP D.fn S len a,D.nm,D.fn.kp,D.bi⟩
def _root_.aG(D:Df K mg x st ps f fd)(S:cK N ps (cI st))
  (a:∀(X:Cx)(H:Hp)(vs:Xm V)(Q:VK)(E:XK),Here X P w K mg base (cI st) N k->sp vs H Q E->∃t,x6 X (dh st) t/\t { nx:=λ_ H'=>Q .non H',rt:=Q } (L2.start N vs) H)(len:∀vs H Q E,sp vs H Q E->vs.length=ps.length:=by intro _ _ _ _ h;first| (obtain⟨⟩:=h;subst_vars;rfl)| ((repeat (obtain⟨_,h⟩:=h));subst_vars;rfl)):Gd P w K mg base (k+1) x sp:=Le D S len a
def _root_.cq(F:qS K m Xz st f fd)(a:Meth K C m f)(bi:Binds K fd ps [])(cl:Ac K C)(S:cK N ps (cI st))(len:∀vs H Q E,sp vs H Q E->vs.length=ps.length)
  (e:∀(X:Cx)(H:Hp)(vs:Xm V)(Q:VK)(E:XK),Here X P w K mg base (cI st) N k->sp vs H Q E->∃t,x6 X (dh st) t/\t { nx:=λ_ H'=>Q .non H',rt:=Q } (L2.start N vs) H):Md P w K mg base (k+1) C m sp:=
 ⟨⟨f,fd,ps,oP F S len e,a,bi⟩,cl⟩
def HP(F:qS K m Xz st f fd)(mk:Mk K C f)(bi:Binds K fd ps [])(nm:mg y=some (.ref C))(S:cK N ps (cI st))(len:∀vs H Q E,sp vs H Q E->vs.length=ps.length)
  (a:∀(X:Cx)(H:Hp)(vs:Xm V)(Q:VK)(E:XK),Here X P w K mg base (cI st) N k->sp vs H Q E->∃t,x6 X (dh st) t/\t { nx:=λ_ H'=>Q .non H',rt:=Q } (L2.start N vs) H):Kd P w K mg base (k+1) y C sp:=
 ⟨⟨f,fd,ps,oP F S len a,mk,bi⟩,nm⟩
end
end J
namespace L2
def B3{elt:Expr}{e:Xm Comprehension}{scope:Scope}{pos py:Pos}{y:Xn}{n:Nat}{env:Env}{sc:Scope}(a:env.scope=sc)
  (h:((if sc.kind.isAnnotationScope then ScopeKind.function else sc.kind)==.function&&sc.names.lookup y==some .local&&py.line==pos.line && !(scope.names.any λ(n,k)=>n==y&&(k==.local||k==.cell)))=true):
  swapsWith (.ListComp elt e scope pos) (some<|.Name y py) n env=pure true:=by
 subst a;show(pure _:Sem Bool)=pure true;exact RH pure h
section
variable {X:Cx}{Xs:Xq}{σ:St}{H:Hp}{s:Xh}{p:Xg}{ns:Xm Int}
def Inv.ints(I:Inv X Xs σ H s)(h:cN X.K H p (ns.map V.int)):∃xs:Array (Int×Tok),s.heap.IsList p (intItems xs)/\xs.toList.map (·.1)=ns:=by
 obtain⟨j,r,g,_⟩:=I.list h;have a:=intsAre_of r;obtain⟨xs,e⟩:=a.allInts.items;refine⟨xs,by rw[<-e];exact g.isList,?_⟩;have i:=a.numsOf;have f:j=(intItems xs).toList:=by rw[<-e]
 rwa [f,nums_intItems]at i
def nQ(l:X.calm=true):eK X (.builtin "sum") (λxs H Q=>∃(p:Xg) (ns:Xm Int),xs=[.ref p]/\cN X.K H p (ns.map V.int)/\Q (.int ns.sum) H):=by
 intro m s σ H xs o Q I r h;obtain⟨p,ns,rfl,g,q⟩:=h;obtain⟨u,rfl,j⟩:=vals1 r;cases j;obtain⟨v,i,e⟩:=I.ints g;refine sum_intListG (I.ok.hd l) i λn f t' a=>?_;rw[preSum_eq,e,R7<|by grind];exact⟨.int _,H,I.kept (t':=f) a,⟨_,rfl⟩,q⟩
def zO:V->V->Xk Bool
 |.ref a,.ref b=>if a=b then some true else none
 |x,y=>if dO x=true/\dO y=true then some (vP x y) else none
def rT{A:Xl}{s:Xh}{x y:V}{u v:Xf}{b:Bool}(g:RelV x u)(i:RelV y v)(h:zO x y=some b):SeqAt.EqAt A s u v b:=by
 have flat:(if dO x=true/\dO y=true then some (vP x y) else none)=some b->SeqAt.EqAt A s u v b:=λh=>by
  by_cases c:dO x=true/\dO y=true
  ·rw[QI c]at h
   cases h;exact uk g i c.1 c.2
  ·grind
 cases x with
 |ref a=>
  cases y with
  |ref c=>
   have f:(if a=c then some true else none)=some b:=h;by_cases e:a=c
   ·rw[QI e]at f
    cases f;cases g;cases i;rw[e];exact Wy _
   ·grind
  |_=>exact flat h
 |_=>exact flat h
def O3(bs:Xm Bool):Bool:=(List.range bs.length).all λi=>bs.getD i false
def OJ(K:Frag):R2:=λx y H Q=>∃a b f e bs,x=.ref a/\y=.ref b/\cN K H a f/\cN K H b e/\f.length=bs.length/\e.length=bs.length/\(∀(i:Nat) u v c,f[i]? =some u->e[i]? =some v->bs[i]? =some c->zO u v=some c)/\Q (.bl<|O3 bs) H
def fP{a:Xm Xf}{xs:Xm V}{j:Nat}(r:Vals xs a)(h:j<a.length):∃x,xs[j]? =some x/\RelV x a[j]:=by
 have i:=r.length;have e:xs[j]? =some xs[j]:=QB (by lia);obtain⟨u,f,g⟩:=r.get e;rw[QB h]at f;cases f;exact⟨_,e,g⟩
def LJ(W:X.A.units+1<cLine):jk X (compareOp .Eq) (OJ X.K):=by
 intro T s σ H x y v u Q I F G h;obtain⟨a,b,U,Z,bs,rfl,rfl,M,z,l1,l2,N,q⟩:=h;cases F;cases G;obtain⟨C,r,E,_⟩:=I.list M;obtain⟨o,n,f,_⟩:=I.list z;have Y:=r.length;have S:=n.length;refine SeqAt.eq_listAt (e:=λi=>bs.getD i false) E.isList f.isList (by grind) (by lia) (λj m l=>?_) ?_
 ·simp only[size_toArray]at m l
  obtain⟨R,L,w⟩:=fP r m;obtain⟨J,B,g⟩:=fP n l;have O:j<bs.length:=by lia
  have p:=QB O;have P:bs.getD j false=bs[j]:=by rw[R9,p];rfl
  rw[P];simp only[List.getElem_toArray];exact rT w g<|N j R J _ L B p
 ·have D:C.toArray.size=bs.length:=by simp only[size_toArray];lia
  rw[D];exact⟨.bl _,H,I,rfl,q⟩
end
end L2
namespace J
def nQ{X:Cx}(a:X.calm=true):JF X (.builtin "sum") (λxs H Q=>∃(p:Xg) (ns:Xm Int),xs=[.ref p]/\cN X.K H p (ns.map V.int)/\Q (.int ns.sum) H):=⟨L2.nQ a⟩
end J
namespace L2
section
variable {X:Cx}
theorem qf:∀{xs:Xm V}{us:Xm Xf},xs.length=us.length->(∀(i:Nat) x v,xs[i]? =some x->us[i]? =some v->RelV x v)->Vals xs us
 |[],[],_,_=>.nil
 |_::_,[],h,_=>by cases h
 |[],_::_,h,_=>by cases h
 |x::_,u::_,h,k=>.cons (k 0 x u rfl rfl)<|qf (Ss h) λi y v e a=>k (i+1) y v e a
inductive Kj(K:Frag)(x y:V)(H:Hp)(Q:VK):Prop
 |mk(a b:Xg)(xs ys:Xm V)(f:x=.ref a)(e:y=.ref b)(s:cN K H a xs)(t:cN K H b ys)(n:xs.length≠ys.length)(q:Q (.bl false) H)
def Ca(C:X.A.units+1<cLine):jk X (compareOp .Eq) (λx y H Q=>Kj X.K x y H Q):=by
 intro w s σ H x y v u Q I j l h;obtain⟨a,b,B,E,rfl,rfl,o,g,n,q⟩:=h;cases j;cases l;obtain⟨z,r,i,_⟩:=I.list o;obtain⟨f,m,e,_⟩:=I.list g;have D:=r.length;have p:=m.length;refine SeqAt.eq_list_lengthsAt i.isList e.isList ?_ (by lia) ⟨.bl _,H,I,rfl,q⟩;rw[bne_iff_ne];simp only[size_toArray];lia
end
def qA(I:Nat->Xh->Prop)
  (F:∀n s,I n s->wpAny (model prog w) A (pyNext it) (λr i=>match r with
   |none=>R (.ok .next) i
   |some v=>wpAny (model prog w) A (letOwnedTupleGo target it v) (λ_ f=>wpAny (model prog w) A (assign target env v) (λ_ q=>wpAny (model prog w) A (forIn X8 true λc r=>if r=true then do let ok <-isTrue c env (eval c env);pure (ForInStep.yield ok) else pure (ForInStep.yield r)) (λok a=>if ok=true then wpAny (model prog w) A (eval elt env) (λx o=>
     wpAny (model prog w) A (call (.builtin "list.append") [XC,x]) (λ_ l=>∃m,m<n/\I m l) (notedBy (model prog w) A env λe s'=>R (.error e) s') o)
     (notedBy (model prog w) A env λe s'=>R (.error e) s') a else ∃m,m<n/\I m a) (notedBy (model prog w) A env λe s'=>R (.error e) s') q) (notedBy (model prog w) A env λe s'=>R (.error e) s') f) (notedBy (model prog w) A env λe s'=>R (.error e) s') i) (notedBy (model prog w) A env λe s'=>R (.error e) s') s)
  (n:Nat) (h:I n s):
  codeAny (model prog w) A (.compLoop (.ListComp elt [⟨target,iter,X8,0⟩] scope pos) 0 it XC env) R s:=by
 refine codeAny_loop rfl I (λn s E=>?_) n h;refine wpAny_noted ?_;rw[compTurn_list];refine Qz<|wpAny_standAt<|Qz<|RQ (F n s E) (λr i j=>?_) λ_ _ g=>g;cases r with
 |none=>exact QA j
 |some v=>
  refine Qz<|RQ j (λ_ f y=>?_) λ_ _ g=>g;refine Qz<|RQ y (λ_ q B=>Qz<|RQ B (λok o p=>?_) λ_ _ g=>g) λ_ _ g=>g;cases ok with
  |false=>exact QA ⟨rfl,p⟩
  |true=>
   exact Qz<|Qz<|RQ p (λx l z=>Qz<|RQ z (λ_ D C=>QA<|QA ⟨rfl,C⟩) λ_ _ g=>g) λ_ _ g=>g
def L4(X:Cx)(e:Xm Expr)(t:TT):Prop:=
 ∀(a:Xq) (s:Xh) (σ:St) (H:Hp) (Q:Bool->Hp->Prop),Inv X a σ H s->t σ H Q->wpAny (model X.prog X.w) X.A (forIn e true λc r=>if r=true then do let ok <-isTrue c X.env (eval c X.env);pure (ForInStep.yield ok) else pure (ForInStep.yield r)) (TP X a σ Q) X.xe s
def wI:TT:=λ_ H Q=>Q true H
def zK:L4 X [] wI:=λ_ _ _ H _ I h=>wpAny_tests_nil ⟨H,I,h⟩
def Fq(h:PT X ct t):L4 X [ct] t:=λa s σ H Q I q=>wpAny_tests_one<|h a s σ H Q I q
inductive Ms(J:It)(n:Nat)(is:Xm Nat)(g:TG)(p:TT)(o:TE)(σ:St)(W:Nat->Nat->Xm V->Hp->Prop)(D:Xg)(i m:Nat)(ys:Xm V)(j:Hp):Prop
 |mk(go:J.go i j)(nx:∀(os:St) v H3,os.length=n->J.yld i j v H3->g v (os++ee is σ) H3 λa H4=>(∃e:St,e.length=n/\a=e++ee is σ)/\p a H4 λb l=>if b=true then o a l (λy h=>
  h D=some (.lst ys)/\ys.length<sizeLine/\∃f,f<m/\W (i+1) f (ys++[y]) (upd h D (.lst (ys++[y])))) else ∃f,f<m/\W (i+1) f ys l)
def eJ(J:It)(n:Nat)(is:Xm Nat)(g:TG)(h:TT)(f:TE)(σ:St)(H1:Hp)(Q:VK):Prop:=∀D,H1 D=none->∃W:Nat->Nat->Xm V->Hp->Prop,(∃m,W 0 m []<|upd H1 D<|.lst [])/\
 ∀i m e a,W i m e a->a D=some (.lst e)/\((J.stop i a/\Q (.ref D) a)\/Ms J n is g h f σ W D i m e a)
def Hs(a:TI)(n:Nat)(is:Xm Nat)(g:TG)(f:TT)(e:TE):TE:=λσ H Q=>a σ H λJ H1=>eJ J n is g f e σ H1 Q
structure vR(sc:Scope)(N:Xm Xn)(xs:Xm Xn)(scope:Scope)(is:Xm Nat)(ns:Xm Xn):Prop where
 kind:scope.kind=.function:=by rfl
 nocell:∀y∈scope.names,y.2≠.cell:=by decide+kernel
 names:∀y∈scope.names,y.2=.local->scope.names.lookup y.1=some .local:=by decide+kernel
 free:∀y∈scope.names,y.2=.free->sc.names.lookup y.1=some .cell:=by decide+kernel
 cap:ns.map some=is.map λi=>N[i]? :=by rfl
 capf:∀y∈ns,scope.names.lookup y=some .free/\sc.names.lookup y=some .cell:=by decide+kernel
def Ew(X:Cx)(f:Xq)(σ:St)(g:VK)(use:Xk (Xf->Sem Unit))(h:Xo):Prop:=
 ∀(D C:Xg) (e:Hp) (a:Xh) (m:Xr),g (.ref D) e->Inv X f σ e a->nU X f e C->a.heap.Ns C m->compPost (model X.prog X.w) X.A X.xe use h (.ref D) C (.ok .next) a
def mH{sc:Scope}{N:Xm Xn}{use:Xk (Xf->Sem Unit)}{Qv:Xo}{Gf:It->Hp->Prop}{Qs:VK}{cp:Pos}{Xs:Xq}{s:Xh}{σ:St}{H:Hp}(I:Inv X Xs σ H s)(h:wi σ H Gf)(hG:∀J H1,Gf J H1->eJ J xs.length is g tc te σ H1 Qs)
  (fin:Ew X Xs σ Qs use Qv)(hc:X.calm=true)(hi:PI X tg iter wi)(L:vR sc N xs scope is ns)(hg:∀K fp s3 B C,PG (du X (xs++ns) scope K fp s3 B C) tg g)(Yw:∀K fp s3 B C,L4 (du X (xs++ns) scope K fp s3 B C) X8 tc)(he:∀K fp s3 B C,Inv X Xs σ B s3->(∀b∈fp,nU X Xs B b)->PE (du X (xs++ns) scope K fp s3 B C) elt te)
  (bd:X.env.scope=sc)(hN:X.N=N)(hs:∀x,foldedSetIterable iter X.env x=pure x):
  wpAny (model X.prog X.w) X.A (comprehension (.ListComp elt [⟨tg,iter,X8,0⟩] scope pos) scope X.env cp (newList []) false (eval iter X.env) use) Qv X.xe s:=by
 subst bd hN;obtain⟨K,b2,R,a1⟩:=xY (env:=X.env) (scope:=scope) λy M hf=>I.ok.has y.1<|.inl<|L.free y M hf;refine wpAny_comprehension_free rfl hs b2 L.kind L.names<|cX (hi Xs s σ H _ I h) λv s1 h1=>cX h1 λcd f h2=>?_;obtain⟨it,fp,tn,J,H2,e,I2,T,XR,f2,h2⟩:=h2;subst e;refine RM (wpAny_newFunctionEnv L.nocell (by intro y M;simp at M) (λG Q P=>?_) L.kind);have hD:H2 f.heap.objs.size=none:=I2.hok.fresh<|QJ _;have O:Inv X Xs σ (upd H2 f.heap.objs.size<|.lst []) { f with heap:=f.heap.push { cls:=.type "list",dict:=none,data:=.seq ([]:Xm Xf).toArray } }:=
  I2.laid (t':=f.toks) (λb u e=>QE _ e) (QJ _) ⟨RF _,[],0,.nil,QN _ rfl⟩
 have aq:∀b u,f.heap.get? b=some u->(f.heap.push { cls:=.type "list",dict:=none,data:=.seq ([]:Xm Xf).toArray }).get? b=some u:=λb u e=>QE _ e;obtain⟨W,⟨m0,w0⟩,Yb⟩:=hG J H2 h2 f.heap.objs.size hD;dsimp only at Q P ⊢;generalize bx:f.heap.objs.size=D at *;generalize b3:f.heap.push { cls:=.type "list",dict:=none,data:=.seq ([]:Xm Xf).toArray }=F at *;generalize be:upd H2 D (.lst [])=B at *;have bf:∀b∈fp,b≠D:=λb a=>by
  obtain⟨o,e,_⟩:=T.obj 0 f.heap XR b a;rw[<-bx];exact QU<|QY e
 have E:∀b∈fp,nU X Xs B b:=λb a=>⟨by rw[<-be,cG<|bf b a];exact(f2 b a).1,(f2 b a).2⟩;have a0:tn 0 F:=T.keep 0 f.heap F XR λb _ o e=>aq b o e;have ad:∀b∈fp,b<F.objs.size:=λb a=>by
  obtain⟨o,e,_⟩:=T.obj 0 F a0 b a;exact QY e
 have Y:∀b u,F.get? b=some u->G.get? b=some u:=λb u e=>P.extBut b u (QU<|QY e)<|QE _ e;generalize hC:F.objs.size=C at *;have am:∀b∈fp,B b=none:=λb a=>(E b a).1;have a3:(du X (xs++ns) scope K fp { f with heap:=F } B C).Ok:=by
  refine⟨I.ok.mod,L.kind,I.ok.glob,I.ok.blt,SS hC,λy z c e1 e2=>I.ok.inj y z c (R y c e1)<|R z c e2,λy M=>?_,λ_ _ z=>(by cases z),I.ok.hd,I.ok.frames,.inl rfl,λb a=>⟨QU<|ad b a,λy c e=>(E b a).2.2.2.2.1 y c<|R y c e⟩,O.bs,Rn O.ok.bsz O.sz,λb o e a=>?_,λb a z=>?_,O.stack,O.zf⟩
  ·have hm:(y,NameKind.free)∈scope.names:=by
    obtain M|M:=M
    ·exact l0 M (.inl rfl) L.nocell
    ·exact l0 M (.inr rfl) L.nocell
   obtain⟨c,bm⟩:=I.ok.has y<|.inl<|L.free _ hm rfl;exact⟨c,(a1 _ hm rfl).trans bm⟩
  ·obtain z|z:=(E b a).2.2.2.1
   ·exact I.ok.noex b o e z
   ·exact absurd (Rp (QY e)<|Rn I.ok.bsz z)<|Uy _
  ·exact(Rf.mp<|O.yW b z).elim (E b a).2.1 (E b a).2.2.1
 have XE:(ee is σ).length=ns.length:=by
  have:=RH List.length L.cap;rw[QF,QF]at this;rw[ee,QF];exact this.symm
 have rl:(List.replicate xs.length (none:Xk V)).length=xs.length:=WQ ..;have I4:Inv (du X (xs++ns) scope K fp { f with heap:=F } B C) [] (List.replicate xs.length none++ee is σ) B { f with heap:=G,toks:=f.toks+0 }:=by
  refine⟨a3,rfl,O.bare,Un.kept Y,⟨_,Q,λi y v e1 e2 e3=>?_⟩,λy c e=>?_,?_,λy c e=>O.freeC y c<|R y c e,λp hp=>absurd (show p∈([]:Xq) from hp)<|by simp,O.hok.kept Y,by show(List.replicate xs.length none++ee is σ).length=(xs++ns).length;rw[QC,QC,XE,rl]⟩
  ·have e1:(xs++ns)[i]? =some y:=e1
   by_cases hi:i<xs.length
   ·rw[QX<|by rw[rl];exact hi,Wk,QI hi]at e2
    cases e2
   ·rw[QQ<|by rw[rl];lia,rl]at e2
    rw[QQ<|by lia]at e1;generalize i-xs.length=j at e1 e2;have a4:ns[j]? =some y:=e1;have U:(ee is σ)[j]? =some (some v):=e2;have M:=L.capf y<|QH a4;have Z:(ns.map some)[j]? =(is.map λi=>X.N[i]?)[j]? :=by rw[L.cap]
    rw[QR,QR,a4]at Z;rw[ee,QR]at U;cases hk:is[j]? with
    |none=>rw[hk]at U;cases U
    |some k=>
     rw[hk]at Z U;have hN:X.N[k]? =some y:=(Ri Z).symm;have b0:σ[k]? =some (some v):=by
      have q:(σ[k]?).join=some v:=Ri U;cases z:σ[k]? with
      |none=>rw[z]at q;cases q
      |some o=>rw[z]at q;exact RH some q
     obtain⟨m,hn,hl⟩:=O.loc;obtain⟨u,r,l⟩:=hl k y v hN b0<|.inr<|.inl M.2;refine⟨u,r,?_⟩;obtain ⟨Yh,_⟩|⟨Yh,c,ec,o,ho,hd⟩:=l
     ·have ay:X.env.scope.names.lookup y=some .local:=Yh
      rw[M.2]at ay;cases ay
     ·exact .inr ⟨.inl<|l7 I.ok.kind M.1 M.2,c,(a1 _ (SF M.1) rfl).trans ec,o,Y c o ho,hd⟩
  ·obtain⟨v,o,ho,hd⟩:=O.cell y c (R y c e)
   exact⟨v,o,Y c o ho,hd⟩
  ·show B C=none
   rw[<-hC];exact O.hok.fresh<|QJ _
 have av:tn 0 G:=T.keep 0 F G a0 λb _ o e=>Y b o e;have ab:∀{H':Hp},(∀b∈fp,H' b=none)->∀b∈fp,nU (du X (xs++ns) scope K fp { f with heap:=F } B C) [] H' b:=λ{H'} hn b a=>
  ⟨hn b a,QU<|ad b a,a3.exfs b a,.inl a,λy c e=>(E b a).2.2.2.2.1 y c<|R y c e,λp hp=>absurd (show p∈([]:Xq) from hp)<|by simp⟩
 have loop:codeAny (model X.prog X.w) X.A (.compLoop (.ListComp elt [⟨tg,iter,X8,0⟩] scope pos) 0 (.ref it) (.ref D)<|compEnvC scope K C X.env)
   (compPost (model X.prog X.w) X.A X.xe use Qv (.ref D) C) { f with heap:=G,toks:=f.toks+0 }:=by
  refine qA (λn s'=>∃i os ys H',os.length=xs.length/\Inv (du X (xs++ns) scope K fp { f with heap:=F } B C) [] (os++ee is σ) H' s'/\tn i s'.heap/\(∀b∈fp,H' b=none)/\W i n ys H') ?_ m0 ⟨0,List.replicate xs.length none,[],B,rl,I4,av,am,w0⟩;rintro n s5 ⟨i,os,ys,H5,bv,I5,as,a2,w5⟩;obtain⟨cf,⟨stop,q⟩|⟨go,step⟩⟩:=Yb i n ys H5 w5
  ·refine cX (T.done (du X (xs++ns) scope K fp { f with heap:=F } B C) rfl rfl rfl hc i [] s5 _ H5 _ I5 (ab a2) as stop) λr s6 ⟨hr,S⟩=>?_
   subst hr;obtain⟨m,hn,_⟩:=id S.loc;have ca:∀b o,F.get? b=some o->b≠C:=λb o e=>by rw[<-hC];exact QU<|QY e
   have fC:H5 C=none:=S.free;have bc:Inv X Xs σ H5 s6:=by
    refine O.Dr (s':=s6) (ch:=fp) S.os ⟨λb o e nn a hx=>?_,λb o e nn a hx=>?_,S.base.free,λb o e hx=>?_,S.base.tups,S.base.frzs,S.base.tbls⟩ (λb ob e=>S.hok b ob e) S.bare λb a=>⟨(E b a).2.2.2.1,(E b a).2.1,(E b a).2.2.2.2.1,(E b a).2.2.2.2.2⟩
    ·exact S.base.keep b o e nn a hx
    ·exact S.base.slot b o e nn a hx
    ·exact S.base.there b o e hx
   exact fin D C H5 s6 m q bc (O.ui (SS hC) fC) hn
  ·refine cX (T.item (du X (xs++ns) scope K fp { f with heap:=F } B C) rfl rfl rfl hc i [] s5 _ H5 _ I5 (ab a2) as go) λr s6 ⟨u,hr,h6⟩=>?_
   subst hr;refine cX h6 λ_ s7 ar=>?_;obtain⟨v,H7,I7,r7,y7,ac,bn⟩:=ar;have a9:=I7.pinned (ab bn)<|T.obj _ _ ac;refine RQ (hg K fp { f with heap:=F } B C _ s7 (os++ee is σ) H7 v u _ a9 r7 (step os v H7 bv y7)) (λ_ s8 ⟨ce,H8,I8,⟨ax,al,e8⟩,q8⟩=>?_) λ_ _ z=>False.elim z;subst e8;refine RQ (Yw K fp { f with heap:=F } B C _ s8 _ H8 _ I8 q8) (λbb sb ⟨Hb,Ib,qb⟩=>?_) λ_ _ z=>False.elim z;cases bb with
   |false=>
    rw[QG bF0]at qb;rw[QG bF0];obtain⟨m',an,w9⟩:=qb;refine⟨m',an,i+1,ax,ys,_,al,Ib.iA,T.keep _ _ _ ac λb a o e=>(Ib.pin (b,o)<|QP _<|QP _<|eZ a e).1,λb a=>?_,w9⟩;obtain⟨o',e,d⟩:=T.obj _ _ ac b a;exact(Ib.pin (b,o')<|QP _<|QP _<|eZ a e).2.1
   |true=>
    rw[QI rfl]at qb;rw[QI rfl];refine RQ (he K fp { f with heap:=F } B C O E _ sb _ Hb _ Ib qb) (λuy s9 ⟨y,H9,I9,r9,bi,b1,m',an,w9⟩=>?_) λ_ _ z=>False.elim z;refine RQ (rY (X:=du X (xs++ns) scope K fp { f with heap:=F } B C) _ s9 _ H9 (.ref D) [y] (.ref D) [uy] (λ_ H'=>H'=upd H9 D (.lst<|ys++[y])) I9 rfl (.cons r9 .nil) ⟨D,ys,y,rfl,rfl,bi,b1,rfl⟩) (λ_ b4 ⟨_,cc,ap,_,XJ⟩=>?_) λ_ _ z=>False.elim z;subst XJ;refine⟨m',an,i+1,ax,ys++[y],_,al,ap.iA,T.keep _ _ _ ac λb a o e=>(ap.pin (b,o)<|QP _<|QP _<|eZ a e).1,λb a=>?_,w9⟩;obtain⟨o',e,d⟩:=T.obj _ _ ac b a;exact(ap.pin (b,o')<|QP _<|QP _<|eZ a e).2.1
 exact codeAny_compStart_list loop<|T.self X.A 0 _ _ _ av loop
def su:Ew X Xs σ Q none (EP X Xs σ Q):=by
 intro D C j a m q g n h;refine⟨m,h,λl f=>⟨.ref D,j,g.m8 (t':=a.toks) (λb o=>?_) λb u i e=>(f.2 b λz=>i<|QK.mpr z).trans e,rfl,q⟩⟩;grind
def Be(K:X.N.Nodup)(g:X.N[iy]? =some y)(l:Loc X.env.scope y)(n:X.fn y=true\/X.env.scope.names.lookup y=some .local):
  Ew X Xs σ (λv H'=>Dn.nx (σ.set iy<|some v) H') (some<|assign (.Name y py) X.env) (λ_ s'=>SP X Xs Dn .next s'):=by
 intro D C i A m q j Q J;have f:∀b∈[C],nU X Xs i b:=λb E=>by grind
 obtain⟨x,p,h,s,O⟩:=id J;refine cX ((o9 K g l n) _ A σ i (.ref D) (.ref D) (λo H'=>o=σ.set iy (some<|.ref D)/\H'=i) (j.pinned f λb E=>by grind) rfl ⟨rfl,rfl⟩) λ_ H a=>?_;obtain⟨F,B,w,L,I⟩:=a;subst L;subst I;have r:=(w.pin (C,x)<|QP _<|QP _<|eZ (QK.mpr rfl) s).1;exact⟨m,⟨x,p,h,r,O⟩,λP M=>⟨_,B,w.iA.m8 (t':=H.toks) f λb u G e=>(M.2 b λz=>G<|QK.mpr z).trans e,q⟩⟩
def LO(p:X.calm=true)(n:PI X tg iter wi)(L:vR sc N xs scope is ns)(j:∀e fp f a C,PG (du X (xs++ns) scope e fp f a C) tg g)(l:∀e fp f a C,L4 (du X (xs++ns) scope e fp f a C) X8 tc)(he:∀e fp f a C,PE (du X (xs++ns) scope e fp f a C) elt te)
  (i:X.env.scope=sc)(o:X.N=N)(m:∀x,foldedSetIterable iter X.env x=pure x):PE X (.ListComp elt [⟨tg,iter,X8,0⟩] scope pos) (Hs wi xs.length is g tc te):=by
 intro q s σ H Q I h;rw[eval_ListComp];exact mH I h (λ_ _ z=>z) su p n L j l (λe fp f a C _ _=>he e fp f a C) i o m
def Cc(w:X.N.Nodup)(i:X.N[iy]? =some y)(j:Loc X.env.scope y)(l:X.fn y=true\/X.env.scope.names.lookup y=some .local)(m:swapsWith (.ListComp elt [⟨tg,iter,X8,0⟩] scope pos) (some<|.Name y py) spos.line X.env=pure true)
  (B:X.calm=true)(v:PI X tg iter wi)(L:vR sc N xs scope is ns)(o:∀e fp f a C,PG (du X (xs++ns) scope e fp f a C) tg g)(q:∀e fp f a C,L4 (du X (xs++ns) scope e fp f a C) X8 tc)(he:∀e fp f a C,PE (du X (xs++ns) scope e fp f a C) elt te)
  (n:X.env.scope=sc)(A:X.N=N)(r:∀x,foldedSetIterable iter X.env x=pure x):PS X (.Assign [.Name y py] (.ListComp elt [⟨tg,iter,X8,0⟩] scope pos) spos) (vN (Hs wi xs.length is g tc te)<|eU iy):=by
 intro E s σ H F I h;rw[exec_Assign_Name_used _ _ _ _ m];refine Qz<|wpAny_standAt<|Qz ?_;exact Qz<|cX (mH I h (λ_ _ z=>z) (Be w i j l) B v L o q (λe fp f a C _ _=>he e fp f a C) n A r) λ_ D p=>QA<|QA p
def Mb(h:jY J is te σ H1 Q):eJ J 1 is (eU 0) wI te σ H1 Q:=by
 intro D r;obtain⟨W,q,k⟩:=h D r;refine⟨W,q,λi m f l w=>?_⟩;obtain⟨e,z|⟨p,nx⟩⟩:=k i m f l w
 ·grind
 ·refine⟨e,.inr ⟨p,λn v j a y=>?_⟩⟩
  match n,a with
  |[o],_=>exact⟨⟨[some v],rfl,rfl⟩,fO (B:=∃g,g<m/\W (i+1) g f j)<|nx v j y⟩
def Dh(m:X.calm=true)(i:PI X (.Name x px) iter wi)(L:NW sc N x scope is ns)(he:∀a fp e g C,PE (du X (x::ns) scope a fp e g C) elt te)
  (f:X.env.scope=sc:=by rfl)(l:X.N=N:=by rfl)(j:∀x,foldedSetIterable iter X.env x=pure x:=by intro _;rfl):PE X (.ListComp elt [⟨.Name x px,iter,[],0⟩] scope pos) (PX wi is te):=by
 intro n s σ H Q I h;rw[eval_ListComp];exact mH (xs:=[x]) I h (λ_ _ z=>Mb z) su m i ⟨L.kind,L.nocell,L.names,L.free,L.cap,L.capf⟩ (λ_ _ _ _ _=>o9 L.nd rfl (.inl<|Sv L.hx)<|.inr<|Sv L.hx) (λ_ _ _ _ _=>zK) (λa fp e g C _ _=>he a fp e g C) f l j
section
variable {K:Frag}{is:Xm Nat}{g:TG}{tc:TT}{te:TE}{σ:St}{H:Hp}{Q:VK}
def gT(p:Nat->Bool)(f:Nat->V)(i:Nat):((List.range<|i+1).filter p).map f=((List.range i).filter p).map f++if p i=true then [f i] else []:=by
 rw[List.range_succ,Sz,Si];grind
def xP(p:Nat->Bool)(f:Nat->V)(hz:N<=sizeLine)(M:∀i a,cH H a->i<N->J.go i a)(R:∀a,cH H a->J.stop N a)
  (he:∀(i:Nat)(z:St) v a x (I:VK)(G:Hp->Prop),i<N->z.length=n->cH H a->J.yld i a v x->(p i=true->∀A,cH a A->I (f i) A)->(p i=false->∀l,cH a l->G l)->
   g v (z++ee is σ) x λj H4=>(∃r:St,r.length=n/\j=r++ee is σ)/\tc j H4 λb l=>if b=true then te j l I else G l)
  (q:∀D H',H D=none->cH H H'->H' D=some (.lst<|((List.range N).filter p).map f)->Q (.ref D) H'):eJ J n is g tc te σ H Q:=by
 intro D s;refine⟨λi m C a=>m=N-i/\i<=N/\cH H a/\a D=some (.lst C)/\C=((List.range i).filter p).map f,⟨_,rfl,RF _,cH.upd s,cE,rfl⟩,?_⟩;rintro i m C a ⟨rfl,P,w,B,rfl⟩;refine⟨B,?_⟩;by_cases h:i<N
 ·refine .inr ⟨M i a w h,λz v x E y=>?_⟩
  have O:(((List.range i).filter p).map f).length<=i:=by grind
  refine he i z v a x _ _ h E w y (λK A F=>⟨F _ _ B,by lia,N-(i+1),by lia,rfl,h,λb o e=>?_,cE,?_⟩) (λK l L=>⟨N-(i+1),by lia,rfl,h,w.trans L,L _ _ B,?_⟩)
  ·rw[cG<|cF e s]
   exact F _ _<|w _ _ e
  ·rw[gT,QI K]
  ·rw[gT,QG<|by grind,Rm]
 ·grind
def wZ(p:Nat->Bool)(f:Nat->V)(w:cN K H a xs)(hz:xs.length<=sizeLine)
  (he:∀(i:Nat)(s:St) v h (r:VK)(o:Hp->Prop),xs[i]? =some v->s.length=n->cH H h->(p i=true->∀z,cH h z->r (f i) z)->(p i=false->∀m,cH h m->o m)->
   g v (s++ee is σ) h λe H4=>(∃l:St,l.length=n/\e=l++ee is σ)/\tc e H4 λb m=>if b=true then te e m r else o m)
  (q:∀D H',H D=none->cH H H'->H' D=some (.lst<|((List.range xs.length).filter p).map f)->Q (.ref D) H'):eJ (FR K a) n is g tc te σ H Q:=
 xP p f hz (λi h j A=>⟨xs,xs[i],j.seq w,by simp[A]⟩) (λh j=>⟨xs,j.seq w,QJ _⟩) (λi s v h E r o A x j y B C=>by
  obtain⟨rfl,y⟩:=y;exact he i s v _ r o (y xs<|j.seq w) x j B C) q
def rE{lo:Int}(p:Nat->Bool)(f:Nat->V)(hz:N<=sizeLine)
  (he:∀(i:Nat)(o:St) e (m:VK)(l:Hp->Prop),i<N->o.length=n->cH H e->(p i=true->∀w,cH e w->m (f i) w)->(p i=false->∀j,cH e j->l j)->
   g (.int<|lo+i) (o++ee is σ) e λa H4=>(∃h:St,h.length=n/\a=h++ee is σ)/\tc a H4 λb j=>if b=true then te a j m else l j)
  (q:∀D H',H D=none->cH H H'->H' D=some (.lst<|((List.range N).filter p).map f)->Q (.ref D) H'):eJ (qH lo N) n is g tc te σ H Q:=
 xP p f hz (λi e _ r=>r) (λe _=>QJ N) (λi o v e B m l r s z y x A=>by
  obtain⟨rfl,rfl⟩:=y;exact he i o _ m l r s z x A) q
def CV(p:Nat->Bool)(f:Nat->V)(w:cN K H a xs)(hz:xs.length<=sizeLine)
  (he:∀(i:Nat)(s:St) v (t:Xg) e (r:VK)(o:Hp->Prop),xs[i]? =some v->s.length=n->cH H e->e t=none->(p i=true->∀A,cH e A->r (f i) A)->(p i=false->∀m,cH e m->o m)->
   g (.ref t) (s++ee is σ) (upd e t<|.tup [.int i,v]) λh H4=>(∃l:St,l.length=n/\h=l++ee is σ)/\tc h H4 λb m=>if b=true then te h m r else o m)
  (q:∀D H',H D=none->cH H H'->H' D=some (.lst<|((List.range xs.length).filter p).map f)->Q (.ref D) H'):eJ (L3 K a) n is g tc te σ H Q:=
 xP p f hz (λi e j B=>⟨xs,xs[i],j.seq w,by simp[B]⟩) (λe j=>⟨xs,j.seq w,rfl⟩) (λi s v e G r o B z j y C F=>by
  obtain⟨t,x,E,rfl,rfl,y⟩:=y;exact he i s x t _ r o (y xs<|j.seq w) z j E C F) q
end
theorem vC:∀bs:Xm Bool,((List.range bs.length).any λi=>bs.getD i false)=bs.any id
 |[]=>rfl
 |b::r=>by
  rw[Rz,UW,Tg,any_map,Tg,<-vC r];rfl
def mE(P:X.calm=true):eK X (.builtin "any") (λxs H Q=>∃(p:Xg) (bs:Xm Bool),xs=[.ref p]/\cN X.K H p (bs.map V.bl)/\Q (.bl<|bs.any id) H):=by
 intro j s σ H xs Y Q I r h;obtain⟨p,bs,rfl,J,q⟩:=h;obtain⟨u,rfl,N⟩:=vals1 r;cases N;obtain⟨a,m,g,U⟩:=I.list J;have x:=m.length;rw[QF]at x;have f:p<s.heap.objs.size:=by obtain⟨o,n,e,_⟩:=g;exact QY e
 refine call_any_walk<|Td g.isList ?_;refine⟨s.heap.objs.size,[s.heap.objs.size,p],[s.heap.objs.size],a.toArray.size,_,_,λi=>bs.getD i false,rfl,Vg (show X.A.in1.handled=none from I.ok.hd P) s.heap.objs.size p (QU f) a.toArray,
  ⟨⟨_,QN _ rfl,rfl,rfl⟩,?_⟩,λi v R W T B D=>?_,λF l G=>?_⟩
 ·obtain⟨o,e,r⟩:=g.isList
  exact⟨o,QE _ e,r⟩
 ·have y:i<bs.length:=by
   have:i<a.length:=by
    have:=(Tz.mp B).1
    simpa using this
   lia
  have C:(bs.map V.bl)[i]? =some (V.bl bs[i]):=by simp[y]
  obtain⟨u,M,O⟩:=m.get C;have w:a[i]? =some v:=by simpa using B
  rw[M]at w;cases w;obtain rfl:v=Value.bool bs[i]:=O;refine RG ?_;have e:bs.getD i false=bs[i]:=by simp[List.getD,y]
  rw[<-e];exact D
 ·refine⟨.bl<|bs.any id,H,?_,?_,q⟩
  ·have S:Inv X j σ H { s with heap:=s.heap.push { cls:=.type "list_iterator",data:=.fields #[.ref p,.int 0 0] } }:=I.kept (t':=s.toks) λb o e=>QE _ e
   have L:Inv X j σ H { s with heap:=F,toks:=l }:=I.kept (t':=l) λb o e=>G b o (by
    intro z;have E:b=s.heap.objs.size:=by simpa using z
    exact absurd (QY e)<|by rw[E];exact Uy _)<|QE _ e
   exact L
  ·show Value.bool _=Value.bool _
   congr 1
   rw[Rl,<-x];exact vC bs
end L2
namespace J
structure Oh(X:Cx)(X8:Xm Expr)(t:TT):Prop where
 out:L4 X X8 t
def _root_.cz(j:X.calm=true)(l:JI X (.Name x px) it wi)(L:NW sc N x scope is ns)(he:∀a fp e g C,JE (du X (x::ns) scope a fp e g C) elt te)(f:X.env.scope=sc)(i:X.N=N)(h:∀x,foldedSetIterable it X.env x=pure x:=by intro _;rfl):
  JE X (.ListComp elt [⟨.Name x px,it,[],0⟩] scope pos) (PX wi is te):=⟨Dh j l.out L (λa fp e g C=>(he a fp e g C).out) f i h⟩
def _root_.bU:Oh X [] wI:=⟨zK⟩
def _root_.bC(h:JT X ct tc):Oh X [ct] tc:=⟨Fq h.out⟩
def _root_.aM (h:scope.names.lookup y=some .local:=by rfl) (a:xs[i]? =some y:=by rfl) (db:(y==("__debug__" :Xn))=false:=by decide) (cd:(y==("__classdict__" :Xn))=false:=by decide):JE (du X xs scope cl fp s3 H3 C) (.Name y p) (je i):=
 ⟨mV a (.inl<|Sv h) db cd⟩
def _root_.aS (h:scope.names.lookup y=some .free:=by rfl) (a:xs[i]? =some y:=by rfl) (db:(y==("__debug__" :Xn))=false:=by decide) (cd:(y==("__classdict__" :Xn))=false:=by decide):JE (du X xs scope cl fp s3 H3 C) (.Name y p) (je i):=
 ⟨mV a (.inr<|jx h) db cd⟩
def _root_.a6(nd:xs.Nodup:=by decide+kernel)(h:scope.names.lookup y=some .local:=by rfl)(a:xs[i]? =some y:=by rfl):JG (du X xs scope cl fp s3 H3 C) (.Name y p) (eU i):=
 ⟨o9 nd a (.inl<|Sv h)<|.inr<|Sv h⟩
def _root_.bB(m:X.calm=true)(n:JI X tg it wi)(L:vR sc N xs scope is ns)(l:∀a fp e f C,JG (du X (xs++ns) scope a fp e f C) tg g)(i:∀a fp e f C,Oh (du X (xs++ns) scope a fp e f C) X8 tc)(he:∀a fp e f C,JE (du X (xs++ns) scope a fp e f C) elt te)
  (h:X.env.scope=sc)(o:X.N=N)(j:∀x,foldedSetIterable it X.env x=pure x:=by intro _;rfl):JE X (.ListComp elt [⟨tg,it,X8,0⟩] scope pos) (Hs wi xs.length is g tc te):=
 ⟨LO m n.out L (λa fp e f C=>(l a fp e f C).out) (λa fp e f C=>(i a fp e f C).out) (λa fp e f C=>(he a fp e f C).out) h o j⟩
def _root_.bY(S:L2.Slot X iy y)(i:X.N.Nodup)(o:X.calm=true)(p:JI X tg it wi)(L:vR sc N xs scope is ns)(m:∀a fp e f C,JG (du X (xs++ns) scope a fp e f C) tg g)(j:∀a fp e f C,Oh (du X (xs++ns) scope a fp e f C) X8 tc)(he:∀a fp e f C,JE (du X (xs++ns) scope a fp e f C) elt te)
  (h:X.env.scope=sc)(q:X.N=N)
  (hw:((if sc.kind.isAnnotationScope then ScopeKind.function else sc.kind)==.function&&sc.names.lookup y==some .local&&py.line==pos.line && !(scope.names.any λ(n,k)=>n==y&&(k==.local||k==.cell)))=true)
  (l:∀x,foldedSetIterable it X.env x=pure x:=by intro _;rfl):
  JS X (.Assign [.Name y py] (.ListComp elt [⟨tg,it,X8,0⟩] scope pos) spos) (vN (Hs wi xs.length is g tc te)<|eU iy):=
 ⟨Cc i S.hN S.lc S.fn (B3 h hw) o p.out L (λa fp e f C=>(m a fp e f C).out) (λa fp e f C=>(j a fp e f C).out) (λa fp e f C=>(he a fp e f C).out) h q l⟩
def mE(a:X.calm=true):JF X (.builtin "any") (λxs H Q=>∃(p:Xg) (bs:Xm Bool),xs=[.ref p]/\cN X.K H p (bs.map V.bl)/\Q (.bl<|bs.any id) H):=⟨L2.mE a⟩
end J
namespace L2
section
variable [DecidableEq κ]
def dS(Xu:Xm (κ×V))(k:κ):Xk V:=(Xu.find? λa=>decide<|a.1=k).map (·.2)
def putK(Xu:Xm (κ×V))(k:κ)(v:V):Xm (κ×V):=
 if(Xu.any λa=>decide<|a.1=k)=true then Xu.map (λa=>if a.1=k then(a.1,v) else a) else Xu++[(k,v)]
def eC{p:κ×V}{r:Xm (κ×V)}{k:κ}(e:p.1=k):dS (p::r) k=some p.2:=by simp[dS,find?_cons,e]
def eB{p:κ×V}{r:Xm (κ×V)}{k:κ}(e:¬p.1=k):dS (p::r) k=dS r k:=by simp[dS,find?_cons,e]
theorem gI(k:κ):∀Xu:Xm (κ×V),(Xu.any λa=>decide<|a.1=k)=(dS Xu k).isSome
 |[]=>rfl
 |p::r=>by
  rw[Tg];by_cases e:p.1=k
  ·simp only[eC e,dT0 e,Bool.true_or,Option.isSome_some]
  ·rw[eB e,QM e,Bool.false_or];exact gI k r
theorem wF(k j:κ)(y:V):∀Xu:Xm (κ×V),dS (Xu.map λa=>if a.1=k then(a.1,y) else a) j=(dS Xu j).map λx=>if j=k then y else x
 |[]=>rfl
 |p::r=>by
  have f:=wF k j y r;rw[RC];by_cases h:p.1=k
  ·rw[QI h]
   by_cases e:p.1=j
   ·rw[eC (p:=(p.1,y)) e,eC e,Xb,QI<|e.symm.trans h]
   ·rw[eB (p:=(p.1,y)) e,eB e,f]
  ·rw[QG h]
   by_cases e:p.1=j
   ·rw[eC e,eC e,Xb,QG λz=>h<|e.trans z]
   ·rw[eB e,eB e,f]
theorem r6(k j:κ)(y:V):∀Xu:Xm (κ×V),dS Xu k=none->dS (Xu++[(k,y)]) j=if j=k then some y else dS Xu j
 |[],_=>by
  by_cases e:k=j
  ·rw[QI e.symm];exact eC e
  ·rw[QG λz=>e z.symm];exact eB e
 |p::r,hn=>by
  rw[List.cons_append];have a:¬p.1=k:=λz=>by rw[eC z]at hn;cases hn
  rw[eB a]at hn;by_cases e:p.1=j
  ·rw[eC e,eC e,QG λz=>a<|e.trans z]
  ·rw[eB e,eB e,r6 k j y r hn]
def cP(Xu:Xm (κ×V))(k j:κ)(y:V):dS (putK Xu k y) j=if j=k then some y else dS Xu j:=by
 unfold putK;by_cases a:(Xu.any λf=>decide<|f.1=k)=true
 ·rw[QI a,wF]
  rw[gI]at a;by_cases e:j=k
  ·obtain⟨x,g⟩:=Wd.mp a
   rw[QI e,e,g,Xb,QI rfl]
  ·simp_all
 ·rw[QG a]
  refine r6 k j y Xu ?_;rw[gI]at a;cases q:dS Xu k with
  |none=>rfl
  |some x=>grind
def dj(Xu:Xm (κ×V))(k:κ)(v:V):(putK Xu k v).length<=Xu.length+1:=by
 unfold putK;split
 ·grind
 ·grind
def jr.ir{o:Xk V}{u:Xk Xf}(r:jr o u):o.isSome=u.isSome:=by
 cases o with
 |none=>cases u with
  |none=>rfl
  |some _=>exact(show False from r).elim
 |some _=>cases u with
  |none=>exact(show False from r).elim
  |some _=>rfl
def jr.getD{o:Xk V}{u:Xk Xf}{d:V}{d':Xf}(r:jr o u)(rd:RelV d d'):RelV (o.getD d) (u.getD d'):=by
 cases o with
 |none=>cases u with
  |none=>exact rd
  |some _=>exact(show False from r).elim
 |some _=>cases u with
  |none=>exact(show False from r).elim
  |some _=>exact r
def KV.val{Xu:Xm (κ×V)}{vs:Xm (κ×Xf)}(r:KV Xu vs)(k:κ):jr (dS Xu k) (valueAt vs k):=by
 unfold KV at r
 induction r with
 |nil=>exact True.intro
 | @cons p q ps qs h t ih=>
  obtain⟨f,g⟩:=h;by_cases e:p.1=k
  ·have a:=f.symm.trans e
   have b:valueAt (q::qs) k=some q.2:=by simp[valueAt,find?_cons,a]
   rw[eC e,b];exact g
  ·have a:¬q.1=k:=λz=>e (f.trans z)
   have b:valueAt (q::qs) k=valueAt qs k:=by simp[valueAt,find?_cons,a]
   rw[eB e,b];exact ih
def KV.any{Xu:Xm (κ×V)}{vs:Xm (κ×Xf)}(r:KV Xu vs)(k:κ):(Xu.any λa=>decide<|a.1=k)=vs.any λa=>decide (a.1=k):=by
 unfold KV at r
 induction r with
 |nil=>rfl
 |cons h t e=>rw[Tg,Tg,e,h.1]
def KV.Lj{Xu:Xm (κ×V)}{vs:Xm (κ×Xf)}(r:KV Xu vs)(k:κ){y:V}{u:Xf}(i:RelV y u):
  KV (Xu.map λa=>if a.1=k then(a.1,y) else a) (vs.map λa=>if a.1=k then(a.1,u) else a):=by
 unfold KV at r ⊢
 induction r with
 |nil=>exact .nil
 | @cons p q ps qs h t ih=>
  rw[RC,RC];refine .cons ?_ ih;obtain⟨f,g⟩:=h;by_cases e:p.1=k
  ·rw[QI e,QI<|f.symm.trans e];exact⟨f,i⟩
  ·rw[QG e,QG λz=>e<|f.trans z];exact⟨f,g⟩
def KV.put{Xu:Xm (κ×V)}{vs:Xm (κ×Xf)}(r:KV Xu vs)(k:κ){y:V}{u:Xf}(a:RelV y u):KV (putK Xu k y) (stored vs k u):=by
 unfold putK stored;rw[r.any k];by_cases e:(vs.any λf=>decide<|f.1=k)=true
 ·rw[QI e,QI e];exact r.Lj k a
 ·rw[QG e,QG e];exact Paired.snoc r ⟨rfl,a⟩
def KV.length{Xu:Xm (κ×V)}{vs:Xm (κ×Xf)}(r:KV Xu vs):Xu.length=vs.length:=RU r
end
def ou{P:Xi}{w:Xj}{k:Key}{u:Xf}(r:RelV (kV k) u):(cL P w).is k u=true:=by
 cases k with
 |inl i=>obtain⟨t,e⟩:=(show ∃t,u=Value.int i t from r);subst e;exact vz P w i t
 |inr x=>obtain⟨t,e⟩:=(show ∃t,u=Value.str x t from r);subst e;exact n5 P w x t
theorem rM{P:Xi}{w:Xj}:∀{a:Xm Key}{us:Xm Xf},Vals (a.map kV) us->ItemsAre (cL P w) a us
 |[],_,r=>by rw[map_nil]at r;cases r;exact .nil
 |k::a,_,r=>by
  rw[RC]at r;cases r with
  |cons h t=>exact .cons (ou h)<|rM t
abbrev KT(H:Hp):Xm (Xm Key×V)->Xm (Xm Key×Xg×Xf)->Prop:=Paired λp q=>p.1=q.1/\H q.2.1=some (.tup (p.1.map kV))/\RelV p.2 q.2.2
def KT.val{H:Hp}{Xu:Xm (Xm Key×V)}{xs:Xm (Xm Key×Xg×Xf)}(r:KT H Xu xs)(k:Xm Key):jr (dS Xu k) ((atKey xs k).map (·.2)):=by
 induction r with
 |nil=>exact True.intro
 | @cons p q ps qs h t ih=>
  obtain⟨f,_,g⟩:=h;by_cases e:p.1=k
  ·have a:=f.symm.trans e
   have b:atKey (q::qs) k=some q.2:=by simp[atKey,find?_cons,a]
   rw[eC e,b];exact g
  ·have a:¬q.1=k:=λz=>e (f.trans z)
   have b:atKey (q::qs) k=atKey qs k:=by simp[atKey,find?_cons,a]
   rw[eB e,b];exact ih
def KT.Lj{H:Hp}{Xu:Xm (Xm Key×V)}{xs:Xm (Xm Key×Xg×Xf)}(r:KT H Xu xs)(k:Xm Key){y:V}{u:Xf}(j:RelV y u):
  KT H (Xu.map λf=>if f.1=k then(f.1,y) else f) (xs.map<|putAt k u):=by
 induction r with
 |nil=>exact .nil
 | @cons p q ps qs h t ih=>
  rw[RC,RC];refine .cons ?_ ih;obtain⟨a,g,i⟩:=h;unfold putAt;by_cases e:p.1=k
  ·rw[QI e,QI<|a.symm.trans e];exact⟨a,g,j⟩
  ·rw[QG e,QG λz=>e<|a.trans z];exact⟨a,g,i⟩
def KT.put{H:Hp}{Xu:Xm (Xm Key×V)}{xs:Xm (Xm Key×Xg×Xf)}(r:KT H Xu xs)(k:Xm Key){b:Xg}{y:V}{u:Xf}(g:H b=some (.tup<|k.map kV))(a:RelV y u):
  KT H (putK Xu k y) (storedH xs k b u):=by
 have e:(Xu.any λf=>decide<|f.1=k)=(atKey xs k).isSome:=by
  rw[gI,(r.val k).ir,TZ]
 unfold putK storedH;rw[e];by_cases q:(atKey xs k).isSome=true
 ·rw[QI q,QI q];exact r.Lj k a
 ·rw[QG q,QG q];exact Paired.snoc r ⟨rfl,g,a⟩
def KT.keeps{H H':Hp}{Xu:Xm (Xm Key×V)}{xs:Xm (Xm Key×Xg×Xf)}(r:KT H Xu xs)(a:∀b ys,H b=some (.tup ys)->H' b=some (.tup ys)):KT H' Xu xs:=
 Paired.C9 r λ_ _ z=>⟨z.1,a _ _ z.2.1,z.2.2⟩
def Jc{u:HO}(ok:gM P w H h)(e:Rd H a u):cV P w H h a u:=e.ok ok
def ox{Xu:Xm (Key×V)}(ok:gM P w H h)(e:Rd H a (.dK Xu)):Xu.length<=sizeLine/\(a==sysModules)=false/\∃vs,KV Xu vs/\h.DictOf (cL P w) a vs:=
 show cV P w H h a (.dK Xu) from Jc ok e
def Er{Xu:Xm (Key×V)}(ok:gM P w H h)(e:H a=some (.dK Xu)):Xu.length<=sizeLine/\(a==sysModules)=false/\∃vs,KV Xu vs/\h.DictOf (cL P w) a vs:=ox ok<|.inl e
def jX{f:Xm Key}(ok:gM P w H h)(e:H a=some (.tup<|f.map kV)):(tupleKind<|cL P w).is h f a:=by
 obtain⟨_,l,r,o,i,g,n,j⟩:=(show cV P w H h a (.tup<|f.map kV) from ok a _ e);exact⟨o,l.toArray,n,i,g,j,by simpa using rM r⟩
def qE{Xu:Xm (Xm Key×V)}(ok:gM P w H h)(e:Rd H a (.dT Xu)):Xu.length<=sizeLine/\(a==sysModules)=false/\
  ∃xs,KT H Xu xs/\h.DictOfH (tupleKind<|cL P w) a xs:=by
 obtain⟨z,y,xs,r,o,s,A,j,g,v,i,n⟩:=(show cV P w H h a (.dT Xu) from Jc ok e);refine⟨z,y,xs,r,o,s,A,j,g,v,i,λx f=>?_,n⟩;have all:∀{l:Xm (Xm Key×V)}{m:Xm (Xm Key×Xg×Xf)},KT H l m->∀x∈m,(tupleKind<|cL P w).is h x.1 x.2.1:=by
  intro l m q
  induction q with
  |nil=>intro x f;exact nomatch f
  | @cons p q ps qs hq t ih=>
   intro x f;obtain e|f:=Rf.mp f
   ·subst e
    exact jX ok (by rw[<-hq.1];exact hq.2.1)
   ·exact ih x f
 exact all r x f
def Mq{Xu:Xm (Xm Key×V)}(ok:gM P w H h)(e:H a=some (.dT Xu)):Xu.length<=sizeLine/\(a==sysModules)=false/\
  ∃xs,KT H Xu xs/\h.DictOfH (tupleKind<|cL P w) a xs:=qE ok<|.inl e
def dJ(H:Hp)(a:Xg)(y:V)(r:Xk V):Prop:=
 (∃e k,Rd H a (.dK e)/\y=kV k/\r=dS e k)\/∃e k b,Rd H a (.dT e)/\y=.ref b/\H b=some (.tup<|k.map kV)/\r=dS e k
def j8(H:Hp)(a:Xg)(y v:V)(H':Hp):Prop:=
 (∃e k,H a=some (.dK e)/\y=kV k/\e.length<sizeLine/\H'=upd H a (.dK<|putK e k v))\/
 ∃e k b,H a=some (.dT e)/\y=.ref b/\H b=some (.tup<|k.map kV)/\e.length<sizeLine/\H'=upd H a (.dT<|putK e k v)
def dJ.k{H:Hp}{a:Xg}{Xu:Xm (Key×V)}{k:Key}(e:H a=some (.dK Xu)):dJ H a (kV k) (dS Xu k):=.inl ⟨Xu,k,.inl e,rfl,rfl⟩
def dJ.t{H:Hp}{a b:Xg}{Xu:Xm (Xm Key×V)}{k:Xm Key}(e:H a=some (.dT Xu))(f:H b=some (.tup<|k.map kV)):dJ H a (.ref b) (dS Xu k):=.inr ⟨Xu,k,b,.inl e,rfl,f,rfl⟩
def j8.k{H:Hp}{a:Xg}{Xu:Xm (Key×V)}{k:Key}{v:V}(e:H a=some (.dK Xu))(f:Xu.length<sizeLine):j8 H a (kV k) v (upd H a<|.dK<|putK Xu k v):=.inl ⟨Xu,k,e,rfl,f,rfl⟩
def j8.t{H:Hp}{a b:Xg}{Xu:Xm (Xm Key×V)}{k:Xm Key}{v:V}(e:H a=some (.dT Xu))(g:H b=some (.tup<|k.map kV))(f:Xu.length<sizeLine):
  j8 H a (.ref b) v (upd H a<|.dT<|putK Xu k v):=.inr ⟨Xu,k,b,e,rfl,g,f,rfl⟩
def Inv.big(I:Inv X Xs σ H s):sysModules<s.heap.objs.size:=U4 (by decide)<|(I.mod.glob.keeps I.bk).lt
def BE{Q:Xo}(F:A.units+1<cLine)(I:Inv X Xs σ H s)(g:dJ H a y (some v))(r:RelV y u)(h:∀j s',Inv X Xs σ H s'->RelV v j->Q j s'):
  wpAny (model X.prog X.w) A (getItem (.ref a) u) Q E s:=by
 obtain ⟨B,k,e,q,l⟩|⟨B,k,b,e,q,C,l⟩:=g
 ·subst q
  obtain⟨z,x,G,i,o⟩:=ox I.hok e;obtain⟨j,n,f⟩:=jr.some_of (by rw[l];exact i.val k);exact wpAny_getItem_of (ou r) o.mapOf n<|h j _ (I.tok _) f
 ·subst q
  cases (show u=Value.ref b from r);obtain⟨z,x,J,i,o⟩:=qE I.hok e;obtain⟨j,n,f⟩:=jr.some_of (by rw[l];exact i.val k);obtain⟨p,D,m⟩:=Rt.mp n;refine wpAny_getItem_heap (Ud F) (jX I.hok C) o D ?_;rw[m];exact h j _ (I.tok _) f
def Pt{Q:Xo}(r:A.units+1<cLine)(I:Inv X Xs σ H s)(g:dJ H a y o)(n:RelV y u)(h:∀s',Inv X Xs σ H s'->Q (.bool o.isSome) s'):
  wpAny (model X.prog X.w) A (compareOp .In u<|.ref a) Q E s:=by
 obtain ⟨p,k,e,j,l⟩|⟨p,k,b,e,j,v,l⟩:=g
 ·subst j
  obtain⟨z,i,x,f,m⟩:=ox I.hok e;refine wpAny_in_of (ou n) i m.mapOf ?_;rw[<-(f.val k).ir,<-l];exact h _<|I.tok _
 ·subst j
  cases (show u=Value.ref b from n);obtain⟨z,i,B,f,m⟩:=qE I.hok e;refine wpAny_in_heap (Ud r) (jX I.hok v) i m ?_;have q:=(f.val k).ir;rw[TZ]at q;rw[<-q,<-l];exact h _<|I.tok _
def Hl{Q:Xo}(r:A.units+1<cLine)(I:Inv X Xs σ H s)(g:dJ H a y o)(n:RelV y u)(h:∀s',Inv X Xs σ H s'->Q (.bool<|!o.isSome) s'):
  wpAny (model X.prog X.w) A (compareOp .NotIn u<|.ref a) Q E s:=by
 obtain ⟨p,k,e,j,l⟩|⟨p,k,b,e,j,v,l⟩:=g
 ·subst j
  obtain⟨z,i,x,f,m⟩:=ox I.hok e;refine wpAny_notIn_of (ou n) i m.mapOf ?_;rw[<-(f.val k).ir,<-l];exact h _<|I.tok _
 ·subst j
  cases (show u=Value.ref b from n);obtain⟨z,i,B,f,m⟩:=qE I.hok e;refine wpAny_notIn_heap (Ud r) (jX I.hok v) i m ?_;have q:=(f.val k).ir;rw[TZ]at q;rw[<-q,<-l];exact h _<|I.tok _
def kg{h':Heap}{t':Nat}{ob:HO}(I:Inv X Xs σ H s)(g:M9 (H a))(f:Heap.SameBut a s.heap h')(he:∃q,h'.get? a=some q)(new:cV X.prog X.w (upd H a ob) h' a ob):
  Inv X Xs σ (upd H a ob) { s with heap:=h',toks:=t' }:=
 I.write g (.inl rfl) (λb q e z=>(f.2 b e).trans z) he new
def xG{P:Xi}{w:Xj}{H':Hp}{h':Heap}{Xu:Xm (Key×V)}{vs:Xm (Key×Xf)}(z:Xu.length<=sizeLine)(hd:(a==sysModules)=false)(rel:KV Xu vs)(e:h'.DictOf (cL P w) a vs):
  cV P w H' h' a (.dK Xu):=⟨z,hd,vs,rel,e⟩
def Bn{H':Hp}{Q:Xp}(T:A.units+1<cLine)(I:Inv X Xs σ H s)(g:j8 H a y v H')(K:RelV y u)(J:RelV v r)(h:∀s',Inv X Xs σ H' s'->Q () s'):
  wpAny (model X.prog X.w) A (setItem (.ref a) u r) Q E s:=by
 obtain ⟨j,k,e,C,l,o⟩|⟨j,k,b,e,C,G,l,o⟩:=g
 ·subst C o
  obtain⟨z,n,M,f,B⟩:=Er I.hok e;have P:M.length<=sizeLine:=by rw[<-f.length];exact z
  have p:(putK j k v).length<=sizeLine:=by have:=dj j k v;lia
  refine wpAny_setItem_pairs (ou K) B λF i x=>h _ ?_;have Y:∃q,F.get? a=some q:=let ⟨q,_,_,m,_⟩:=i;⟨q,m⟩;exact kg I (by rw[e];exact True.intro) x Y<|xG p n (f.put k J) i
 ·subst C o
  cases (show u=Value.ref b from K);obtain⟨z,n,R,f,B⟩:=Mq I.hok e;have P:R.length<=sizeLine:=by rw[<-RU f];exact z
  have p:(putK j k v).length<=sizeLine:=by have:=dj j k v;lia
  refine wpAny_setItem_heap (Ud T) (jX I.hok G) B λF i x=>h _ ?_;obtain⟨q,S,W,m,L,U,N,_,O⟩:=i;refine kg I (by rw[e];exact True.intro) x ⟨q,m⟩ ⟨p,n,_,(f.put k G J).keeps λc Z D=>?_,q,S,W,m,L,U,N,O⟩;rw[cG<|pG D e λz=>nomatch z];exact D
def KL(i:Expr):Prop:=∀e a,subscripted i false e a=operate [e,a] (getItem e a)
def AD{prog:Xi}{w:Xj}{A:Xl}{E:Xo}{s:Xh}{env:Env}{value slice:Expr}{pos:Pos}{T id:String}{Q:Xo}
  (p:typeLookup (.type T) "__getitem__" =pure (some<|.builtin id)) (q:KL slice)
  (h:wpAny (model prog w) A (eval value env) (λo g=>wpAny (model prog w) A (eval slice env) (λi a=>a.TypeIs o T/\wpAny (model prog w) A (getItem o i) Q E a) E g) E s):
  wpAny (model prog w) A (eval (.Subscript value slice pos) env) Q E s:=by
 refine Subscript_<|RQ h (λo g l=>RQ l (λi a e=>?_) λ_ _ x=>x) λ_ _ x=>x;obtain⟨n,e⟩:=e;unfold subscriptTail;refine Qz ?_;rw[getitemInPython_of_ne n.not_modules];refine Qz<|SY n p ?_;have j:wpAny (model prog w) A (subscripted slice false o i) (λr f=>wpAny (model prog w) A (letTemporaryGo value o r >>= λ_=>pure r) Q E f) E a:=by
  rw[q o i];exact wpAny_operating<|RQ e (λr f m=>Qz<|wpAny_letTemporaryGo<|QA m) λ_ _ x=>x
 first
  |exact QA<|Qz j
  |exact Qz<|QA<|Qz j
  |exact Qz j
def wx{X:Cx}{i:Xq}{σ:St}{H:Hp}{s:Xh}{a:Xg}{y:V}{o:Xk V}(I:Inv X i σ H s)(g:dJ H a y o):s.TypeIs (.ref a) "dict" :=by
 obtain ⟨h,k,e,_,_⟩|⟨h,k,b,e,_,_,_⟩:=g
 ·obtain⟨_,_,j,_,f⟩:=ox I.hok e
  exact f.typeIs
 ·obtain⟨_,_,l,_,f⟩:=qE I.hok e
  exact f.typeIs
def Iy(f ty:TE):TE:=λσ H Q=>f σ H λx H1=>ty σ H1 λy e=>∃a v,x=.ref a/\dJ e a y (some v)/\Q v e
def Hw(ty f:TE):TE:=λσ H Q=>ty σ H λy H1=>f σ H1 λx e=>∃a o,x=.ref a/\dJ e a y o/\Q (.bl o.isSome) e
def zB(ty f:TE):TE:=λσ H Q=>ty σ H λy H1=>f σ H1 λx e=>∃a o,x=.ref a/\dJ e a y o/\Q (.bl<|!o.isSome) e
def Iw(h ty f:TE):TS:=λD σ H=>f σ H λv H1=>h σ H1 λx g=>ty σ g λy i=>∃a e,x=.ref a/\j8 i a y v e/\D.nx σ e
def Fj(r:X.A.units+1<cLine)(q:PE X o td)(D:PE X i ty)(B:KL i):PE X (.Subscript o i pos) (Iy td ty):=by
 intro j s σ H Q I h;refine AD V9.lookup B<|cX (q j s σ H _ I h) λu w ⟨x,H1,n,z,q1⟩=>cX (D j w σ H1 _ n q1) λL J e=>?_;obtain⟨y,E,l,C,a,v,m,g,F⟩:=e;subst m;obtain rfl:u=Value.ref a:=z;exact⟨wx l g,BE r l g C λG K p f=>⟨v,E,p,f,F⟩⟩
def DX(q:X.A.units+1<cLine)(B:PE X i ty)(p:PE X o td):PC X .In i o (Hw ty td):=by
 intro f s σ H Q I h;refine cX (B f s σ H _ I h) λG r ⟨y,H1,l,z,q1⟩=>cX (p f r σ H1 _ l q1) λu E e=>?_;obtain⟨x,C,n,w,a,v,j,g,D⟩:=e;subst j;obtain rfl:u=Value.ref a:=w;exact Pt q n g z λF m=>⟨.bl v.isSome,C,m,rfl,D⟩
def B4(q:X.A.units+1<cLine)(B:PE X i ty)(p:PE X o td):PC X .NotIn i o (zB ty td):=by
 intro f s σ H Q I h;refine cX (B f s σ H _ I h) λG r ⟨y,H1,l,z,q1⟩=>cX (p f r σ H1 _ l q1) λu E e=>?_;obtain⟨x,C,n,w,a,v,j,g,D⟩:=e;subst j;obtain rfl:u=Value.ref a:=w;exact Hl q n g z λF m=>⟨.bl<|!v.isSome,C,m,rfl,D⟩
def FQ(E:X.A.units+1<cLine)(C:PE X o td)(L:PE X i ty)(N:PE X value tv)(J:swapsWith value (some<|.Subscript o i XI) pos.line X.env=pure false):
  PS X (.Assign [.Subscript o i XI] value pos) (Iw td ty tv):=by
 intro f s σ H D I h;refine wpAny_Assign_Subscript (cX (N f s σ H _ I h) λr F ⟨v,H1,m,B,q1⟩=>cX (C f F σ H1 _ m q1) λu q ⟨x,M,z,G,O⟩=>cX (L f q σ M _ z O) λS R e=>?_) J;obtain⟨y,Q,n,K,a,p,j,g,w⟩:=e;subst j;obtain rfl:u=Value.ref a:=G;exact Bn E n g K B λP l=>⟨σ,p,l,w⟩
def vZ{P:Xi}{w:Xj}{H:Hp}(h:Heap)(a:sysModules<h.objs.size):cV P w H (h.push { cls:=.type "dict",data:=.dict #[] }) h.objs.size (.dK []):=
 ⟨RF _,R3.mpr<|Tf<|QU a,[],.nil,Vm h⟩
def D9{P:Xi}{w:Xj}{H:Hp}(h:Heap)(a:sysModules<h.objs.size):cV P w H (h.push { cls:=.type "dict",data:=.dict #[] }) h.objs.size (.dT []):=
 ⟨RF _,R3.mpr<|Tf<|QU a,[],.nil,_,#[],0,QN _ rfl,⟨rfl,rfl,rfl⟩,rfl,rfl,Uz⟩
def DK:TE:=λ_ H Q=>∀p,H p=none->Q (.ref p) (upd H p<|.dT [])
def EV:PE X (.Dict [] [] pos) DK:=λa s σ H Q I h=>
 We ⟨.ref s.heap.objs.size,_,I.laid (t':=s.toks) (λ_ _ q=>QE _ q) (QJ _)<|D9 s.heap I.big,rfl,h _<|I.hok.fresh<|QJ _⟩
def uw:Xm (TE×TE)->St->Hp->(Xm (V×V)->Hp->Prop)->Prop
 |[],_,H,Q=>Q [] H
 | (tk,tv)::r,σ,H,Q=>tk σ H λx H1=>tv σ H1 λy a=>uw r σ a λe f=>Q ((x,y)::e) f
abbrev VV:Xm (V×V)->Xm (Xf×Xf)->Prop:=Paired λp q=>RelV p.1 q.1/\RelV p.2 q.2
def Ou(X:Cx)(pos:Pos)(keys:Xm (Xk Expr))(values:Xm Expr)(i:Xm (TE×TE)):Prop:=
 ∀(e:Xq) (s:Xh) (σ:St) (H:Hp) (Q:Xm (V×V)->Hp->Prop),Inv X e σ H s->uw i σ H Q->
  wpAny (model X.prog X.w) X.A (evalPairs<|pairTrees keys values X.env pos) (λh g=>∃a f,Inv X e σ f g/\VV a h/\Q a f) X.xe s
def AA{X:Cx}{pos:Pos}:Ou X pos [] [] []:=λa s σ H Q I h=>pairTrees_nil_walk ⟨[],H,I,.nil,h⟩
def jS{X:Cx}{pos:Pos}{k v:Expr}{f:Xm (Xk Expr)}{vs:Xm Expr}{i g:TE}{j:Xm (TE×TE)}(n:PE X k i)(D:PE X v g)(hr:Ou X pos f vs j):
  Ou X pos (some k::f) (v::vs) ((i,g)::j):=λa s σ H Q I h=>
 pairTrees_cons_walk (cX (n a s σ H _ I h) λu z ⟨x,H1,l,A,q1⟩=>cX (D a z σ H1 _ l q1) λJ q ⟨y,C,w,B,E⟩=>
  cX (hr a q σ C _ w E) λF G ⟨o,m,p,e,r⟩=>⟨(x,y)::o,m,p,.cons ⟨A,B⟩ e,r⟩)
def fI(Xu more:Xm (Key×V)):Xm (Key×V):=more.foldl (λe a=>putK e a.1 a.2) Xu
def KV.merge:∀{more:Xm (Key×V)}{a:Xm (Key×Xf)}{Xu:Xm (Key×V)}{vs:Xm (Key×Xf)},KV more a->KV Xu vs->KV (fI Xu more) (merged vs a):=by
 intro more a Xu vs r;unfold KV at r
 induction r generalizing Xu vs with
 |nil=>intro q;exact q
 | @cons p q ps qs h t ih=>
  intro f;have e:KV (putK Xu p.1 p.2) (stored vs q.1 q.2):=by
   have:=f.put p.1 h.2;rw[<-h.1];exact this
  exact ih e
theorem ie:∀(more Xu:Xm (Key×V)),(fI Xu more).length<=Xu.length+more.length
 |[],Xu=>by show Xu.length<=Xu.length+0;lia
 |p::r,Xu=>by
  have a:=ie r<|putK Xu p.1 p.2;have e:=dj Xu p.1 p.2;show(fI (putK Xu p.1 p.2) r).length<=_;rw[Rz];lia
theorem pO{P:Xi}{w:Xj}:∀{Xu:Xm (Key×V)}{ws:Xm (Xf×Xf)},VV (Xu.map λf=>(kV f.1,f.2)) ws->∃e,Carries (cL P w) ws e/\KV Xu e
 |[],_,r=>by rw[map_nil]at r;cases r;exact⟨[],True.intro,.nil⟩
 |p::Xu,_,r=>by
  rw[RC]at r;cases r with
  | @cons a b as bs h t=>
   obtain⟨e,c,q⟩:=pO t;obtain⟨i,g⟩:=b;exact⟨(p.1,g)::e,⟨ou h.1,rfl,c⟩,.cons ⟨rfl,h.2⟩ q⟩
def Jm(h:Xm (TE×TE)):TE:=λσ H Q=>∀p,H p=none->uw h σ (upd H p<|.dK []) λg e=>e p=some (.dK [])/\∃a:Xm (Key×V),g=a.map (λf=>(kV f.1,f.2))/\a.length<=15/\Q (.ref p) (upd e p<|.dK<|fI [] a)
def FK{X:Cx}{pos:Pos}{keys:Xm (Xk Expr)}{values:Xm Expr}{n:Xm (TE×TE)}(h:Ou X pos keys values n)(a:keys.all (·.isSome)=true)(D:keys.length=values.length)(h0:keys≠[])
  (i:keys.length<=15):PE X (.Dict keys values pos) (Jm n):=by
 intro p s σ H Q I q;have r:=I.laid (h':=s.heap.push { cls:=.type "dict",data:=.dict #[] }) (t':=s.toks) (λ_ _ q=>QE _ q) (QJ _)<|vZ s.heap I.big;refine wpAny_Dict_walk (knd:=cL X.prog X.w) a D h0 i<|cX (h p _ σ _ _ r<|q _<|I.hok.fresh<|QJ s.heap.objs.size) λP O f=>?_;obtain⟨N,R,m,j,e,l,G,M,L⟩:=f;subst G;obtain⟨C,c,A⟩:=pO (w:=X.w) j;obtain⟨z,o,J,x,F⟩:=Er m.hok e;cases x;refine⟨C,c,F,λh' g E=>⟨.ref s.heap.objs.size,_,?_,rfl,L⟩⟩;have B:(fI [] l).length<=sizeLine:=by
  have y:=ie l [];rw[List.length_nil]at y;rw[Q0];lia
 have K:∃q,h'.get? s.heap.objs.size=some q:=let ⟨q,_,_,v,_⟩:=g;⟨q,v⟩;exact kg m (by rw[e];exact True.intro) E K<|xG B o (A.merge .nil) g
structure M1(X:Cx)(o:Expr)(m:Xn)(Xy:Pos)(e:Expr)(Xx:Pos):Prop where
 base:attributeBase o m X.env (eval o X.env)=eval o X.env
 LW:((backTo Xx (starEach [e] X.env)).all (λx=> !x.1)&&(backToKw Xx (keywordEach [] X.env)).all (λx=>x.1.isSome)
  && decide (([e]:Xm Expr).length+([]:Xm Keyword).length+(if([]:Xm Keyword).isEmpty then 0 else 1)<30))=true
 line:(Xy.endLine==Xx.line)=true
 trees:backTo Xx (starEach [e] X.env)=[(false,eval e X.env)]
structure M2(X:Cx)(o:Expr)(m:Xn)(Xy:Pos)(e f:Expr)(Xx:Pos):Prop where
 base:attributeBase o m X.env (eval o X.env)=eval o X.env
 LW:((backTo Xx (starEach [e,f] X.env)).all (λx=> !x.1)&&(backToKw Xx (keywordEach [] X.env)).all (λx=>x.1.isSome)
  && decide (([e,f]:Xm Expr).length+([]:Xm Keyword).length+(if([]:Xm Keyword).isEmpty then 0 else 1)<30))=true
 line:(Xy.endLine==Xx.line)=true
 trees:backTo Xx (starEach [e,f] X.env)=[(false,eval e X.env),(false,eval f X.env)]
def PJ(H:Hp)(a:Xg):Prop:=(∃e,Rd H a<|.dK e)\/∃e,Rd H a<|.dT e
def KU{X:Cx}{j:Xq}{σ:St}{H:Hp}{s:Xh}{a:Xg}(I:Inv X j σ H s)(d:PJ H a):
  s.TypeIs (.ref a) "dict" /\(∀b,Value.ref a=.ref b->∃ob,s.heap.get? b=some ob/\ob.dict=none)/\(a==sysModules)=false:=by
 obtain ⟨l,e⟩|⟨l,e⟩:=d
 ·obtain⟨_,g,m,_,f⟩:=ox I.hok e
  refine⟨f.typeIs,λb q=>?_,g⟩;cases q;obtain⟨ob,_,_,i,h,_⟩:=f;exact⟨ob,i,h.2.1⟩
 ·obtain⟨_,g,n,_,f⟩:=qE I.hok e
  refine⟨f.typeIs,λb q=>?_,g⟩;cases q;obtain⟨ob,_,_,i,h,_⟩:=f;exact⟨ob,i,h.2.1⟩
def J0{Q:Xo}(B:A.units+1<cLine)(I:Inv X Xs σ H s)(g:dJ H a y o)(p:RelV y u)(rd:RelV d r)(h:∀n s',Inv X Xs σ H s'->RelV (o.getD d) n->Q n s'):
  wpAny (model X.prog X.w) A (call (.builtin "dict.get") [.ref a,u,r]) Q E s:=by
 obtain ⟨q,k,e,m,l⟩|⟨q,k,b,e,m,v,l⟩:=g
 ·subst m
  obtain⟨z,j,C,f,i⟩:=ox I.hok e;refine call_meetsIn U5 i.typeIs Vh (Va _ _ _) (meets_dict_get_default (cL X.prog X.w) a (ou p) j r) ⟨_,i.mapOf,h _ _ (I.tok _) ?_⟩;rw[l];exact(f.val k).getD rd
 ·subst m
  cases (show u=Value.ref b from p);obtain⟨z,j,x,f,i⟩:=qE I.hok e;refine call_meetsIn U5 i.typeIs Vh (Va _ _ _) (meetsH_dict_get_default (tupleKind<|cL X.prog X.w) a b j r) ⟨Ud B,k,x,jX I.hok v,i,h _ _ (I.tok _) ?_⟩;rw[l];exact(f.val k).getD rd
def EC(g ty h:TE):TE:=λσ H Q=>g σ H λx H1=>∃a,x=.ref a/\PJ H1 a/\ty σ H1 λy f=>h σ f λz e=>∃o,dJ e a y o/\Q (o.getD z) e
def Dp (G:X.A.units+1<cLine) (E:PE X o td) (he:PE X e ty) (hf:PE X f tx) (m:M2 X o "get" Xy e f Xx):PE X (.Call (.Attribute o "get" Xy) [e,f] [] Xx) (EC td ty tx):=by
 intro j s σ H Q I h;refine V4 m.base m.LW m.line Vy U5 WR<|cX (E j s σ H _ I h) λu J i=>?_;obtain⟨x,H1,n,K,a,p,d,q1⟩:=i;subst p;obtain rfl:u=Value.ref a:=K;obtain⟨F,q,_⟩:=KU n d;refine⟨F,q,?_⟩;rw[m.trees];refine Tv rfl (UD (Sx (cX (he j J σ H1 _ n q1) λU B ⟨y,N,D,L,O⟩=>
  Sx (cX (hf j B σ N _ D O) λW T ⟨z,v,w,M,S,g,C⟩=>Um ?_))))
 exact J0 G w g L M λR P r l=>⟨_,v,r,l,C⟩
def EZ{Q:Xo}(I:Inv X Xs σ H s)(e:Rd H a (.dK Xu))(h:∀p s',H p=none->Inv X Xs σ (upd H p<|.dK Xu) s'->Q (.ref p) s'):wpAny (model X.prog X.w) A (call (.type "dict") [.ref a]) Q E s:=by
 obtain⟨z,j,r,f,m⟩:=ox I.hok e;refine kt_call_dict j m (by rw[<-f.length];exact z) λn g l=>?_;refine h _ _ (I.hok.fresh<|QJ _)<|I.laid (a:=s.heap.objs.size) (o:=.dK Xu) (t':=s.toks) (λb q i=>?_) (QJ _)<|xG z (R3.mpr<|Tf<|QU I.big) f g;exact(l.2 b<|QU<|QY i).trans (QE _ i)
def Km:bootBuiltins "any" =some (.builtin "any"):=by decide+kernel
section
variable {X:Cx}{y m:Xn}{N':Xm Xn}{scope:Scope}{cl:Xm (Xn×Xg)}{fp:Xm Xg}{s3:Xh}{H3:Hp}{C D:Xg}{sp:Sp}
def Bh.lg(B:Bh X y sp)(h:scope.names.lookup y=some .globalImplicit):Ke (du X N' scope cl fp s3 H3 C) y sp:=⟨B.ex,jf (by decide) h,B.db⟩
end
def Fh(zs xs:Xm V):Bool:=(List.range<|min zs.length xs.length).all (λi=>vP (zs.getD i .non)<|xs.getD i .non)&&zs.length==xs.length
def Ov(H:Hp)(xs:Xm V)(v:V):Bool:=match v with
 |.ref c=>match H c with
  |some (.tup zs)=>Fh zs xs
  |_=>false
 |_=>false
def CW{x:V}(f:dO x=true):vP x x=true:=by
 cases x with
 |non=>rfl
 |bl b=>exact RS b
 |int i=>exact RS i
 |str z=>exact RS z
 |_=>exact absurd (show false=true from f) bF0
def AR{xs:Xm V}(f:xs.all dO=true)(i:Nat):dO (xs.getD i .non)=true:=by
 rw[R9];cases h:xs[i]? with
 |none=>rfl
 |some v=>exact Se.mp f v<|QH h
def Dx{xs:Xm V}(f:xs.all dO=true):Fh xs xs=true:=by
 unfold Fh;rw[RS,Ul,Se];exact λi _=>CW<|AR f i
inductive NA(K:Frag)(x y:V)(H:Hp)(Q:VK):Prop
 |mk(a b:Xg)(xs ys:Xm V)(h:x=.ref a)(e:y=.ref b)(s:H a=some (.tup xs))(t:cN K H b ys)(f:xs.all dO=true)(g:∀v∈ys,∃c zs,v=.ref c/\H c=some (.tup zs)/\zs.all dO=true)(q:Q (.bl (ys.any (Ov H xs))) H)
def NG(H:Hp)(xs:Xm V)(u:Xf):Bool:=match u with
 |.ref c=>Ov H xs<|.ref c
 |_=>false
theorem Aq{H:Hp}{xs:Xm V}:∀{ys:Xm V}{us:Xm Xf},Vals ys us->(∀v∈ys,∃c zs,v=.ref c/\H c=some (.tup zs)/\zs.all dO=true)->us.any (NG H xs)=ys.any (Ov H xs)
 |_,_,.nil,_=>rfl
 |y::_,u::_,.cons r t,g=>by
  obtain⟨c,zs,rfl,_⟩:=g y<|Ru ..;cases r;rw[Tg,Tg,Aq t λv a=>g v<|Ry _ a];rfl
theorem wM:∀{ys:Xm V}{us:Xm Xf}{u:Xf},Vals ys us->u∈us->∃y∈ys,RelV y u
 |_,_,_,.nil,h=>by cases h
 |y::_,_::_,u,.cons r t,h=>by
  obtain rfl|h:=Rf.mp h
  ·exact⟨y,Ru ..,r⟩
  ·obtain⟨z,a,q⟩:=wM t h
   exact⟨z,Ry _ a,q⟩
def Bf{X:Cx}{x:Xq}{σ:St}{H:Hp}{s:Xh}{A:Xl}{c a:Xg}{zs xs:Xm V}(I:Inv X x σ H s)(C:A.units<cLine)(w:H c=some (.tup zs))(h:H a=some (.tup xs))(z:zs.all dO=true)(o:xs.all dO=true):SeqAt.EqAt A s (.ref c) (.ref a) (Fh zs xs):=by
 by_cases e:c=a
 ·subst e
  rw[w]at h;cases h;rw[Dx o];exact Wy _
 ·obtain⟨D,r,B,_⟩:=I.tuple (fh.of (K:=X.K) w)
  obtain⟨v,p,f,_⟩:=I.tuple<|fh.of (K:=X.K) h;have:=SeqAt.RcAt.tuples (A:=A) (e:=λi=>vP (zs.getD i .non)<|xs.getD i .non) B f C (λj m l=>by
   simp only[size_toArray]at m l;obtain⟨F,q,y⟩:=fP r m;obtain⟨E,n,g⟩:=fP p l;simp only[List.getElem_toArray];rw[R9,R9,q,n];exact uk y g (Se.mp z _<|QH q)<|Se.mp o _<|QH n)
  refine SeqAt.EqAt.of_refs e ?_;simp only[size_toArray]at this
  rwa [<-r.length,<-p.length]at this
def lu{X:Cx}(D:X.A.units+1<cLine):jk X (compareOp .In) (λx y H Q=>NA X.K x y H Q):=by
 intro L s σ H x y v u Q I E F h;obtain⟨a,b,f,M,rfl,rfl,J,m,C,g,q⟩:=h;cases E;cases F;obtain⟨j,r,B,_⟩:=I.list m;refine SeqAt.in_listAt (NG H f) B.isList (λw p=>?_) ⟨.bl _,H,I,rfl,?_⟩
 ·obtain⟨z,o,G⟩:=wM r (by simpa using p)
  obtain⟨c,i,rfl,l,n⟩:=g z o;cases G;have e:NG H f (.ref c)=Fh i f:=by
   show(match H c with|some (.tup i)=>Fh i f|_=>false)=_;rw[l]
  rw[e];exact Bf I D l J n C
 ·rw[show j.toArray.any (NG H f)=j.any (NG H f) by simp,Aq r g]
  exact q
end L2
namespace J
section
variable {X:Cx}{N':Xm Xn}{scope:Scope}{cl:Xm (Xn×Xg)}{fp:Xm Xg}{s3:Xh}{H3:Hp}{C:Xg}{o i e value:Expr}{es:Xm Expr}{pos XI:Pos}{td ty tv:TE}
def _root_.cD:JX (du X N' scope cl fp s3 H3 C) (K8 X.K):=⟨zP⟩
def _root_.bp:JX (du X N' scope cl fp s3 H3 C) (Js X.K):=⟨Ej⟩
def qx:JC (du X N' scope cl fp s3 H3 C) .In (Nm X.K false):=⟨L2.iC⟩
def uV{k n:Nat}{u:wO}(e:X.calm=true)(h:Mx (du X N' scope cl fp s3 H3 C) es u)(f:(assignEach es (du X N' scope cl fp s3 H3 C).env).length=n:=by rfl)(a:(assignEach es (du X N' scope cl fp s3 H3 C).env).findIdx? (·.1)=none:=by rfl):
  JG (du X N' scope cl fp s3 H3 C) (.Tuple es k pos) (Lm X.K n u):=⟨EB (X:=du X N' scope cl fp s3 H3 C) e h.out f a⟩
def lu(a:X.A.units+1<cLine):JC X .In (λx y H Q=>NA X.K x y H Q):=⟨L2.lu a⟩
def _root_.aK(f:X.A.units+1<cLine)(a:JE X o td)(j:JE X i ty)(h:dU i):JE X (.Subscript o i pos) (Iy td ty):=⟨Fj f a.out j.out λg e=>h.out g e⟩
def Dl(a:X.A.units+1<cLine)(e:JE X i ty)(f:JE X o td)(hm:behindInMarks .In o=false:=by rfl):JT X (.Compare i [.In] [o] pos) (tB<|Hw ty td):=⟨uU (DX a e.out f.out) hm⟩
def sQ(a:X.A.units+1<cLine)(e:JE X i ty)(f:JE X o td)(hm:behindInMarks .NotIn o=false:=by rfl):JT X (.Compare i [.NotIn] [o] pos) (tB<|zB ty td):=⟨uU (B4 a e.out f.out) hm⟩
def _root_.bN(e:X.A.units+1<cLine)(g:JE X o td)(f:JE X i ty)(a:JE X value tv)(h:hV value=false:=by rfl):JS X (.Assign [.Subscript o i XI] value pos) (Iw td ty tv):=⟨FQ e g.out f.out a.out<|jz h⟩
def Nd:JE X (.Dict [] [] pos) DK:=⟨EV⟩
end
end J
namespace L2
section
variable {X:Cx}
inductive Ir(x y:V)(H:Hp)(Q:VK):Prop
 |mk(a b:Xg)(xs ys:Xm V)(h:x=.ref a)(e:y=.ref b)(s:H a=some (.tup xs))(t:H b=some (.tup ys))(f:xs.all dO=true)(g:ys.all dO=true)(q:Q (.bl (Fh xs ys)) H)
def vc(P:X.A.units+1<cLine):jk X (compareOp .Eq) (λx y H Q=>Ir x y H Q):=by
 intro N s σ H x y v u Q I F G h;obtain⟨a,b,D,J,rfl,rfl,L,B,E,M,q⟩:=h;cases F;cases G;obtain⟨O,r,C,_⟩:=I.tuple<|fh.of (K:=X.K) L;obtain⟨w,o,f,_⟩:=I.tuple<|fh.of (K:=X.K) B;refine SeqAt.eq_tupleAt (e:=λi=>vP (D.getD i .non)<|J.getD i .non) C f (by lia) (λj m l=>?_) ?_
 ·simp only[size_toArray]at m l
  obtain⟨S,p,z⟩:=fP r m;obtain⟨R,n,g⟩:=fP o l;simp only[List.getElem_toArray];rw[R9,R9,p,n];exact uk z g (Se.mp E _<|QH p)<|Se.mp M _<|QH n
 ·simp only[size_toArray]
  rw[<-r.length,<-o.length];exact⟨.bl _,H,I,rfl,q⟩
end
end L2
namespace J
section
variable {X:Cx}{o e f c:Expr}{body:Xm Stmt}{Xy Xx pos:Pos}{td ty tx:TE}{tc:TT}{tb:TS}
def vc(a:X.A.units+1<cLine):JC X .Eq (λx y H Q=>Ir x y H Q):=⟨L2.vc a⟩
def BS{env:Env}(a:notStar e=true)(g:notStar f=true):backTo Xx (starEach [e,f] env)=[(false,eval e env),(false,eval f env)]:=by
 rw[cU a,cU g];rfl
def _root_.cy(a:PassesOwn (model X.prog X.w) X.A X.env X.xe)(e:JT X c tc)(f:x6 X body tb):JS X (.While c body [] pos) (Di tc tb):=⟨ER a e.out f.out⟩
end
end J
namespace L2
section
variable {X:Cx}
inductive FI(K:Frag)(x y:V)(H:Hp)(Q:VK):Prop
 |same (a b:Xg)(xs ys:Xm V)(bs:Xm Bool)(g:x=.ref a)(f:y=.ref b)(s:cN K H a xs)(t:cN K H b ys)(j:xs.length=bs.length)(h:ys.length=bs.length)(e:∀(i:Nat) u v c,xs[i]? =some u->ys[i]? =some v->bs[i]? =some c->zO u v=some c)(q:Q (.bl (!(O3 bs))) H)
 |other (a b:Xg)(xs ys:Xm V)(g:x=.ref a)(f:y=.ref b)(s:cN K H a xs)(t:cN K H b ys)(n:xs.length≠ys.length)(q:Q (.bl true) H)
def lM(hu:X.A.units+1<cLine):jk X (compareOp .NotEq) (λx y H Q=>FI X.K x y H Q):=by
 intro Z s σ H x y v u Q I D E h;obtain ⟨a,b,N,S,bs,rfl,rfl,z,l,l1,l2,T,q⟩|⟨a,b,N,S,rfl,rfl,z,l,n,q⟩:=h
 ·cases D
  cases E;obtain⟨o,r,p,_⟩:=I.list z;obtain⟨f,g,e,_⟩:=I.list l;have O:=r.length;have G:=g.length;have key:SeqAt.RcNeAt X.A s (.ref a) (.ref b) (!((List.range o.toArray.size).all λi=>bs.getD i false)):=by
   refine SeqAt.RcNeAt.lists p.isList e.isList (by grind) (by lia) λj C B=>?_;simp only[size_toArray]at C B;obtain⟨Y,R,J⟩:=fP r C;obtain⟨P,L,m⟩:=fP g B;have U:j<bs.length:=by lia
   have F:=QB U;have W:bs.getD j false=bs[j]:=by rw[R9,F];rfl
   rw[W];simp only[List.getElem_toArray];exact rT J m<|T j Y P _ R L F
  have M:o.toArray.size=bs.length:=by simp only[size_toArray];lia
  rw[M]at key;exact key X.prog X.w X.xe _ ⟨.bl _,H,I,rfl,q⟩
 ·cases D
  cases E;obtain⟨o,r,p,_⟩:=I.list z;obtain⟨f,g,e,_⟩:=I.list l;have O:=r.length;have G:=g.length;have key:SeqAt.RcNeAt X.A s (.ref a) (.ref b) true:=SeqAt.RcNeAt.lists_lengths p.isList e.isList (by grind) (by lia);exact key X.prog X.w X.xe _ ⟨.bl _,H,I,rfl,q⟩
def Ef:typeLookup (.type "list") "keys" =pure none:=by rw[UI,TF];kernel_rfl
def cY:plainId "dict.update.loop" =true:=by decide+kernel
def eV:entryFor table "dict.update.loop" =some Builtin.«dict.update.loop» :=entryFor_of_tree (by kernel_rfl)
end
section
variable {prog:Xi}{w:Xj}{A:Xl}{E:Xo}{s:Xh}
def kF {a:Xg}{o:Obj}{xs:Array Xf}{k:Nat}{Q:Xk Xf->Xh->Prop}(n:s.heap.get? a=some o) (p:o.cls=.type "list") (j:o.data=.seq xs k) (hd:o.dict=none) (x:A.handled=none)
  (h:∀h' l,(∀b u,s.heap.get? b=some u->h'.get? b=some u)->Q none { s with heap:=h',toks:=l }):wpAny (model prog w) A (getAttr? (.ref a) "keys") Q E s:=by
 obtain⟨c,q,r,sl⟩:=o;simp only at p j hd;subst p j hd;obtain⟨y,g,d,l,v⟩:=s;have m:∀i,(⟨y,g,d,i,v⟩:Xh).TypeIs (.ref a) "list" :=λ_=>⟨_,n,rfl⟩;have B:=sub_AttributeError;have I:=Uk.lookup;have G:=Uk.bind<|.ref a;have D:=am_list_getattr_none;unfold getAttr? getAttrBy? getAttrBy
 repeat (any_goals (first|assumption|exact m _| ((with_reducible show wpAny _ _ (call (Value.builtin "list.__getattribute__") _ _) _ _ _);refine W2 Uk (m _) am_entry_list_getattribute (PySem.F.args_list_getattribute_2 _ _) (meets_getattribute_miss_list a xs k sl "keys" _ Ef (by decide+kernel) (by decide+kernel)) ⟨n,x,λh' i e f=>?_⟩)|wp_step))
 obtain⟨z,C,H⟩:=f.there;unfold getattributeRaised
 repeat (any_goals (first|assumption|wp_step))
 exact h _ _ f.of.keeps
end
theorem jh{α β:Type}{R:α->β->Prop}:∀{xs:Xm α}{us:Xm β},xs.length=us.length->(∀(i:Nat) x v,xs[i]? =some x->us[i]? =some v->R x v)->Paired R xs us
 |[],[],_,_=>.nil
 |_::_,[],h,_=>by cases h
 |[],_::_,h,_=>by cases h
 |x::_,u::_,h,k=>.cons (k 0 x u rfl rfl)<|jh (Ss h) λi y v e a=>k (i+1) y v e a
def x9:typeLookup (.type "list_reverseiterator") "__len__" =pure none:=by rw[UI,TF];kernel_rfl
def Ed:typeLookup (.type "list_reverseiterator") "__length_hint__" =pure (some<|.builtin "list_reverseiterator.__length_hint__"):=by rw[UI,TF];kernel_rfl
section
variable {prog:Xi}{w:Xj}{A:Xl}{E:Xo}{s:Xh}
def Ds{r l:Xg}{i:Int}{Q:Bool->Xh->Prop}(f:s.heap.IsRevIter r l i)(h:Q false s):wpAny (model prog w) A (Builtin.List.listLengthHint<|.ref r) Q E s:=by
 unfold Builtin.List.listLengthHint;refine Qz<|SY f.typeIs x9 ?_;refine Qz<|SY f.typeIs Ed ?_;generalize e:("list_reverseiterator.__length_hint__" :String)=g
 wp_delta
 rw[show splitId g=some ("list_reverseiterator","__length_hint__") from by subst e;decide+kernel];subst e;refine Qz (Ti (T:= "list_reverseiterator") (b:=true) f.typeIs (by rw[VE];kernel_rfl) ?_);refine Sr (λa=>absurd a<|by decide) λ_=>?_;refine Sr (λ_=>?_) (λa=>absurd (by decide+kernel) a);refine Sr (λa=>absurd a<|by decide+kernel) λ_=>?_;exact QA h
def yU {R:Result->Xh->Prop}{r l:Xg}{items:Array Xf}(K:A.handled=none) (q:s.heap.IsRevIter r l ((items.size:Int)-1)) (J:s.heap.IsList l items) (I:l≠r) (P:items.size<=2^24) (S:Xg) (x:S≠r) (B:S≠l) (res:Xf) (c₀:Nat) (N:s.heap.get? S=some { cls:=.type "list",data:=.seq #[] c₀ })
  (O:∀h' F a h,(∀b o,b≠S->b≠r->s.heap.get? b=some o->h'.get? b=some o)->h'.get? S=some { cls:=.type "list",dict:=none,data:=.seq a h,slots:= #[] }->
   ItemsOf (λi v=>items[items.size-1-i]? =some v) a items.size->R (.ok<|.ret res) { s with heap:=h',toks:=F }):
  wpAny (model prog w) A.in1 (Builtin.List.listExtendWith (.ref S) (.ref r) res)
   (λp s'=>match p with|.done f=>R (.ok f) s'|.again h=>h.quiet=true/\codeAny (model prog w) A h R s') (λe s'=>R (.error e) s') s:=by
 have E:S ∉ [r,l]:=by grind
 have m:s.heap.IsRevIter r l ((items.size:Int)-1-((0:Nat):Int)):=by grind
 have key:codeAny (model prog w) A (.builtin "list.extend.loop" ⟨[.ref S,.ref r,res],[]⟩) R s:=by
  refine codeAny_extend_loopS ((Walks.listRev (prog:=prog) (w:=w) (A:=A.in1) K r l I items).toS) (by rw[Q0];lia) S E res items.size 0 _ #[] c₀ rfl (RF _) ⟨RF _,m,J⟩ N (ItemsOf.nil _) λs' a h z y j=>?_;rw[Moved.eq_with z];refine O s'.heap s'.toks a h (λb o D M e=>z.heap b o (λg=>?_) e) y j;obtain H|g:=Rf.mp g
  ·exact D H
  ·grind
 unfold Builtin.List.listExtendWith;refine Qz<|Uq (T:= "list_reverseiterator") q.typeIs ?_;have G:Builtin.List.listSameRef (.ref S) (.ref r)=false:=by simp[Builtin.List.listSameRef,x]
 have C:(Value.type "list_reverseiterator" == Value.type "list")=false:=by decide
 have L:(Value.type "list_reverseiterator" == Value.type "tuple")=false:=by decide
 simp only[G,C,L,Bool.or_false,false_eq_true,if_false];refine Qz<|wpAny_pyIter_revIter q ?_;refine Qz<|Rh<|Ds q ?_;refine Sr (λn=>absurd n<|by decide+kernel) λ_=>?_;exact QA ⟨SE Wf _,key⟩
def qJ{Q:Xo}{r l:Xg}{items:Array Xf}(N:A.handled=none)(D:s.heap.IsRevIter r l ((items.size:Int)-1))(M:s.heap.IsList l items)(L:l≠r)(H:items.size<=2^24)
  (J:∀h' x a q,(∀b o,b≠r->s.heap.get? b=some o->h'.get? b=some o)->
   h'.get? s.heap.objs.size=some { cls:=.type "list",dict:=none,data:=.seq a q,slots:= #[] }->ItemsOf (λi v=>items[items.size-1-i]? =some v) a items.size->Q (.ref s.heap.objs.size) { s with heap:=h',toks:=x }):
  wpAny (model prog w) A (call (.type "list") [.ref r]) Q E s:=by
 refine W5 (Q₁:=λm f=>m=.ref s.heap.objs.size/\f={ s with heap:=s.heap.push { cls:=.type "list",data:=.seq #[] } }) PySem.F.called_list (PySem.F.typeCall_list_1 _) PySem.F.entry_list_init
  (code_list_new _ ⟨rfl,rfl⟩) λm f j=>?_
 obtain⟨rfl,rfl⟩:=j;have p:(s.heap.push { cls:=.type "list",data:=.seq #[] }).get? s.heap.objs.size=some { cls:=.type "list",data:=.seq #[] }:=QN _ rfl;refine⟨⟨_,p,rfl⟩,PySem.F.args_list_init_2 _ _,Qz ?_⟩;unfold Builtin.List.listItems;refine Qz<|Ur p rfl<|QA ?_;refine Qz<|WC p rfl ?_;have h:=Sj (Obj.mapSeq λ_=>(#[]:Array Xf)) p rfl;have g:∀b o,s.heap.get? b=some o->((s.heap.push { cls:=.type "list",data:=.seq #[] }).update s.heap.objs.size<|Obj.mapSeq λ_=>(#[]:Array Xf)).get? b=some o:=
  λb o e=>(Uo _ _<|UB<|QY e).trans<|QE _ e
 refine Qz<|Wn ?_;obtain⟨P,G,B,O,z⟩:=id M;obtain⟨R,C,_⟩:=id D;exact yU (A:=A.in1) N (D.at λo e=>g _ _ e) ⟨P,g _ _ G,B,O,z⟩ L H _ (UB<|QY C) (UB<|QY G) .none _ h λh' x a q K y n=>⟨rfl,J h' x a q (λb o I e=>K b o (QU<|QY e) I<|g _ _ e) y n⟩
end
section
variable {X:Cx}
inductive MK(K:Frag)(vs:Xm V)(H:Hp)(Q:VK):Prop
 |mk(p:Xg)(xs:Xm V)(e:vs=[.ref p])(s:cN K H p xs)(q:∀l,H l=none->Q (.ref l) (upd H l (.lst xs.reverse)))
def IJ(K:Frag)(ta:TA):TE:=λσ H Q=>ta σ H λa H1=>MK K a H1 Q
def wz:bootBuiltins "reversed" =some (.type "reversed"):=by decide+kernel
def rp:bootBuiltins "sorted" =some (.builtin "sorted"):=by decide+kernel
def uu:bootBuiltins "dict" =some (.type "dict"):=by decide+kernel
def Kg:bootBuiltins "sum" =some (.builtin "sum"):=by decide+kernel
def xA {a:Expr}{ta:TA}{p p' pos XI:Pos}(hc:X.calm=true) (A:Gl X "list") (z:X.mg "list" =none) (R:Gl X "reversed") (hm:X.mg "reversed" =none) (ha:PA X [a] ta) (hs:starEach [a] X.env=[(false,eval a X.env)]:=by rfl):
  PE X (.Call (.Name "list" p') [.Call (.Name "reversed" p) [a] [] pos] [] XI) (IJ X.K ta):=by
 intro N s σ H Q I h;refine SU<|jd I A z boot_list ?_;refine Sd ?_ rfl rfl;refine Sx <| Call_ (jd I R hm wz<|Sd (cX (ha pos N s σ H _ I h) λus g r=>?_) hs rfl);obtain⟨vs,H1,l,O,q,D,e,W,q1⟩:=r;subst e;obtain⟨u,rfl,rx⟩:=vals1 O;cases rx;obtain⟨m,F,C,Z⟩:=l.list W;have hl:=F.length;have XH:=Q0;refine call_reversed_list C.isList<|Um ?_;have E:∀b o,g.heap.get? b=some o->(g.heap.push<|revObj q<|(m.toArray.size:Int)-1).get? b=some o:=λb o e=>QE _ e;obtain⟨ol,Yd,_⟩:=C.isList;have ac:=l.hok.fresh<|QJ _;refine qJ (s:={ g with heap:=g.heap.push<|revObj q<|(m.toArray.size:Int)-1,toks:=g.toks }) (items:=m.toArray) ((l.kept (t':=g.toks) E).ok.hd hc) ⟨_,QN _ rfl,rfl,rfl⟩ (C.isList.push _) (QU<|QY Yd) (by grind) λT U f P S hS n=>?_;have y:=λb o e=>S b o (QU<|QY e)<|E b o e;obtain⟨sz,B⟩:=n;have ab:f.size=m.length:=by simpa using sz
 have Y:Vals D.reverse f.toList:=by
  refine qf (by grind) λi x v J L=>?_;rw[QW]at L;have hi:i<D.length:=by grind
  have G:=B i v L;rw[Rl,U6]at G;rw[Ui hi]at J;obtain⟨u,M,ru⟩:=F.get J;rw[hl,G]at M;cases M;exact ru
 have j:g.heap.objs.size<=(g.heap.push<|revObj q<|(m.toArray.size:Int)-1).objs.size:=by simp_all
 exact⟨.ref _,_,l.laid (t':=U) y j<|show cV X.prog X.w _ T _ (.lst D.reverse) from ⟨by rw[Sa];exact Z,f.toList,P,Y,hS⟩,rfl,q1 _<|l.hok.fresh j⟩
end
end L2
namespace J
def lM{X:Cx}(a:X.A.units+1<cLine):JC X .NotEq (λx y H Q=>FI X.K x y H Q):=⟨L2.lM a⟩
def DV {X:Cx}{e:Expr}{t:TA}{p f pos g:Pos}(i:X.calm=true) (B1:Bt X "list") (B2:Bt X "reversed") (a:JA X [e] t) (h:notStar e=true:=by rfl):
  JE X (.Call (.Name "list" f) [.Call (.Name "reversed" p) [e] [] pos] [] g) (IJ X.K t):=⟨xA i B1.gl B1.nm B2.gl B2.nm a.out<|cU h⟩
end J
namespace L2
inductive MI(K:Frag)(x y:V)(H:Hp)(Q:VK):Prop
 |same (a b:Xg)(xs ys:Xm V)(bs:Xm Bool)(g:x=.ref a)(f:y=.ref b)(s:cN K H a xs)(t:cN K H b ys)(j:xs.length=bs.length)(h:ys.length=bs.length)(e:∀(i:Nat) u v c,xs[i]? =some u->ys[i]? =some v->bs[i]? =some c->zO u v=some c)(q:Q (.bl (O3 bs)) H)
 |other (a b:Xg)(xs ys:Xm V)(g:x=.ref a)(f:y=.ref b)(s:cN K H a xs)(t:cN K H b ys)(n:xs.length≠ys.length)(q:Q (.bl false) H)
def uJ(p:X.A.units+1<cLine):jk X (compareOp .Eq) (λx y H Q=>MI X.K x y H Q):=by
 intro o s σ H x y v u Q I r w h;obtain ⟨a,b,i,m,bs,l,g,j,f,z,B,e,q⟩|⟨a,b,i,m,l,g,j,f,n,q⟩:=h
 ·exact LJ p o s σ H x y v u Q I r w ⟨a,b,i,m,bs,l,g,j,f,z,B,e,q⟩
 ·exact Ca p o s σ H x y v u Q I r w ⟨a,b,i,m,l,g,j,f,n,q⟩
def u9{e d:Expr}{ty a:TE}{pos:Pos}(f:X.A.units+1<cLine)(g:PE X e ty)(h:PE X d a)(hm:behindInMarks .In d=false:=by rfl):PE X (.Compare e [.In] [d] pos) (Hw ty a):=J5 (DX f g h) hm
section
variable {n:Nat}{P:Nat->Xf->Prop}{St:Nat->Xh->Prop}
def dY(xs ps:Xm (Xm Key×Xg×Xf)):Xm (Xm Key×Xg×Xf):=ps.foldl (λa q=>storedH a q.1 q.2.1 q.2.2) xs
def t8(xs ps:Xm (Xm Key×Xg×Xf))(i:Nat)(q:Xm Key×Xg×Xf)(h:ps[i]? =some q):dY xs (ps.take<|i+1)=storedH (dY xs<|ps.take i) q.1 q.2.1 q.2.2:=by
 unfold dY;rw[RE,h,VF];rfl
def yJ(xs:Xm (Xm Key×Xg×Xf))(k:Xm Key)(a:Xg)(v:Xf):(storedH xs k a v).length<=xs.length+1:=by
 unfold storedH;split
 ·rw[QF]
  exact TX _
 ·rw[QC]
  exact QJ _
theorem qg:∀(ps xs:Xm (Xm Key×Xg×Xf)),(dY xs ps).length<=xs.length+ps.length
 |[],xs=>QJ _
 |p::r,xs=>by
  have a:=qg r<|storedH xs p.1 p.2.1 p.2.2;have e:=yJ xs p.1 p.2.1 p.2.2;show(dY (storedH xs p.1 p.2.1 p.2.2) r).length<=_;rw[Rz];lia
theorem Ny:∀(l xs:Xm (Xm Key×Xg×Xf)) (x:Xm Key×Xg×Xf),x∈dY xs l->(∃y∈xs,x.2.1=y.2.1)\/∃y∈l,x.2.1=y.2.1
 |[],xs,x,h=>.inl ⟨x,h,rfl⟩
 |p::r,xs,x,h=>by
  obtain ⟨y,a,e⟩|⟨y,a,e⟩:=Ny r (storedH xs p.1 p.2.1 p.2.2) x h
  ·unfold storedH at a
   split at a
   ·obtain⟨z,f,rfl⟩:=Rk.mp a
    refine .inl ⟨z,f,?_⟩;rw[e];unfold putAt;split<;>rfl
   ·grind
  ·grind
def lO{h h':Heap}{k:Xm Key}{a:Xg}(e:∀o,h.get? a=some o->h'.get? a=some o)(x:(tupleKind<|cL prog w).is h k a):(tupleKind<|cL prog w).is h' k a:=by
 obtain⟨o,i,m,g,f⟩:=x;exact⟨o,i,m,e _ g,f⟩
def E1{h:Heap}{k:Xm Key}{a:Xg}(x:(tupleKind<|cL prog w).is h k a):a<h.objs.size:=by
 obtain⟨o,g,m,e,f⟩:=x;exact QY e
def BQ(W:WalksS prog w A.in1 I fp wr G n P St)(hu:(tupleKind<|cL prog w).room A.in1)(D:Xg)(ab:D ∉ fp)(ps:Xm (Xm Key×Xg×Xf))(T:Nat->Xg)(hn:ps.length=n)(M:n<=sizeLine)
  (hP:∀i v,P i v->v=.ref (T i))(hT:∀i,i<n->T i≠D/\T i ∉ wr)(U:∀(i:Nat) q,ps[i]? =some q->q.2.1≠D/\q.2.1 ∉ wr):
  ∀(k i:Nat) (s:Xh),n-i=k->i<=n->St i s->s.heap.DictOfH (tupleKind<|cL prog w) D (dY []<|ps.take i)->(∀(i:Nat) q,ps[i]? =some q->IsTup s.heap (T i) #[.ref q.2.1,q.2.2]/\(tupleKind<|cL prog w).is s.heap q.1 q.2.1)->
   (∀s',Moved (D::wr) G s s'->s'.heap.DictOfH (tupleKind<|cL prog w) D (dY [] ps)->R (.ok<|.ret .none) s')->
   codeAny (model prog w) A (.builtin "dict.update.loop" ⟨[.ref D,.ref I,rawInt i,.none],[]⟩) R s:=by
 have ac:=λh=>ab<|W.sub _ h;have l:∀b∈wr,b∈D::wr:=λb M=>Ry _ M;have lt:∀{i:Nat}{q:Xm Key×Xg×Xf},ps[i]? =some q->i<n:=λf=>by rw[<-hn];exact(gI0.mp f).1
 have keep:∀{s s':Xh},Moved wr G s s'->(∀(i:Nat) q,ps[i]? =some q->IsTup s.heap (T i) #[.ref q.2.1,q.2.2]/\(tupleKind<|cL prog w).is s.heap q.1 q.2.1)->∀(i:Nat) q,ps[i]? =some q->IsTup s'.heap (T i) #[.ref q.2.1,q.2.2]/\(tupleKind<|cL prog w).is s'.heap q.1 q.2.1:=λa L j q f=>by
  obtain⟨⟨o,g,r⟩,x⟩:=L j q f;exact⟨⟨o,a.heap _ _ (hT j<|lt f).2 g,r⟩,lO (λo e=>a.heap _ _ (U j q f).2 e) x⟩
 have ad:∀(i:Nat) x,x∈dY [] (ps.take i)->x.2.1≠D/\x.2.1 ∉ wr:=λi x O=>by
  obtain ⟨y,Z,_⟩|⟨y,Z,e⟩:=Ny _ _ _ O
  ·cases Z
  ·obtain⟨j,f⟩:=QZ (SI Z)
   rw[e];exact U j y f
 have gh:∀{s s':Xh}{i:Nat},Moved wr G s s'->s.heap.DictOfH (tupleKind<|cL prog w) D (dY []<|ps.take i)->s'.heap.DictOfH (tupleKind<|cL prog w) D (dY []<|ps.take i):=λ{s s' i} a ⟨o,es,ep,g,h2,h3,h4,h5,h6⟩=>⟨o,es,ep,a.heap D _ ac g,h2,h3,h4,λx O=>lO (λo e=>a.heap _ _ (ad i x O).2 e)<|h5 x O,h6⟩;intro k
 induction k with
 |zero=>
  intro i s Yh hi Q S L hR;obtain rfl:i=n:=by lia
  refine RT eV ?_;rw[RL cY _];refine Qz<|W.done s _ _ Q λs' a=>?_;have K:=gh a S;rw[<-hn,RR]at K;exact Qz<|QA<|QA<|hR s' (a.mono l) K
 |succ k ih=>
  intro i s Yh hi Q S L hR;have p:i<n:=by lia
  obtain⟨q,hq⟩:∃q,ps[i]? =some q:=⟨_,QB<|by rw[hn];exact p⟩;refine RT eV ?_;rw[RL cY _];refine Qz<|W.item i s _ _ p Q λv s' hv H a=>?_;cases hP i v hv;have X:=gh a S;have F:=keep a L;obtain⟨⟨o,g,hc,m,hd⟩,B⟩:=F i q hq;refine Qz<|Rh ?_;refine Qz<|wpAny_tryCatch ?_;unfold Builtin.Dict.pairItems;refine Qz<|Uq ⟨_,g,hc⟩ ?_;rw[QI<|by decide];refine Qz<|Ur g hd<|QA ?_;have hl:(dY []<|ps.take i).length<=sizeLine:=by
   have:=qg (ps.take i) [];have e:(ps.take i).length<=i:=by rw[RK];lia
   have z:([]:Xm (Xm Key×Xg×Xf)).length=0:=rfl;lia
  refine Rh<|wpAny_dictSet_heap hu B X λh' J N=>?_;rw[<-t8 [] ps i q hq]at J;have al:((i:Int)+1)=((i+1:Nat):Int):=by push_cast;rfl
  refine QA ⟨SE cY _,?_⟩;rw[al];refine ih (i+1) _ (by lia) p (W.frame _ s' _ _ H (TY _ _) λb M o e=>?_) J (λj q f=>?_) λY E C=>?_
  ·rw[N.2 b<|by grind]
   exact e
  ·obtain⟨⟨o,g,r⟩,x⟩:=F j q f
   exact⟨⟨o,(N.2 _ (hT j<|lt f).1).trans g,r⟩,lO (λo e=>(N.2 _ (U j q f).1).trans e) x⟩
  ·refine hR Y (Wl W.gtrans ((a.mono l).then_heap (TY _ _) λb o M e=>?_) E) C
   rw[N.2 b<|by grind];exact e
end
def xR {l:Xg}{o:Obj}{items:Array Xf}{c:Nat}{Q:Xo}(ps:Xm (Xm Key×Xg×Xf)) (T:Nat->Xg) (hu:(tupleKind<|cL prog w).room A.in1.in1) (W:A.handled=none) (z:s.heap.get? l=some o) (P:o.cls=.type "list") (R:o.data=.seq items c) (hd:o.dict=none) (XH:ps.length=items.size) (hb:ps.length<=sizeLine)
  (hi:∀(i:Nat)(v:Xf),items[i]? =some v->v=.ref (T i))(J:∀(i:Nat) q,ps[i]? =some q->IsTup s.heap (T i) #[.ref q.2.1,q.2.2]/\(tupleKind<|cL prog w).is s.heap q.1 q.2.1)
  (h:∀h' S,h'.DictOfH (tupleKind<|cL prog w) s.heap.objs.size (dY [] ps)->(∀b o,s.heap.get? b=some o->h'.get? b=some o)->Q (.ref s.heap.objs.size) { s with heap:=h',toks:=S }):
  wpAny (model prog w) A (call (.type "dict") [.ref l]) Q E s:=by
 refine W5 (Q₁:=λD m=>D=.ref s.heap.objs.size/\m={ s with heap:=s.heap.push { cls:=.type "dict",data:=.dict #[] } }) WD (V5 _) Wo (kt_code_dict_new _ ⟨rfl,rfl⟩) ?_;rintro D m ⟨rfl,rfl⟩;have j:=Vm (knd:=cL prog w) s.heap;have y:=QE { cls:=.type "dict",data:=.dict #[] } z;refine⟨j.typeIs,Wg _ _,?_⟩;unfold Builtin.«dict.__init__»;refine Qz ?_;unfold Builtin.Dict.selfAndRest;refine Qz<|SX j.typeIs ?_;refine QA ?_;show wpAny _ _ (Builtin.Dict.updateFrom "dict.__init__" s.heap.objs.size (.ref l) [] .none) _ _ _;unfold Builtin.Dict.updateFrom;refine Qz<|Uq ⟨_,y,P⟩ ?_;rw[QI<|by decide];refine Qz<|kF y P R hd W λn S f=>?_;rw[QI<|show Option.isNone (none:Xk Xf)=true from rfl];refine Qz<|RW ?_;have B:n.IsList l items:=⟨o,f _ _ y,P,c,R⟩;have p:∀b u,s.heap.get? b=some u->n.get? b=some u:=λb u e=>f _ _<|QE _ e;have U:=QY<|f _ _<|QN _ rfl;refine Qz<|Td B ?_;refine QA ⟨SE cY _,?_⟩;have I:=QY z;have C:∀{a:Xg},a<s.heap.objs.size->a≠s.heap.objs.size/\a ∉ [n.objs.size]:=λlt=>by grind
 have hT:∀i,i<items.size->T i≠s.heap.objs.size/\T i ∉ [n.objs.size]:=λi Z=>by
  obtain⟨q,M⟩:∃q,ps[i]? =some q:=⟨_,QB<|by lia⟩;obtain⟨⟨G,F,_⟩,_⟩:=J i q M;exact C<|QY F
 have dn:n.DictOfH (tupleKind<|cL prog w) s.heap.objs.size []:=⟨_,#[],0,f _ _<|QN _ rfl,⟨rfl,rfl,rfl⟩,rfl,rfl,(λx z=>by cases z),Uz⟩;have L:∀o,(n.push o).DictOfH (tupleKind<|cL prog w) s.heap.objs.size []:=λo=>by
  obtain⟨G,es,ep,F,Y,h3,h4,h5,h6⟩:=dn;exact⟨G,es,ep,QE _ F,Y,h3,h4,(λx z=>by cases z),h6⟩
 refine BQ ((Vg (show A.in1.in1.handled=none by simp[W]) n.objs.size l (QU<|U4 I U) items).toS) hu s.heap.objs.size (by grind) ps T XH (by lia) hi hT (λi q M=>C<|E1 (J i q M).2) (items.size-0) 0 _ (by lia) (RF _) ⟨⟨_,QN _ rfl,rfl,rfl⟩,B.push _⟩ (L _) (λi q e=>?_) ?_
 ·obtain⟨⟨G,F,r⟩,x⟩:=J i q e
  exact⟨⟨G,QE _<|p _ _ F,r⟩,lO (λo e=>QE _<|p _ _ e) x⟩
 ·intro X H N
  obtain⟨g,g',d',O,K⟩:=X;have eg:g'=s.gens:=H.gens;have ed:d'=s.drawn:=H.drawn;have eo:K=s.os:=H.os;subst eg ed eo;refine⟨rfl,h g O N λb u e=>?_⟩;have lt:=QY e;refine H.heap b u ?_ (QE _<|p _ _ e);simp only[mem_cons,not_mem_nil,or_false,not_or];exact⟨QU lt,QU<|U4 lt U⟩
def i7(Xu more:Xm (Xm Key×V)):Xm (Xm Key×V):=more.foldl (λe a=>putK e a.1 a.2) Xu
theorem kE:∀(more Xu:Xm (Xm Key×V)),(i7 Xu more).length<=Xu.length+more.length
 |[],Xu=>QJ _
 |p::r,Xu=>by
  have a:=kE r<|putK Xu p.1 p.2;have e:=dj Xu p.1 p.2;show(i7 (putK Xu p.1 p.2) r).length<=_;rw[Rz];lia
def KT.merge{H:Hp}{more:Xm (Xm Key×V)}{rs:Xm (Xm Key×Xg×Xf)}(r:KT H more rs):∀{Xu:Xm (Xm Key×V)}{xs:Xm (Xm Key×Xg×Xf)},KT H Xu xs->KT H (i7 Xu more) (dY xs rs):=by
 induction r with
 |nil=>exact λq=>q
 | @cons p q ps qs h t ih=>
  intro Xu xs a;have e:KT H (putK Xu p.1 p.2) (storedH xs q.1 q.2.1 q.2.2):=by
   have:=KT.put a p.1 h.2.1 h.2.2;rw[<-h.1];exact this
  exact ih e
inductive ID(K:Frag)(vs:Xm V)(H:Hp)(Q:VK):Prop
 |mk(p:Xg)(xs:Xm V)(Xu:Xm (Xm Key×V))(e:vs=[.ref p])(s:cN K H p xs)(l:xs.length=Xu.length)(t:∀(i:Nat) x kv,xs[i]? =some x->Xu[i]? =some kv->∃a b,x=.ref a/\H a=some (.tup [.ref b,kv.2])/\H b=some (.tup (kv.1.map kV)))(q:∀d,H d=none->Q (.ref d) (upd H d (.dT (i7 [] Xu))))
def Kf{A:Xl}{k:Nat}(hr:dP k A):A.units+2<cLine:=by
 have:=hr.un;lia
def fG(hu:X.A.units+2<cLine)(hc:X.calm=true):eK X (.type "dict") (λvs H Q=>ID X.K vs H Q):=by
 intro Xs s σ H vs us Q I r h;obtain⟨p,xs,Xu,rfl,hq,ll,S,q⟩:=h;obtain⟨u,rfl,rx⟩:=vals1 r;cases rx;obtain⟨n,N,⟨o,c,Z,J,hd,XS⟩,hz⟩:=I.list hq;have hl:=N.length;have D:∀i:Nat,∃t:Xg×Xg×Xf,i<n.length->n[i]? =some (.ref t.1)/\∀g,Xu[i]? =some g->IsTup s.heap t.1 #[.ref t.2.1,t.2.2]/\H t.2.1=some (.tup<|g.1.map kV)/\RelV g.2 t.2.2:=λi=>by
  by_cases hi:i<n.length
  ·obtain⟨g,w⟩:∃g,Xu[i]? =some g:=⟨_,QB<|by lia⟩
   obtain⟨x,L⟩:∃x,xs[i]? =some x:=⟨_,QB<|by lia⟩;obtain⟨a,b,rfl,ha,T⟩:=S i x g L w;obtain⟨u,eu,ru⟩:=N.get L;cases ru;obtain⟨Y,rj,tp,_⟩:=I.tuple<|fh.of (K:=X.K) ha;cases rj with
   |cons r1 rest=>
    cases rest with
    |cons r2 m=>
     cases m;cases r1;exact⟨(a,b,_),λ_=>⟨eu,λab e=>by rw[w]at e;cases e;exact⟨tp,T,r2⟩⟩⟩
  ·exact⟨(0,0,.none),λh=>absurd h hi⟩
 obtain⟨f,C⟩:=UT D;have y:∀(i:Nat) q,(Xu.mapIdx λi g=>(g.1,(f i).2.1,(f i).2.2))[i]? =some q->∃g,Xu[i]? =some g/\q=(g.1,(f i).2.1,(f i).2.2):=λi q e=>by
  rw[W6]at e;obtain⟨g,j,rfl⟩:=Rt.mp e;exact⟨g,j,rfl⟩
 have l:∀{i:Nat}{g:Xm Key×V},Xu[i]? =some g->i<n.length:=λe=>by
  have:=(gI0.mp e).1;lia
 have G:(Xu.mapIdx λi g=>(g.1,(f i).2.1,(f i).2.2)).length=Xu.length:=List.length_mapIdx;refine xR (Xu.mapIdx λi g=>(g.1,(f i).2.1,(f i).2.2)) (λi=>(f i).1) hu (I.ok.hd hc) Z J XS hd (by rw[G,Rl];lia) (by rw[G];lia) (λi v e=>?_) (λi q e=>?_) λh' W U kp=>?_
 ·have O:n[i]? =some v:=by simpa using e
  have:=(C i (gI0.mp O).1).1;rw[O]at this;exact Ri this
 ·obtain⟨g,j,rfl⟩:=y i q e
  have:=(C i<|l j).2 g j;exact⟨this.1,jX I.hok this.2.1⟩
 ·have F:KT H Xu (Xu.mapIdx λi g=>(g.1,(f i).2.1,(f i).2.2)):=jh G.symm λi p q j e2=>by
   obtain⟨g,R,rfl⟩:=y i q e2;rw[j]at R;cases R;exact⟨rfl,((C i<|l j).2 _ j).2.1,((C i<|l j).2 _ j).2.2⟩
  have B:=KT.merge F (Xu:=[]) (xs:=[]) .nil;have ml:=kE Xu [];have z:([]:Xm (Xm Key×V)).length=0:=rfl;obtain⟨ob,es,ep,E,h2,h3,h4,_,h5⟩:=U;have P:=I.hok.fresh<|QJ s.heap.objs.size;refine⟨.ref _,_,I.laid (a:=s.heap.objs.size) (o:=.dT<|i7 [] Xu) (t':=W) kp (QJ _) ⟨by lia,R3.mpr<|Tf<|QU I.big,_,B.keeps λc ys M=>?_,ob,es,ep,E,h2,h3,h4,h5⟩,rfl,q _ P⟩;rw[cG<|cF M P];exact M
end L2
namespace J
section
variable {st:Expr}{ty:TE}{td:TE}{te:TE}{ts:TO}{pos:Pos}{p2:Pos}
def LL{o f:Expr}{l a:Pos}{j:TE}(n:X.A.units+1<cLine)(m:JE X o td)(he:JE X e ty)(hf:JE X f j)(h:iR o=true:=by rfl)(i:notStar e=true:=by rfl)(g:notStar f=true:=by rfl)(p:(l.endLine==a.line)=true:=by rfl):JE X (.Call (.Attribute o "get" l) [e,f] [] a) (EC td ty j):=
 ⟨Dp n m.out he.out hf.out ⟨fQ h,by rw[BS i g];rfl,p,BS i g⟩⟩
def uJ(a:X.A.units+1<cLine):JC X .Eq (λx y H Q=>MI X.K x y H Q):=⟨L2.uJ a⟩
def u9(a:X.A.units+1<cLine)(f:JE X e ty)(g:JE X d td)(hm:behindInMarks .In d=false:=by rfl):JE X (.Compare e [.In] [d] pos) (Hw ty td):=⟨L2.u9 a f.out g.out hm⟩
def fG(e:X.A.units+2<cLine)(a:X.calm=true):JF X (.type "dict") (λvs H Q=>ID X.K vs H Q):=⟨L2.fG e a⟩
def NZ{a g i o v1 v2 l v4:Expr}{t1 f t3 n h j p m:TE}(a1:JE X a t1)(r:JE X v1 h)(a2:JE X g f)(s:JE X v2 j)(v:JE X i t3)(w:JE X l p)(q:JE X o n)(x:JE X v4 m):
  JE X (.Dict [some a,some g,some i,some o] [v1,v2,l,v4] pos) (Jm [(t1,h),(f,j),(t3,p),(n,m)]):=
 ⟨FK (jS a1.out r.out<|jS a2.out s.out<|jS v.out w.out<|jS q.out x.out AA) rfl rfl (λe=>by cases e)<|by show 4<=15;decide⟩
end
end J
namespace TS
def oX:Bool->Keyed->Array Keyed->Nat->Nat->Nat->StateT SortSt Sem (Xk Nat):=sortPriv% PySem.Builtin.gallop
def key(κ:KeyKind)(p:Keyed):κ.α:=(κ.keyOf p.1).getD κ.dflt
def kq(κ:KeyKind)(p:Keyed):Prop:=∃a,κ.keyOf p.1=some a
def j5(prog:Xi)(w:Xj)(A:Xl)(E:Xo)(s:Xh)(κ:KeyKind)(e:SortKind):Prop:=
 ∀(x y:Keyed) (a:SortSt) (Q:Xk Bool->SortSt->Prop),kindOf a=e->kq κ x->kq κ y->Q (some<|κ.blt (key κ x)<|key κ y) a->wpS (model prog w) A E s (lt' x y) Q a
section
variable {prog:Xi}{w:Xj}{A:Xl}{E:Xo}{s:Xh}{κ:KeyKind}{kd:SortKind}
def cT{f:Keyed->StateT SortSt Sem β}(h:arr[i]? =some x)(q:wpS (model prog w) A E s (f x) Q zt):wpS (model prog w) A E s (elem' arr i >>= f) Q zt:=RD (by
 rw[elem'_eq,h];exact QT q)
def j5.b{f:Xk Bool->StateT SortSt Sem β}(a:j5 prog w A E s κ kd)(e:kindOf zt=kd)(g:kq κ x)(h:kq κ y)(q:wpS (model prog w) A E s (f<|some<|κ.blt (key κ x)<|key κ y) Q zt):wpS (model prog w) A E s (lt' x y >>= f) Q zt:=RD<|a x y zt _ e g h q
def cO [Decidable c]{e a:StateT SortSt Sem β}(f:c->wpS (model prog w) A E s e Q zt)(g:¬c->wpS (model prog w) A E s a Q zt):wpS (model prog w) A E s (if c then e else a) Q zt:=by grind
def dM{x y:Nat}{e a:StateT SortSt Sem β}(f:x=y->wpS (model prog w) A E s e Q zt)(g:x≠y->wpS (model prog w) A E s a Q zt):wpS (model prog w) A E s (if(x==y)=true then e else a) Q zt:=by grind
def eR{f:Xk ρ×τ->StateT SortSt Sem β}(J:Nat->τ->SortSt->Prop)(R:τ->SortSt->Prop)(e:ρ->SortSt->Prop)(h:J a t zt)
  (u:∀t i zt,i<b->J i t zt->∀Q:ForInStep (Xk ρ×τ)->SortSt->Prop,(∀r t zt,e r zt->Q (.done (some r,t)) zt)->(∀t zt,R t zt->Q (.done (none,t)) zt)->(∀t zt,J (i+1) t zt->Q (.yield (none,t)) zt)->wpS (model prog w) A E s (g i (none,t)) Q zt)
  (d:∀t zt,J (max a b) t zt->R t zt)(j:∀r t zt,e r zt->wpS (model prog w) A E s (f (some r,t)) Q zt)(p:∀t zt,R t zt->wpS (model prog w) A E s (f (none,t)) Q zt):wpS (model prog w) A E s (forIn [a:b] (none,t) g >>= f) Q zt:=
 RD (wpS_mono (wpS_forRange (Q:=λc zt=>wpS (model prog w) A E s (f c) Q zt) (λi c zt=>c.1=none/\J i c.2 zt) (by
  rintro i ⟨_,t⟩ zt _ l ⟨⟨⟩,h⟩;exact u t i zt l h _ j p λ_ _ h=>⟨rfl,h⟩) (by
  rintro⟨_,t⟩ zt ⟨⟨⟩,h⟩;exact p t zt<|d t zt h) ⟨rfl,h⟩) λ_ _ h=>h)
def Kh(κ:KeyKind)(left:Bool)(k x:Keyed):Bool:=if left then κ.blt (key κ x) (key κ k) else !(κ.blt (key κ k)<|key κ x)
def GY{f:Xk Bool->StateT SortSt Sem β}(h:j5 prog w A E s κ kd)(a:kindOf zt=kd)(e:kq κ k)(j:arr[i]? =some x)(g:kq κ x)(q:wpS (model prog w) A E s (f<|some<|Kh κ left k x) Q zt):
  wpS (model prog w) A E s ((elem' arr i >>= λx=>if left=true then lt' x k else lt' k x >>= λr=>pure<|Option.map (λy=> !y) r) >>= f) Q zt:=by
 refine RD<|cT j ?_;cases left with
 |true=>exact h x k zt _ a g e q
 |false=>exact h.b a e g<|QT q
def yH(hL:j5 prog w A E s κ kd){left:Bool}{k:Keyed}{arr:Array Keyed}{base n a:Nat}{zt:SortSt}{Q:Xk Nat->SortSt->Prop}(Y:kindOf zt=kd)(Z:kq κ k)(f:Nat->Bool)(hf:∀i,i<n->∃x,arr[base+i]? =some x/\kq κ x/\Kh κ left k x=f i)(mono:∀i j,i<=j->j<n->f j=true->f i=true)(T:a<n)
  (q:∀m,m<=n->(∀i,i<m->f i=true)->(∀i,m<=i->i<n->f i=false)->Q (some m) zt):wpS (model prog w) A E s (oX left k arr base n a) Q zt:=by
 have beyond:∀{β}{i:Nat}{g:Xk Bool->StateT SortSt Sem β}{Q:β->SortSt->Prop},i<n->wpS (model prog w) A E s (g<|some<|f i) Q zt->wpS (model prog w) A E s ((elem' arr (base+i) >>= λx=>if left=true then lt' x k else lt' k x >>= λr=>pure<|Option.map (λy=> !y) r) >>= g) Q zt:=λ{β i g Q} B hR=>by
  obtain⟨x,N,X,e⟩:=hf i B;exact GY hL Y Z N X<|e ▸ hR
 have up:∀i j,i<=j->j<n->f i=false->f j=false:=λi j l G p=>by
  cases h:f j with
  |false=>rfl
  |true=>rw[mono i j l G h]at p;cases p
 refine beyond T ?_;dsimp -zeta only
 extract_lets -underBinder+onlyGivenNames jp
 suffices W:∀U o M B,M<=B->B<=n->(∀i,i<M->f i=true)->(∀i,B<=i->i<n->f i=false)->wpS (model prog w) A E s (jp () U o M B) Q zt by
  clear_value jp
  refine cO (λhr=>?_) λhr=>?_
  ·refine eR (λx t z=>zt=z/\t.1<t.2/\x+1<=t.2/\a+t.1<n/\f (a+t.1)=true) (λt z=>zt=z/\t.1<t.2/\a+t.1<n/\f (a+t.1)=true/\(n-a<=t.2\/(a+t.2<n/\f (a+t.2)=false))) (λ_ _=>False) ⟨rfl,Nat.zero_lt_one,QJ 1,T,hr⟩ ?_ ?_ nofun ?_
   ·rintro t x _ N ⟨rfl,l,G,p,v⟩ Q q1 K L
    exact cO (λJ=>QT<|K _ _ ⟨rfl,l,p,v,.inl J⟩) λJ=>beyond (by lia) (cO (λC=>QT<|K _ _ ⟨rfl,l,p,v,.inr ⟨by lia,by grind⟩⟩) λC=>QT<|L _ _ ⟨rfl,by lia,by lia,by lia,by grind⟩)
   ·rintro t _ ⟨rfl,l,G,p,v⟩
    exact⟨rfl,l,p,v,.inl<|by lia⟩
   ·rintro t _ ⟨rfl,l,p,v,I⟩
    exact W _ _ _ _ (by lia) (by lia) (λi B=>mono i _ (by lia) p v) λi R O=>by
     obtain I|⟨I,S⟩:=I
     ·lia
     ·exact up _ i (by lia) O S
  ·refine eR (λx t z=>zt=z/\t.1<t.2/\x+1<=t.2/\t.1<=a/\f (a-t.1)=false) (λt z=>zt=z/\t.1<t.2/\t.1<=a/\f (a-t.1)=false/\(a+1<=t.2\/(t.2<=a/\f (a-t.2)=true))) (λ_ _=>False) ⟨rfl,Nat.zero_lt_one,QJ 1,RF _,RA.mpr hr⟩ ?_ ?_ nofun ?_
   ·rintro t x _ N ⟨rfl,l,G,p,v⟩ Q q1 K L
    exact cO (λJ=>QT<|K _ _ ⟨rfl,l,p,v,.inl J⟩) λJ=>beyond (by lia) (cO (λC=>QT<|K _ _ ⟨rfl,l,p,v,.inr ⟨by lia,C⟩⟩) λC=>QT<|L _ _ ⟨rfl,by lia,by lia,by lia,RA.mpr C⟩)
   ·rintro t _ ⟨rfl,l,G,p,v⟩
    exact⟨rfl,l,p,v,.inl<|by lia⟩
   ·rintro t _ ⟨rfl,l,p,v,I⟩
    exact W _ _ _ _ (by lia) (by lia) (λi R=>by
     obtain I|⟨I,S⟩:=I
     ·lia
     ·exact mono i _ (by lia) (by lia) S) λi R O=>up _ i R O v
 intro U o M B P H D F;refine eR (λx t z=>zt=z/\t.1<=t.2/\t.2<=n/\t.2-t.1<=n-x/\(∀i,i<t.1->f i=true)/\(∀i,t.2<=i->i<n->f i=false)) (λt z=>zt=z/\t.2<=n/\(∀i,i<t.2->f i=true)/\(∀i,t.2<=i->i<n->f i=false)) (λ_ _=>False) ⟨rfl,P,H,by lia,D,F⟩ ?_ ?_ nofun ?_
 ·rintro t x _ N ⟨rfl,P,H,g3,D,F⟩ Q q1 K L
  refine cO (λJ=>QT<|K _ _ ⟨rfl,H,λi B=>D i<|by lia,F⟩) λJ=>beyond (by lia) (cO (λC=>QT<|L _ _ ⟨rfl,by lia,by lia,by lia,λi ab=>mono i _ (by lia) (by lia) C,F⟩) λC=>QT<|L _ _ ⟨rfl,by lia,by lia,by lia,D,λi l G=>up _ i l G<|RA.mpr C⟩)
 ·rintro t _ ⟨rfl,P,H,g3,D,F⟩
  exact⟨rfl,H,λi B=>D i<|by lia,F⟩
 ·rintro t _ ⟨rfl,H,D,F⟩
  exact QT<|q _ H D F
end
variable {κ:KeyKind}
def dD(κ:KeyKind)(l:Xm Keyed):Prop:=l.Pairwise λx y=>κ.kle (key κ x)<|key κ y
def NM(κ:KeyKind)(v:κ.α)(p:Keyed):Bool:= !κ.blt (key κ p) v && !κ.blt v (key κ p)
def fk(κ:KeyKind)(v:κ.α)(l:Xm Keyed):Xm Keyed:=l.filter<|NM κ v
def Below(κ:KeyKind)(l m:Xm Keyed):Prop:=∀x∈l,∀y∈m,κ.kle (key κ x)<|key κ y
def Under(κ:KeyKind)(l m:Xm Keyed):Prop:=∀x∈l,∀y∈m,κ.klt (key κ x)<|key κ y
def cQ(κ:KeyKind)(l m:Xm Keyed):Prop:=∀v,fk κ v l=fk κ v m
def Under.below(h:Under κ l m):Below κ l m:=λx a y e=>KeyOrd.kle_of_klt<|h x a y e
def kh(v:κ.α)(l m:Xm Keyed):fk κ v (l++m)=fk κ v l++fk κ v m:=Sz ..
def xi(p:Keyed):NM κ (key κ p) p=true:=by
 unfold NM;rw[κ.irrefl];rfl
def CM(h:NM κ v p=true):key κ p=v:=by
 unfold NM at h;rw[RZ,UM,UM]at h;exact κ.total _ _ h.1 h.2
def cQ.refl(l:Xm Keyed):cQ κ l l:=λ_=>rfl
def cQ.trans(h:cQ κ l m)(h':cQ κ m n):cQ κ l n:=λv=>(h v).trans<|h' v
def cQ.append(h:cQ κ l l')(h':cQ κ m m'):cQ κ (l++m) (l'++m'):=λv=>by
 rw[kh,kh,h v,h' v]
def cQ.perm(h:cQ κ l m):l.Perm m:=by
 classical
 refine List.perm_iff_count.mpr λx=>?_;have e:=RH (List.count x)<|h<|key κ x;unfold fk at e
 rwa [List.count_filter<|xi x,List.count_filter<|xi x]at e
def cQ.mem(h:cQ κ l m):x∈l↔x∈m:=h.perm.mem_iff
def cQ.swap(h:Under κ l m):cQ κ (l++m) (m++l):=λv=>by
 rw[kh,kh];by_cases e:fk κ v l=[]
 ·grind
 ·obtain⟨x,n⟩:=List.exists_mem_of_ne_nil _ e
  obtain⟨i,f⟩:=QV.mp n;have o:fk κ v m=[]:=List.eq_nil_iff_forall_not_mem.mpr λy g=>by
   obtain⟨a,j⟩:=QV.mp g;have:=h x i y a;rw[CM f,CM j]at this;unfold KeyOrd.klt at this;rw[κ.irrefl]at this;cases this
  grind
def dD.append(h:dD κ l)(h':dD κ m)(b:Below κ l m):dD κ (l++m):=UH.mpr ⟨h,h',b⟩
def dD.left(h:dD κ (l++m)):dD κ l:=(UH.mp h).1
def dD.right(h:dD κ (l++m)):dD κ m:=(UH.mp h).2.1
def dD.mid(h:dD κ (l++m)):Below κ l m:=(UH.mp h).2.2
def dD.drop(h:dD κ l)(i:Nat):dD κ (l.drop i):=To (List.drop_sublist i l) h
def Below.append(h:Below κ l n)(h':Below κ m n):Below κ (l++m) n:=λx a=>(Rg.mp a).elim (h x)<|h' x
def Below.left(h:Below κ l (m++n)):Below κ l m:=λx a y e=>h x a y<|Ra _ e
def Below.right(h:Below κ l (m++n)):Below κ l n:=λx a y e=>h x a y<|QP _ e
def Below.nil:Below κ l []:=λ_ _ _ h=>by cases h
def qt(l:Xm Keyed)(i k:Nat):l.drop i=(l.drop i).take k++l.drop (i+k):=by
 rw[<-drop_drop,RO]
structure j4(κ:KeyKind)(al bl out:Xm Keyed)(ia ib:Nat):Prop where
 so:dD κ out
 oa:Below κ out (al.drop ia)
 ob:Below κ out (bl.drop ib)
 zt:cQ κ (out++(al.drop ia++bl.drop ib)) (al++bl)
def j4.yN(f:dD κ al)(h:j4 κ al bl out ia ib)(b:Below κ ((al.drop ia).take k) (bl.drop ib)):j4 κ al bl (out++(al.drop ia).take k) (ia+k) ib:=by
 have s:=f.drop ia;have a:=h.oa;have e:=h.zt;rw[qt al ia k]at s a e;refine⟨h.so.append s.left a.left,a.right.append s.mid,h.ob.append b,?_⟩;grind
def j4.yo(e:dD κ bl)(h:j4 κ al bl out ia ib)(b:Under κ ((bl.drop ib).take k) (al.drop ia)):j4 κ al bl (out++(bl.drop ib).take k) ia (ib+k):=by
 have s:=e.drop ib;have ob:=h.ob;have a:=h.zt;rw[qt bl ib k]at s ob a;refine⟨h.so.append s.left ob.left,h.oa.append b.below,ob.right.append s.mid,cQ.trans ?_ a⟩;rw[QL];refine(cQ.refl _).append ?_;rw[<-QL,<-QL];exact(cQ.swap b).append (cQ.refl _)
def j4.done(f:dD κ al)(a:dD κ bl)(h:j4 κ al bl out ia ib)(e:al.drop ia=[]\/bl.drop ib=[]):dD κ (out++al.drop ia++bl.drop ib)/\cQ κ (out++al.drop ia++bl.drop ib) (al++bl):=by
 refine⟨?_,by rw[QL];exact h.zt⟩;obtain e|e:=e
 ·rw[e,Rm]
  exact h.so.append (a.drop ib) h.ob
 ·rw[e,Rm]
  exact h.so.append (f.drop ia) h.oa
def j4.last(e:dD κ al)(a:dD κ bl)(h:j4 κ al bl out ia ib)(u:Under κ (bl.drop ib) (al.drop ia)):dD κ (out++bl.drop ib++al.drop ia)/\cQ κ (out++bl.drop ib++al.drop ia) (al++bl):=by
 refine⟨(h.so.append (a.drop ib) h.ob).append (e.drop ia)<|h.oa.append u.below,cQ.trans ?_ h.zt⟩;rw[QL];exact(cQ.refl _).append (cQ.swap u)
def Ez:Array Keyed->Array Keyed->StateT SortSt Sem (Array Keyed):=sortPriv% PySem.Builtin.mergeLo
section
variable {prog:Xi}{w:Xj}{A:Xl}{E:Xo}{s:Xh}{kd:SortKind}
structure Kept(zt Xv:SortSt):Prop where
 kind:kindOf Xv=kindOf zt
 arr:arrOf Xv=arrOf zt
 pend:pendingOf Xv=pendingOf zt
 failed:failedOf Xv=failedOf zt
def Kept.refl(zt:SortSt):Kept zt zt:=⟨rfl,rfl,rfl,rfl⟩
def Kept.trans(h:Kept a b)(h':Kept b c):Kept a c:=⟨h'.kind.trans h.kind,h'.arr.trans h.arr,h'.pend.trans h.pend,h'.failed.trans h.failed⟩
def qX:Nat->StateT SortSt Sem Unit:=sortPriv% PySem.Builtin.setMinGallop
def lP{f:Unit->StateT SortSt Sem β}(q:∀a,Kept zt a->wpS (model prog w) A E s (f ()) Q a):wpS (model prog w) A E s (qX g >>= f) Q zt:=RD (by
 exact Ve<|q _ ⟨rfl,rfl,rfl,rfl⟩)
def zV{l:Xm Keyed}{b m:Nat}{x:Keyed}:x∈(l.drop b).take m↔∃i,i<m/\l[b+i]? =some x:=by
 constructor
 ·intro h
  obtain⟨i,a⟩:=QZ h;have e:=(gI0.mp a).1;rw[RK]at e;rw[Sl<|by lia,TB]at a;exact⟨i,by lia,a⟩
 ·rintro⟨i,h1,h2⟩
  refine QH (i:=i) ?_;rw[Sl h1,TB];exact h2
def dD.at{l:Xm Keyed}(h:dD κ ((l.drop b).take n))(r:i<=j)(p:j<n)(f:l[b+i]? =some x)(a:l[b+j]? =some y):κ.kle (key κ x) (key κ y):=by
 by_cases e:i=j
 ·subst e
  rw[f]at a;cases a;exact T1 _
 ·have o:((l.drop b).take n)[i]? =some x:=by rw[Sl<|by lia,TB];exact f
  obtain⟨g,q⟩:=gI0.mp o;obtain⟨m,s⟩:=gI0.mp (by rw[Sl p,TB];exact a);have:=UJ.mp h i j g m (by lia);grind
def zm(F:j5 prog w A E s κ kd){left:Bool}{k:Keyed}{arr:Array Keyed}{base n r:Nat}{zt:SortSt}{Q:Xk Nat->SortSt->Prop}(C:kindOf zt=kd)(D:kq κ k)(B:∀x∈arr.toList,kq κ x)(sz:base+n<=arr.size)(ss:dD κ ((arr.toList.drop base).take n))(G:r<n)
  (q:∀m,m<=n->(∀x∈(arr.toList.drop base).take m,Kh κ left k x=true)->(∀x∈(arr.toList.drop<|base+m).take (n-m),Kh κ left k x=false)->Q (some m) zt):wpS (model prog w) A E s (oX left k arr base n r) Q zt:=by
 have h:∀i,i<n->∃x,arr.toList[base+i]? =some x/\kq κ x:=λi f=>by
  have:base+i<arr.toList.length:=by rw[QS];lia
  exact⟨_,QB this,B _<|Ta this⟩
 refine yH F C D (λi=>match arr.toList[base+i]? with|some x=>Kh κ left k x|none=>false) (λi f=>?_) (λi j z o g=>?_) G λm I H v=>q m I (λx e=>?_) λx e=>?_
 ·obtain⟨x,e,l⟩:=h i f
  exact⟨x,by rw[<-e,QW],l,by rw[e]⟩
 ·obtain⟨x,e,l⟩:=h i (by lia)
  obtain⟨y,p,K⟩:=h j o;have le:=ss.at z o e p;rw[p]at g;rw[e];dsimp only at g ⊢;cases left with
  |true=>exact Vz le<|show κ.klt _ _ from g
  |false=>
   have J:κ.blt (key κ k) (key κ y)=false:=by
    have:(!κ.blt (key κ k) (key κ y))=true:=g
    rwa [UM]at this
   have:κ.kle (key κ x) (key κ k):=Uj le J;show(!κ.blt (key κ k) (key κ x))=true;rw[UM];exact this
 ·obtain⟨i,f,a⟩:=zV.mp e
  have:=H i f
  rwa [a]at this
 ·obtain⟨i,f,a⟩:=zV.mp e
  rw[Nat.add_assoc]at a;have:=v (m+i) (by lia) (by lia)
  rwa [a]at this
def fJ(l:Xm Keyed)(b:Nat){n:Nat}(h:l.length-b<=n):(l.drop b).take n=l.drop b:=R7 (by rw[So];exact h)
def pe{f:Xk Nat->StateT SortSt Sem β}(r:j5 prog w A E s κ kd)(h:kindOf zt=kd)(i:kq κ k)(p:∀x∈arr.toList,kq κ x)(sz:base+n<=arr.size)(ss:dD κ ((arr.toList.drop base).take n))(l:XF<n)
  (q:∀m,m<=n->Below κ ((arr.toList.drop base).take m) [k]->Under κ [k] ((arr.toList.drop<|base+m).take<|n-m)->wpS (model prog w) A E s (f<|some m) Q zt):wpS (model prog w) A E s (oX false k arr base n XF >>= f) Q zt:=
 RD (zm r h i p sz ss l λm g o j=>q m g (λx e y a=>by
  cases QK.mp a;have:=o x e;unfold Kh at this;rw[QG bF0,UM]at this;exact this) (λy a x e=>by
  cases QK.mp a;have:=j x e;unfold Kh at this;rw[QG bF0,Bool.not_eq_false']at this;exact this))
def qj{f:Xk Nat->StateT SortSt Sem β}(r:j5 prog w A E s κ kd)(h:kindOf zt=kd)(i:kq κ k)(p:∀x∈arr.toList,kq κ x)(sz:base+n<=arr.size)(ss:dD κ ((arr.toList.drop base).take n))(l:XF<n)
  (q:∀m,m<=n->Under κ ((arr.toList.drop base).take m) [k]->Below κ [k] ((arr.toList.drop<|base+m).take<|n-m)->wpS (model prog w) A E s (f<|some m) Q zt):wpS (model prog w) A E s (oX true k arr base n XF >>= f) Q zt:=
 RD (zm r h i p sz ss l λm g o j=>q m g (λx e y a=>by
  cases QK.mp a;exact o x e) (λy a x e=>by
  cases QK.mp a;exact j x e))
def jH(κ:KeyKind)(a b r:Array Keyed):Prop:=dD κ r.toList/\cQ κ r.toList (a.toList++b.toList)
def lQ(a:Array Keyed)(i:Nat):(a.extract i a.size).toList=a.toList.drop i:=by
 rw[Us];exact fJ _ _ (by rw[QS];exact QJ _)
def pL(a:Array Keyed)(i k:Nat):(a.extract i<|i+k).toList=(a.toList.drop i).take k:=by simp_all
def gA{a:Array Keyed}(h:a[i]? =some x):a.toList.drop i=x::a.toList.drop (i+1):=by
 rw[<-QW]at h;obtain⟨e,f⟩:=gI0.mp h;rw[UK e,f]
def dD.head(h:dD κ (x::l)):Below κ [x] (x::l):=λa f b e=>by
 cases QK.mp f;obtain rfl|e:=Rf.mp e
 ·exact T1 _
 ·exact(VN.mp h).1 b e
def Under.over(h:Under κ l [k])(b:Below κ [k] m):Under κ l m:=λx a y e=>Tq (h x a k<|Rw _)<|b k (Rw _) y e
def Below.over(h:Below κ l [k])(b:Below κ [k] m):Below κ l m:=λx a y e=>Uj (h x a k<|Rw _)<|b k (Rw _) y e
section
variable {a:Array Keyed}{b:Array Keyed}{out:Array Keyed}{ia:Nat}{ib:Nat}(sa:dD κ a.toList)(sb:dD κ b.toList)
include sa sb
def j4.qa(h:j4 κ a.toList b.toList out.toList ia ib)(e:a.size<=ia\/b.size<=ib):jH κ a b (out++a.extract ia a.size++b.extract ib b.size):=by
 unfold jH;rw[SQ,SQ,lQ,lQ];exact h.done sa sb (e.imp (λe=>WE<|by omega) λe=>WE<|by omega)
def j4.Hk(h:j4 κ a.toList b.toList out.toList ia ib)(u:Under κ (b.toList.drop ib) (a.toList.drop ia)):jH κ a b (out++b.extract ib b.size++a.extract ia a.size):=by
 unfold jH;rw[SQ,SQ,lQ,lQ];exact h.last sa sb u
omit sa in
def j4.sv{x:Keyed}(h:j4 κ a.toList b.toList out.toList ia ib)(f:b[ib]? =some x)(u:Under κ [x] (a.toList.drop ia)):j4 κ a.toList b.toList (out.push x).toList ia (ib+1):=by
 rw[VG];have e:(b.toList.drop ib).take 1=[x]:=by rw[gA f];rfl
 have:=h.yo sb (by rw[e];exact u)
 rwa [e]at this
omit sb in
def j4.sH{x:Keyed}(h:j4 κ a.toList b.toList out.toList ia ib)(f:a[ia]? =some x)(u:Below κ [x] (b.toList.drop ib)):j4 κ a.toList b.toList (out.push x).toList (ia+1) ib:=by
 rw[VG];have e:(a.toList.drop ia).take 1=[x]:=by rw[gA f];rfl
 have:=h.yN sa (by rw[e];exact u)
 rwa [e]at this
end
structure LI(κ:KeyKind)(a b:Array Keyed)(zt:SortSt)(out:Array Keyed)(ia ib t:Nat)(Xv:SortSt):Prop where
 kp:Kept zt Xv
 m:j4 κ a.toList b.toList out.toList ia ib
 la:ia+1<a.size
 lb:ib<b.size
 t:t<=ia+ib
def gV{a:Array Keyed}(h:i<a.size):∃x,a[i]? =some x/\x∈a.toList:=⟨_,getElem?_pos a i h,by simp⟩
def j4.JZ{a b out:Array Keyed}(e:dD κ a.toList)(h:j4 κ a.toList b.toList out.toList ia ib)(u:Below κ ((a.toList.drop ia).take k) (b.toList.drop ib)):j4 κ a.toList b.toList (out++a.extract ia (ia+k)).toList (ia+k) ib:=by
 rw[SQ,pL];exact h.yN e u
def j4.Ld{a b out:Array Keyed}(e:dD κ b.toList)(h:j4 κ a.toList b.toList out.toList ia ib)(u:Under κ ((b.toList.drop ib).take k) (a.toList.drop ia)):j4 κ a.toList b.toList (out++b.extract ib (ib+k)).toList ia (ib+k):=by
 rw[SQ,pL];exact h.yo e u
def wo(a:Array Keyed){i m n:Nat}(h:a.size-i<=n)(hm:m<=n):(a.toList.drop<|i+m).take (n-m)=a.toList.drop (i+m):=fJ _ _ (by rw[QS];lia)
def LI.le(h:LI κ a b zt o i j y Xv)(l:x<=y):LI κ a b zt o i j x Xv:=⟨h.kp,h.m,h.la,h.lb,Rn l h.t⟩
def mO{f:Unit->StateT SortSt Sem β}(h:wpS (model prog w) A E s (f ()) Q zt):wpS (model prog w) A E s ((rule t:StateT SortSt Sem Unit) >>= f) Q zt:=RD<|wpS_lift<|RW ⟨rfl,h⟩
def wR(hL:j5 prog w A E s κ kd){a b:Array Keyed}(hk:kindOf zt=kd)(ka:∀x∈a.toList,kq κ x)(kb:∀x∈b.toList,kq κ x)(v:dD κ a.toList)(p:dD κ b.toList)(a1:1<=a.size)(b1:1<=b.size)(u1:Under κ (b.toList.take 1) a.toList)(u2:Under κ b.toList (a.toList.drop<|a.size-1))
  (q:∀r g,Kept zt g->jH κ a b r->Q r g):wpS (model prog w) A E s (Ez a b) Q zt:=by
 have M:∀{i:Nat}{x:Keyed},a[i]? =some x->Below κ [x] (a.toList.drop i):=λ{i x} C=>by
  have h:=v.drop i;rw[gA C]at h ⊢;exact h.head
 have N:∀{i:Nat}{x:Keyed},b[i]? =some x->Below κ [x] (b.toList.drop i):=λ{i x} C=>by
  have h:=p.drop i;rw[gA C]at h ⊢;exact h.head
 have J:∀{i:Nat}(j:Nat),i+1=a.size->Under κ (b.toList.drop j) (a.toList.drop i):=λ{i} j e x C y W=>u2 x (Ut C) y (by rwa [<-e]);obtain⟨b0,R,ar⟩:=gV b1;have m0:j4 κ a.toList b.toList (#[b0]:Array Keyed).toList 0 1:=by
  have h0:j4 κ a.toList b.toList (#[]:Array Keyed).toList 0 0:=⟨List.Pairwise.nil,(λ_ h=>by cases h),(λ_ h=>by cases h),cQ.refl _⟩;refine h0.sv p R ?_;have e:b.toList.take 1=[b0]:=by
   have:=gA R;grind
  rwa [e]at u1
 refine mO<|cT R<|dM (λc1=>QT<|q _ zt (Kept.refl _)<|m0.qa v p<|.inr<|SS c1.symm) λc1=>dM (λP=>QT<|q _ zt (Kept.refl _)<|m0.Hk v p<|J _ P) λP=>RD<|Vr ?_;refine eR (λx t g=>LI κ a b zt t.1 t.2.1 t.2.2.1 x g) (λ_ _=>False) (λr g=>Kept zt g/\jH κ a b r) ⟨Kept.refl _,m0,by lia,by lia,RF _⟩ (λt x as C f Q q1 q2 U=>?_) (λt g f=>by
  have:=f.t;have:=f.la;have:=f.lb;lia) (λr t g h=>QT<|q r g h.1 h.2) nofun
 refine eR (λy t g=>LI κ a b zt t.1 t.2.1 t.2.2.1 (x+y) g) (λt g=>LI κ a b zt t.1 t.2.1 t.2.2.1 (x+1) g) (λr g=>Kept zt g/\jH κ a b r) f (λt y XR W f Q q1 q2 U=>?_) (λt g f=>by
  have:=f.t;have:=f.la;have:=f.lb;lia) (λr t g h=>QT<|q1 r _ g h) λt XR f=>?_
 ·obtain⟨Y,l,T⟩:=gV f.lb
  obtain⟨xa,H,am⟩:=gV<|Nat.lt_of_succ_lt f.la;refine cT l<|cT H<|hL.b (f.kp.kind.trans hk) (kb Y T) (ka xa am)<|cO (λhc=>cT l ?_) λhc=>cT H ?_
  all_goals
   have G:=f.la;have I:=f.lb;have aq:=f.t
  ·have Z:=f.m.sv p l (Under.over (k:=xa) (λx C y W=>by cases QK.mp C;cases QK.mp W;exact hc)<|M H)
   refine dM (λz=>QT<|q1 _ _ _ ⟨f.kp,Z.qa v p<|.inr<|SS z.symm⟩) λz=>?_;have L:LI κ a b zt _ _ _ (x+(y+1)) XR:=⟨f.kp,Z,G,Nat.lt_of_le_of_ne I z,by lia⟩;exact cO (λ_=>QT<|q2 _ _<|L.le<|by lia) λ_=>QT<|U _ _ L
  ·have Z:=f.m.sH v H (Below.over (k:=Y) (λx C y W=>by cases QK.mp C;cases QK.mp W;exact RA.mpr hc)<|N l)
   refine dM (λz=>QT<|q1 _ _ _ ⟨f.kp,Z.Hk v p<|J _ z⟩) λz=>?_;have L:LI κ a b zt _ _ _ (x+(y+1)) XR:=⟨f.kp,Z,Nat.lt_of_le_of_ne G z,I,by lia⟩;exact cO (λ_=>QT<|q2 _ _<|L.le<|by lia) λ_=>QT<|U _ _ L
 refine mO (eR (λy t g=>LI κ a b zt t.1 t.2.1 t.2.2.1 (x+1+y) g) (λt g=>LI κ a b zt t.1 t.2.1 t.2.2.1 (x+1) g) (λr g=>Kept zt g/\jH κ a b r) f (λt y al W f Q q1 q2 U=>?_) (λt g f=>by
  have:=f.t;have:=f.la;have:=f.lb;lia) (λr t g h=>QT<|q1 r _ g h) λt g f=>lP λD S=>QT<|U _ _ ⟨f.kp.trans S,f.m,f.la,f.lb,f.t⟩)
 extract_lets -underBinder+onlyGivenNames s1 F s2 ia s3 ib s4 mg s5 ac bc jp
 have f:LI κ a b zt F ia ib _ _:=f
 clear_value F ia ib mg ac bc s1
 have G:=f.la;have I:=f.lb;have aq:=f.t;obtain⟨Y,l,T⟩:=gV I
 suffices O:∀mg,wpS (model prog w) A E s (jp () mg) Q al from cO (λ_=>O _) λ_=>O _
 refine λmg=>lP λD S=>?_;have n:=f.kp.trans S;refine cT l (pe hL (n.kind.trans hk) (kb Y T) ka (by lia) (by rw[fJ _ _<|by rw[QS];exact QJ _];exact v.drop _) (by lia) λk1 ad ap B=>?_);rw[wo a (QJ _) ad]at B;dsimp -zeta only
 extract_lets -underBinder+onlyGivenNames ac jp
 suffices O:∀o i,j4 κ a.toList b.toList o.toList i ib->Under κ [Y] (a.toList.drop i)->ia<=i->i+1<a.size->wpS (model prog w) A E s (jp () o i) Q D by
  refine cO (λc=>?_) λc=>O _ _ f.m (by rwa [show k1=0 by lia]at B) (QJ _) G;have X:=j4.JZ v f.m<|Below.over ap<|N l;exact dM (λP=>QT<|q1 _ _ _ ⟨n,X.Hk v p<|J _ P⟩) λP=>dM (λc7=>QT<|q1 _ _ _ ⟨n,X.qa v p<|.inl<|SS c7.symm⟩) λc7=>O _ _ X B (TY _ _) (by lia)
 refine λF i X B l1 l2=>cT l ?_;have m3:=j4.sv p X l B;obtain⟨xc,K,an⟩:=gV<|Nat.lt_of_succ_lt l2;refine dM (λz=>QT<|q1 _ _ _ ⟨n,m3.qa v p<|.inr<|SS z.symm⟩) λz=>?_;refine cT K (qj hL (n.kind.trans hk) (ka xc an) kb (by lia) (by rw[fJ _ _<|by rw[QS];exact QJ _];exact p.drop _) (by lia) λk2 ab ul bl=>?_);rw[wo b (QJ _) ab]at bl;dsimp -zeta only
 extract_lets -underBinder+onlyGivenNames bc jp
 suffices O:∀o j,j4 κ a.toList b.toList o.toList i j->Below κ [xc] (b.toList.drop j)->ib<j->j<b.size->wpS (model prog w) A E s (jp () o j) Q D by
  refine cO (λc=>?_) λc=>O _ _ m3 (by rwa [show k2=0 by lia]at bl) (Tn _) (by lia);have m4:=j4.Ld p m3<|Under.over ul<|M K;exact dM (λP=>QT<|q1 _ _ _ ⟨n,m4.qa v p<|.inr<|SS P.symm⟩) λc7=>O _ _ m4 bl (by lia) (by lia)
 refine λF j m4 bl l3 l4=>cT K ?_;have m5:=j4.sH v m4 K bl;refine dM (λz=>QT<|q1 _ _ _ ⟨n,m5.Hk v p<|J _ z⟩) λz=>?_;have L:LI κ a b zt _ _ _ (x+1+(y+1)) D:=⟨n,m5,by lia,l4,by lia⟩;exact cO (λ_=>QT<|q2 _ _<|L.le<|by lia) λ_=>QT<|U _ _ L
end
end TS
namespace TS
variable {κ:KeyKind}
def k9(l:Xm Keyed)(h:m<=n):l.take n=l.take m++(l.drop m).take (n-m):=by
 rw[<-List.drop_take];have:=RO m<|l.take n;grind
def dD.take(h:dD κ l)(i:Nat):dD κ (l.take i):=To (VC i l) h
structure jP(κ:KeyKind)(al bl o:Xm Keyed)(na nb:Nat):Prop where
 so:dD κ o
 oa:Below κ (al.take na) o
 ob:Below κ (bl.take nb) o
 zt:cQ κ (al.take na++(bl.take nb++o)) (al++bl)
def Below.DP(h:Below κ l m)(h':Below κ l n):Below κ l (m++n):=λx a y e=>(Rg.mp e).elim (h x a y)<|h' x a y
def Below.IU(h:Below κ (l++m) n):Below κ l n:=λx a y e=>h x (Ra _ a) y e
def Below.E8(h:Below κ (l++m) n):Below κ m n:=λx a y e=>h x (QP _ a) y e
def jP.yN(f:dD κ al)(h:jP κ al bl o na nb)(hm:m<=na)(u:Under κ (bl.take nb) ((al.drop m).take<|na-m)):jP κ al bl ((al.drop m).take (na-m)++o) m nb:=by
 have s:=f.take na;have a:=h.oa;have e:=h.zt;rw[k9 al hm]at s a e;refine⟨s.right.append h.so a.E8,s.mid.DP a.IU,u.below.DP h.ob,cQ.trans ?_ e⟩;rw[QL];refine(cQ.refl _).append ?_;rw[<-QL,<-QL];exact(cQ.swap u).append (cQ.refl _)
def jP.yo(e:dD κ bl)(h:jP κ al bl o na nb)(hm:m<=nb)(u:Below κ (al.take na) ((bl.drop m).take<|nb-m)):jP κ al bl ((bl.drop m).take (nb-m)++o) na m:=by
 have s:=e.take nb;have ob:=h.ob;have a:=h.zt;rw[k9 bl hm]at s ob a;refine⟨s.right.append h.so ob.E8,u.DP h.oa,s.mid.DP ob.IU,?_⟩;grind
def jP.done(f:dD κ al)(a:dD κ bl)(h:jP κ al bl o na nb)(e:na=0\/nb=0):dD κ (al.take na++bl.take nb++o)/\cQ κ (al.take na++bl.take nb++o) (al++bl):=by
 refine⟨?_,by rw[QL];exact h.zt⟩;obtain e|e:=e
 ·rw[e,Ue,List.nil_append]
  exact(a.take nb).append h.so h.ob
 ·rw[e,Ue,Rm]
  exact(f.take na).append h.so h.oa
def jP.first(e:dD κ al)(a:dD κ bl)(h:jP κ al bl o na nb)(u:Under κ (bl.take nb) (al.take na)):dD κ (bl.take nb++al.take na++o)/\cQ κ (bl.take nb++al.take na++o) (al++bl):=by
 refine⟨?_,cQ.trans ?_ h.zt⟩
 ·rw[QL]
  exact(a.take nb).append ((e.take na).append h.so h.oa) (u.below.DP h.ob)
 ·rw[<-QL]
  exact(cQ.swap u).append (cQ.refl _)
def EA:Array Keyed->Array Keyed->StateT SortSt Sem (Array Keyed):=sortPriv% PySem.Builtin.mergeHi
section
variable {prog:Xi}{A:Xl}{E:Xo}{s:Xh}{kd:SortKind}
abbrev bk(out:Array Keyed):Xm Keyed:=out.toList.reverse
section
variable {a:Array Keyed}{b:Array Keyed}(sa:dD κ a.toList)(sb:dD κ b.toList)
include sa sb
def jP.qa(h:jP κ a.toList b.toList (bk out) na nb)(e:na=0\/nb=0):jH κ a b (a.extract 0 na++b.extract 0 nb++out.reverse):=by
 unfold jH;rw[SQ,SQ,Us,Us,W7];exact h.done sa sb e
def jP.Gk(h:jP κ a.toList b.toList (bk out) na nb)(u:Under κ (b.toList.take nb) (a.toList.take na)):jH κ a b (b.extract 0 nb++a.extract 0 na++out.reverse):=by
 unfold jH;rw[SQ,SQ,Us,Us,W7];exact h.first sa sb u
omit sa in
def jP.Ld{m:Nat}(h:jP κ a.toList b.toList (bk out) na nb)(hm:m<=nb)(u:Below κ (a.toList.take na) ((b.toList.drop m).take<|nb-m)):jP κ a.toList b.toList (bk<|out++(b.extract m nb).reverse) na m:=by
 have e:bk (out++(b.extract m nb).reverse)=(b.toList.drop m).take (nb-m)++bk out:=by simp_all
 rw[e];exact h.yo sb hm u
omit sb in
def jP.JZ{m:Nat}(h:jP κ a.toList b.toList (bk out) na nb)(hm:m<=na)(u:Under κ (b.toList.take nb) ((a.toList.drop m).take<|na-m)):jP κ a.toList b.toList (bk<|out++(a.extract m na).reverse) m nb:=by
 have e:bk (out++(a.extract m na).reverse)=(a.toList.drop m).take (na-m)++bk out:=by simp_all
 rw[e];exact h.yN sa hm u
end
def uB{a:Array Keyed}(e:a[m]? =some x)(h:n=m+1):(a.toList.drop m).take (n-m)=[x]:=by
 rw[gA e,show n-m=1 by lia];rfl
def zz(out:Array Keyed)(x:Keyed):bk (out.push x)=[x]++bk out:=by grind
def jP.sH{a b out:Array Keyed}{na nb m:Nat}{x:Keyed}(g:dD κ a.toList)(h:jP κ a.toList b.toList (bk out) na nb)(f:a[m]? =some x)(hm:na=m+1)(u:Under κ (b.toList.take nb) [x]):jP κ a.toList b.toList (bk<|out.push x) m nb:=by
 have e:=uB f hm;have:=h.yN (m:=m) g (by lia) (by rw[e];exact u);rw[e]at this;rw[zz];exact this
def jP.sv{a b out:Array Keyed}{na nb m:Nat}{x:Keyed}(g:dD κ b.toList)(h:jP κ a.toList b.toList (bk out) na nb)(f:b[m]? =some x)(hm:nb=m+1)(u:Below κ (a.toList.take na) [x]):jP κ a.toList b.toList (bk<|out.push x) na m:=by
 have e:=uB f hm;have:=h.yo (m:=m) g (by lia) (by rw[e];exact u);rw[e]at this;rw[zz];exact this
def dD.last{a:Array Keyed}(h:dD κ a.toList)(g:a[m]? =some x)(i:n=m+1):Below κ (a.toList.take n) [x]:=by
 have s:=h.take n;have e:=k9 a.toList (show m<=n by lia);rw[uB g i]at e;rw[e]at s ⊢;exact s.mid.append λy f z j=>by
  cases QK.mp f;cases QK.mp j;exact T1 _
def Below.under(h:Below κ l [k])(u:Under κ [k] m):Under κ l m:=λx a y e=>Vz (h x a k<|Rw _)<|u k (Rw _) y e
structure HI(κ:KeyKind)(a b:Array Keyed)(zt:SortSt)(out:Array Keyed)(na nb t:Nat)(Xv:SortSt):Prop where
 kp:Kept zt Xv
 m:jP κ a.toList b.toList (bk out) na nb
 la:1<=na
 lb:2<=nb
 ha:na<=a.size
 hb:nb<=b.size
 t:na+nb+t<=a.size+b.size
def HI.le(h:HI κ a b zt o i j y Xv)(l:x<=y):HI κ a b zt o i j x Xv:=⟨h.kp,h.m,h.la,h.lb,h.ha,h.hb,Rn (Xa l _) h.t⟩
def vX(hL:j5 prog w A E s κ kd){a b:Array Keyed}(hk:kindOf zt=kd)(ka:∀x∈a.toList,kq κ x)(kb:∀x∈b.toList,kq κ x)(p:dD κ a.toList)(v:dD κ b.toList)(a1:1<=a.size)(b1:1<=b.size)(u1:Under κ (b.toList.take 1) a.toList)(u2:Under κ b.toList (a.toList.drop<|a.size-1))
  (q:∀r g,Kept zt g->jH κ a b r->Q r g):wpS (model prog w) A E s (EA a b) Q zt:=by
 obtain⟨a0,S,as⟩:=gV (show a.size-1<a.size by lia);have F:∀{C:Nat}(R:Nat),C=1->Under κ (b.toList.take C) (a.toList.take R):=λ{C} R e x M y H=>by
  subst e;exact u1 x M y<|SI H
 have m0:jP κ a.toList b.toList (bk #[a0]) (a.size-1) b.size:=by
  have h0:jP κ a.toList b.toList (bk #[]) a.size b.size:=⟨List.Pairwise.nil,Below.nil,Below.nil,by
   rw[R7<|by grind,R7<|by grind];show cQ κ (_++(_++[])) _;rw[Rm];exact cQ.refl _⟩
  refine h0.sH p S (by lia) λx M y H=>u2 x (SI M) y ?_;rw[gA S];cases QK.mp H;exact Ru
 refine mO<|cT S<|dM (λc1=>QT<|q _ zt (Kept.refl _)<|m0.qa p v<|.inl c1) λc1=>dM (λG=>QT<|q _ zt (Kept.refl _)<|m0.Gk p v<|F _ G) λG=>RD<|Vr ?_;refine eR (λx t g=>HI κ a b zt t.2.2.1 t.1 t.2.1 x g) (λ_ _=>False) (λr g=>Kept zt g/\jH κ a b r) ⟨Kept.refl _,m0,by lia,by lia,by lia,by lia,by lia⟩ (λt x av M f Q q1 q2 U=>?_) (λt g f=>by
  have:=f.t;have:=f.la;lia) (λr t g h=>QT<|q r g h.1 h.2) nofun
 refine eR (λy t g=>HI κ a b zt t.2.2.1 t.1 t.2.1 (x+y) g) (λt g=>HI κ a b zt t.2.2.1 t.1 t.2.1 (x+1) g) (λr g=>Kept zt g/\jH κ a b r) f (λt y XR H f Q q1 q2 U=>?_) (λt g f=>by
  have:=f.t;have:=f.la;lia) (λr t g h=>QT<|q1 r _ g h) λt XR f=>?_
 ·have O:=f.la
  have Y:=f.lb;have Z:=f.ha;have al:=f.hb;have ar:=f.t;obtain⟨xb,l,P⟩:=gV (show t.2.1-1<b.size by lia);obtain⟨xa,I,am⟩:=gV (show t.1-1<a.size by lia);refine cT l<|cT I<|hL.b (f.kp.kind.trans hk) (kb xb P) (ka xa am)<|cO (λhc=>cT I ?_) λhc=>cT l ?_
  ·have m':=f.m.sH p I (by lia) (Below.under (k:=xb) (v.last l<|by lia) λx M y H=>by cases QK.mp M;cases QK.mp H;exact hc)
   refine dM (λz=>QT<|q1 _ _ _ ⟨f.kp,m'.qa p v<|.inl z⟩) λz=>?_;have L:HI κ a b zt _ _ _ (x+(y+1)) XR:=⟨f.kp,m',Vs z,Y,by lia,al,by lia⟩;exact cO (λ_=>QT<|q2 _ _<|L.le<|by lia) λ_=>QT<|U _ _ L
  ·have m':=f.m.sv v l (by lia) (Below.over (k:=xa) (p.last I<|by lia) λx M y H=>by cases QK.mp M;cases QK.mp H;exact RA.mpr hc)
   refine dM (λz=>QT<|q1 _ _ _ ⟨f.kp,m'.Gk p v<|F _ z⟩) λz=>?_;have L:HI κ a b zt _ _ _ (x+(y+1)) XR:=⟨f.kp,m',O,by lia,Z,by lia,by lia⟩;exact cO (λ_=>QT<|q2 _ _<|L.le<|by lia) λ_=>QT<|U _ _ L
 refine mO (eR (λy t g=>HI κ a b zt t.2.2.1 t.1 t.2.1 (x+1+y) g) (λt g=>HI κ a b zt t.2.2.1 t.1 t.2.1 (x+1) g) (λr g=>Kept zt g/\jH κ a b r) f (λt y ap H f Q q1 q2 U=>?_) (λt g f=>by
  have:=f.t;have:=f.la;lia) (λr t g h=>QT<|q1 r _ g h) λt g f=>lP λD T=>QT<|U _ _ ⟨f.kp.trans T,f.m,f.la,f.lb,f.ha,f.hb,f.t⟩)
 extract_lets -underBinder+onlyGivenNames s1 R s2 C s3 J s4 mg s5 ac bc jp
 have f:HI κ a b zt J R C _ _:=f
 clear_value J R C mg ac bc s1
 have O:=f.la;have Y:=f.lb;have Z:=f.ha;have al:=f.hb;have ar:=f.t;obtain⟨xb,l,P⟩:=gV (show C-1<b.size by lia)
 suffices N:∀mg,wpS (model prog w) A E s (jp () mg) Q ap from cO (λ_=>N _) λ_=>N _
 refine λmg=>lP λD T=>?_;have n:=f.kp.trans T;refine cT l (pe hL (n.kind.trans hk) (kb xb P) ka (by lia) (by rw[Uc];exact p.take _) (by lia) λk1 ab B ad=>?_);rw[Uc]at B;rw[T9]at ad;dsimp -zeta only
 extract_lets -underBinder+onlyGivenNames k ac jp
 suffices N:∀o i,jP κ a.toList b.toList (bk o) i C->Below κ (a.toList.take i) [xb]->i<=R->1<=i->wpS (model prog w) A E s (jp () i o) Q D by
  refine cO (λc=>?_) λc=>N _ _ f.m (by rwa [show k1=R by lia]at B) (QJ _) O;have m2:=jP.JZ p f.m ab (Below.under (v.last l<|by lia) ad);exact dM (λG=>QT<|q1 _ _ _ ⟨n,m2.qa p v<|.inl G⟩) λG=>N _ _ m2 B ab<|Vs G
 refine λJ i m2 B l1 l2=>cT l ?_;have m3:=jP.sv v m2 l (by lia) B;refine dM (λz=>QT<|q1 _ _ _ ⟨n,m3.Gk p v<|F _ z⟩) λz=>?_;obtain⟨xc,K,aq⟩:=gV (show i-1<a.size by lia);refine cT K (qj hL (n.kind.trans hk) (ka xc aq) kb (by lia) (by rw[Uc];exact v.take _) (by lia) λk2 an W bl=>?_);rw[Uc]at W;rw[T9]at bl;dsimp -zeta only
 extract_lets -underBinder+onlyGivenNames k bc jp
 suffices N:∀o j,jP κ a.toList b.toList (bk o) i j->Under κ (b.toList.take j) [xc]->j<C->2<=j->wpS (model prog w) A E s (jp () j o) Q D by
  refine cO (λc=>?_) λc=>N _ _ m3 (by rwa [show k2=C-1 by lia]at W) (by lia) (by lia);have X:=jP.Ld v m3 an (Below.over (p.last K<|by lia) bl);exact dM (λG=>QT<|q1 _ _ _ ⟨n,X.Gk p v<|F _ G⟩) λG=>dM (λc7=>QT<|q1 _ _ _ ⟨n,X.qa p v<|.inr c7⟩) λc7=>N _ _ X W (by lia) (by lia)
 refine λJ j X W l3 l4=>cT K ?_;have m5:=jP.sH p X K (by lia) W;refine dM (λz=>QT<|q1 _ _ _ ⟨n,m5.qa p v<|.inl z⟩) λz=>?_;have L:HI κ a b zt _ _ _ (x+1+(y+1)) D:=⟨n,m5,Vs z,l4,by lia,by lia,by lia⟩;exact cO (λ_=>QT<|q2 _ _<|L.le<|by lia) λ_=>QT<|U _ _ L
end
end TS
namespace TS
def yw:Nat->Nat->StateT SortSt Sem (Xk Nat):=sortPriv% PySem.Builtin.countRun
def tW:Nat->Nat->Nat->StateT SortSt Sem Bool:=sortPriv% PySem.Builtin.binarySort
def wJ{xs:Array Keyed}{P G R:Xm Keyed}(e:xs.toList=P++(G++R)){i j:Nat}(l:i=P.length)(a:j=i+G.length):(mirror xs i j<|(j-i) / 2).toList=P++(G.reverse++R):=by
 have g:xs.size=P.length+(G.length+R.length):=by rw[<-QS,e,QC,QC]
 apply UN;intro k;rw[QW,getElem?_mirror_all<|by lia,<-QW,<-QW,e];by_cases h:i<=k/\k<j
 ·rw[QI h,QQ<|by lia,QX<|by lia,QQ<|by lia,QX<|by rw[Sa];lia,Ui<|by lia]
  congr 1
  lia
 ·rw[QG h]
  by_cases f:k<i
  ·rw[QX<|by lia,QX<|by lia]
  ·rw[QQ<|by lia,QQ<|by lia,QQ<|by lia,QQ<|by rw[Sa];lia,Sa]
def xj{xs:Array Keyed}{P T R:Xm Keyed}{x:Keyed}(e:xs.toList=P++(T++x::R)){a d:Nat}(j:a=P.length+T.length)(hd:d=T.length):(bubble xs a d).toList=P++(x::T++R):=by
 have i:xs.size=P.length+(T.length+(R.length+1)):=by rw[<-QS,e,QC,QC];rfl
 apply UN;intro k;rw[QW,getElem?_bubble (by lia) d<|by lia,<-QW,<-QW,<-QW,e];by_cases h:k=a-d
 ·rw[QI h,QQ<|by lia,QQ<|by lia,QQ<|by lia,show a-P.length-T.length=0 by lia,show k-P.length=0 by lia]
  rfl
 ·rw[QG h]
  by_cases g:a-d<k/\k<=a
  ·rw[QI g,QQ<|by lia,QX<|by lia,QQ<|by lia,QX<|by show _<T.length+1;lia,show k-P.length=(k-1-P.length)+1 by lia,Wq]
  ·rw[QG g]
   by_cases f:k<P.length
   ·rw[QX f,QX f]
   ·rw[QQ<|by lia,QQ<|by lia,QQ<|by lia,QQ<|by show T.length+1<=_;lia,show k-P.length-T.length=(k-P.length-(T.length+1))+1 by lia,Wq]
    rfl
theorem pT:∀(m:Xm Keyed) (j off:Nat) (xs:Array Keyed) (P Y R:Xm Keyed),xs.toList=P++(Y++R)->m.length=Y.length->off+j=P.length->
  ((m.zipIdx j).foldl (λ(a:Array Keyed) (x:Keyed×Nat)=>a.setIfInBounds (off+x.2) x.1) xs).toList=P++(m++R)
 |[],j,off,xs,P,Y,R,e,l,_=>by
  rw[List.zipIdx_nil,Wa,e,Rc l.symm]
 |x::m,j,off,xs,P,[],R,e,l,_=>by cases l
 |x::m,j,off,xs,P,y::Y,R,e,l,h=>by
  rw[List.zipIdx_cons,RY];have f:=pT m (j+1) off (xs.setIfInBounds (off+j) x) (P++[x]) Y R (by
   rw[V6,e,h,List.set_append_right _ _<|QJ _,WG,QL];rfl) (Ss l) (by rw[QC,<-h];rfl)
  rw[f,QL];rfl
structure vm(zt Xv:SortSt):Prop where
 kind:kindOf Xv=kindOf zt
 pend:pendingOf Xv=pendingOf zt
 failed:failedOf Xv=failedOf zt
def vm.refl(zt:SortSt):vm zt zt:=⟨rfl,rfl,rfl⟩
def vm.trans(h:vm a b)(h':vm b c):vm a c:=⟨h'.kind.trans h.kind,h'.pend.trans h.pend,h'.failed.trans h.failed⟩
def oY(e:(arrOf zt).toList=P++(G++R))(g:i=P.length)(f:j=i+G.length)(q:∀a,vm zt a->(arrOf a).toList=P++(G.reverse++R)->Q () a):wpS (model prog w) A E s (reverseSlice' i j) Q zt:=by
 rw[reverseSlice'_eq];exact Ve<|q _ ⟨rfl,rfl,rfl⟩<|wJ e g f
def EX(e:(arrOf zt).toList=P++(T++x::R))(f:Yy=P.length+T.length)(hd:dst=P.length)(q:∀a,vm zt a->(arrOf a).toList=P++(x::T++R)->Q () a):wpS (model prog w) A E s (moveDown' Yy dst) Q zt:=by
 rw[moveDown'_eq];exact Ve (q _ ⟨rfl,rfl,rfl⟩<|xj e f<|by lia)
def j7{f:Xk Bool->StateT SortSt Sem β}(l:j5 prog w A E s κ kd)(g:kindOf zt=kd)(e:(arrOf zt).toList[i]? =some x)(a:(arrOf zt).toList[j]? =some y)(h:kq κ x)(m:kq κ y)(q:wpS (model prog w) A E s (f<|some<|κ.blt (key κ x)<|key κ y) Q zt):wpS (model prog w) A E s (ltAt' i j >>= f) Q zt:=by
 rw[ltAt'_eq];rw[QW]at e a;exact RD<|RD<|Vr<|cT e<|cT a<|l x y zt _ g h m q
def oJ{P R:Xm Keyed}{x:Keyed}{i:Nat}(h:i=P.length):(P++x::R)[i]? =some x:=by
 rw[QQ<|by lia,h,WG];rfl
def o3{P C R:Xm Keyed}{x:Keyed}{i:Nat}(h:i=P.length+C.length):(P++((C++[x])++R))[i]? =some x:=by
 rw[QL,<-QL P];exact oJ (by rw[QC];exact h)
def uW{P C R:Xm Keyed}{x:Keyed}{i:Nat}(h:i=P.length+C.length):(P++(C++x::R))[i]? =some x:=by
 rw[<-QL];exact oJ (by rw[QC];exact h)
def dD.snoc(h:dD κ l)(b:Below κ l [x]):dD κ (l++[x]):=h.append (Ts _ _) b
def oO(h:1<=l.length):∃c x,l=c++[x]:=⟨l.dropLast,l.getLast<|by grind,(List.dropLast_concat_getLast _).symm⟩
def dD.Jg(h:dD κ (c++[x]))(b:κ.kle (key κ x) (key κ y)):Below κ (c++[x]) [y]:=λu a v e=>by
 cases QK.mp e;obtain a|a:=Rg.mp a
 ·exact Uj (h.mid u a x<|Rw _) b
 ·grind
structure yP(κ:KeyKind)(XU:SortSt)(P S:Xm Keyed)(n:Nat)(M O R:Xm Keyed)(zt:SortSt):Prop where
 e:(arrOf zt).toList=P++(M++R)
 s:S=O++R
 m:M.length=n
 o:O.length=n
 sm:dD κ M
 tm:cQ κ M O
 cg:vm XU zt
structure Cs(κ:KeyKind)(XU:SortSt)(P S:Xm Keyed)(n neq:Nat)(C G O R:Xm Keyed)(zt:SortSt):Prop where
 e:(arrOf zt).toList=P++((C++G)++R)
 s:S=O++R
 o:O.length=n
 m:C.length+G.length=n
 g:G.length=neq+1
 sc:dD κ C.reverse
 un:Under κ G C
 gg:Below κ G G
 t:cQ κ (C.reverse++G) O
 cg:vm XU zt
def vL{P C G R:Xm Keyed}:P++((C++G)++R)=(P++C)++(G++R):=by rw[QL,QL]
def qr(h:Below κ G G):dD κ G:=VH.mpr λ{a b} e=>h a (e.subset Ru) b<|e.subset<|Ry _<|Rw _
def Under.rev(h:Under κ G C):Under κ G C.reverse:=λx a y e=>h x a y<|List.mem_reverse.mp e
def Cs.up(d:Cs κ XU P S n neq C G O R zt)(a:vm zt Xv)(e:(arrOf Xv).toList=P++((G++C.reverse)++R)):yP κ XU P S n (G++C.reverse) O R Xv:=
 ⟨e,d.s,by have:=d.m;rw[QC,Sa];lia,d.o,(qr d.gg).append d.sc d.un.rev.below,(cQ.swap d.un.rev).trans d.t,d.cg.trans a⟩
def Cs.less(d:Cs κ XU P S n neq C G O (y::R) zt)(u:Under κ [y] G)(g1:1<=G.length)(i:vm zt Xv)(e:(arrOf Xv).toList=(P++C)++(G.reverse++y::R)):Cs κ XU P S (n+1) 0 (C++G.reverse) [y] (O++[y]) R Xv:=by
 have m:=d.m;have r:(C++G.reverse).reverse=G++C.reverse:=by rw[Vi,Vb]
 refine⟨by rw[e,QL,QL,QL];rfl,by rw[d.s,QL];rfl,by rw[QC,d.o];rfl,by rw[QC,Sa];show _+1=_;lia,rfl,?_,?_,?_,?_,d.cg.trans i⟩
 ·rw[r]
  exact(qr d.gg).append d.sc d.un.rev.below
 ·intro x f z a
  obtain a|a:=Rg.mp a
  ·obtain⟨g,h⟩:=List.exists_mem_of_length_pos g1
   exact Tq (u x f g h)<|d.un.below g h z a
  ·exact u x f z<|List.mem_reverse.mp a
 ·intro x f z a
  cases QK.mp f;cases QK.mp a;exact T1 _
 ·rw[r]
  exact((cQ.swap d.un.rev).trans d.t).append (cQ.refl _)
def Cs.same(d:Cs κ XU P S n neq C G O (y::R) zt)(hz:z∈G)(j:κ.kle (key κ z) (key κ y))(i:κ.kle (key κ y) (key κ z)):Cs κ XU P S (n+1) (neq+1) C (G++[y]) (O++[y]) R zt:=by
 have m:=d.m;refine⟨by rw[d.e,<-QL C,QL _ [y]];rfl,by rw[d.s,QL];rfl,by rw[QC,d.o];rfl,by rw[QC];show _+(_+1)=_;lia,by rw[QC,d.g];rfl,d.sc,?_,?_,?_,d.cg⟩
 ·intro u a v f
  obtain a|a:=Rg.mp a
  ·exact d.un u a v f
  ·cases QK.mp a
   exact Vz i<|d.un z hz v f
 ·intro u a v f
  have h:κ.kle (key κ u) (key κ z):=by
   obtain a|a:=Rg.mp a
   ·exact d.gg u a z hz
   ·grind
  refine Uj h ?_;obtain f|f:=Rg.mp f
  ·exact d.gg z hz v f
  ·grind
 ·rw[<-QL]
  exact d.t.append<|cQ.refl _
def zx{lo:Nat}{f:Xk (Xk Nat)×Nat->StateT SortSt Sem β}{g:Nat->Xk (Xk Nat)×Nat->StateT SortSt Sem (ForInStep<|Xk (Xk Nat)×Nat)}(T:j5 prog w A E s κ kd)(L:kindOf XU=kd)(G:∀x∈S,kq κ x)(Yl:lo=P.length)(I:S.length=nrem)(h1:1<=n)(up:yP κ XU P S n M O R zt)
  (e:∀i n,g i (none,n)=ltAt' (lo+n) (lo+n-1) >>= λx=>match x with
   |some b=>if b then pure (.done (none,n)) else pure (.yield (none,n+1))
   |_=>pure<|.done (some none,n))
  (q:∀n M O R a,1<=n->n<=nrem->yP κ XU P S n M O R a->(R=[]\/∃c z y F,M=c++[z]/\R=y::F/\κ.klt (key κ y) (key κ z))->wpS (model prog w) A E s (f (none,n)) Q a):wpS (model prog w) A E s (forIn [n:nrem] (none,n) g >>= f) Q zt:=by
 refine eR (λx m a=>x=m/\n<=m/\∃M O R,yP κ XU P S m M O R a) (λm a=>∃M O R,n<=m/\m<=nrem/\yP κ XU P S m M O R a/\(R=[]\/∃c z y F,M=c++[z]/\R=y::F/\κ.klt (key κ y) (key κ z))) (λ_ _=>False) ⟨rfl,QJ _,_,_,_,up⟩ ?_ ?_ nofun λm a ⟨M,O,R,m1,J,h,Y⟩=>q m M O R a (by lia) J h Y
 ·rintro _ x a X ⟨rfl,l,M,O,R,p,j,r,H,B,D,C⟩ Q q1 q2 N
  rw[e];cases R with
  |nil=>rw[j,Rm,H]at I;lia
  |cons y R=>
  obtain⟨c,z,rfl⟩:=oO (show 1<=M.length by lia);have Z:kq κ z:=G z (by rw[j];exact Ra _<|D.mem.mp<|QP _<|Rw _);have K:kq κ y:=G y (by rw[j];exact QP _ Ru);rw[QC]at r;have U:c.length+1=x:=r;refine j7 T (C.kind.trans L) (by rw[p];exact uW<|by rw[QC];show _=_+(c.length+1);lia) (by rw[p];exact o3<|by lia) K Z<|cO (λv=>?_) λv=>?_
  ·exact QT (q2 _ _ ⟨c++[z],O,y::R,l,Vo X,⟨p,j,by rw[QC];exact r,H,B,D,C⟩,.inr ⟨c,z,y,R,rfl,rfl,v⟩⟩)
  ·exact QT (N _ _ ⟨rfl,by lia,(c++[z])++[y],O++[y],R,by rw[p,QL _ [y]];rfl,by rw[j,QL];rfl,by rw[QC,QC];show c.length+1+1=_;lia,by rw[QC];show O.length+1=_;lia,B.snoc<|B.Jg<|RA.mpr v,D.append<|cQ.refl _,C⟩)
 ·rintro _ a ⟨rfl,l,M,O,R,h⟩
  have W:=h.s;rw[W,QC,h.o]at I;exact⟨M,O,R,l,by lia,h,.inl<|Rc<|by lia⟩
def LC [Decidable c]{F:Unit->StateT SortSt Sem β}(R:SortSt->Prop)(h:∀a,R a->wpS (model prog w) A E s (F ()) Q a)(e:c->wpS (model prog w) A E s m (λ_ a=>R a) zt)(f:¬c->R zt):wpS (model prog w) A E s (if c then m >>= F else F ()) Q zt:=cO (λc=>RD<|wpS_mono (e c) λ_ a=>h a) λc=>h zt<|f c
def p9{lo:Nat}(I:j5 prog w A E s κ kd)(F:kindOf zt=kd)(D:∀x∈S,kq κ x)(YG:(arrOf zt).toList=P++S)(T:lo=P.length)(N:S.length=nrem)(h1:1<=nrem)
  (q:∀n p M O R,1<=n->n<=nrem->yP κ zt P S n M O R p->Q (some n) p):wpS (model prog w) A E s (yw lo nrem) Q zt:=by
 have a0:∃M O R,yP κ zt P S 1 M O R zt:=by
  cases S with
  |nil=>grind
  |cons x R=>exact⟨[x],[x],R,YG,rfl,rfl,rfl,Ts _ _,cQ.refl _,vm.refl _⟩
 obtain⟨M,O,R,a0⟩:=a0;refine zx I F D T N (QJ 1) a0 (λ_ _=>rfl) λn M O R B X W h hR=>dM (λ_=>QT<|q n B M O R X W h) λc1=>?_
 extract_lets -underBinder+onlyGivenNames jp
 obtain rfl|⟨c,z,y,R,rfl,rfl,lt⟩:=hR
 ·exfalso
  rw[h.s,Rm,h.o]at N;exact c1 N
 have hm:=h.m;rw[QC]at hm;have Y:c.length+1=n:=hm
 suffices hj:∀{C j},Cs κ zt P S (n+1) 0 C [y] (O++[y]) R j->wpS (model prog w) A E s (jp ()) Q j by
  have start:∀{C:Xm Keyed}{j:SortSt},vm zt j->(arrOf j).toList=P++(C++y::R)->C.reverse=c++[z]->(∀u∈c++[z],κ.kle (key κ z)<|key κ u)->Cs κ zt P S (n+1) 0 C [y] (O++[y]) R j:=λ{C j} cg e r al=>by
   have cl:C.length=n:=by rw[<-Sa,r,QC];exact Y
   refine⟨by rw[e,QL];rfl,by rw[h.s,QL];rfl,by rw[QC,h.o];rfl,by rw[cl];rfl,rfl,by rw[r];exact h.sm,λa U b l=>?_,λa U b l=>?_,by rw[r];exact h.tm.append<|cQ.refl _,cg⟩
   ·cases QK.mp U
    exact Tq lt (al b<|by grind)
   ·cases QK.mp U
    cases QK.mp l;exact T1 _
  refine cO (λJ=>?_) λJ=>?_
  ·obtain⟨f,Z,rfl⟩:∃f Z,c=f::Z:=by
    cases c with
    |nil=>grind
    |cons f Z=>grind
   have H:=λu L=>D u (by rw[h.s];exact Ra _<|h.tm.mem.mp L);exact j7 I (h.cg.kind.trans F) (x:=f) (y:=z) (by rw[h.e];exact oJ T) (by rw[h.e];exact o3<|by lia) (H f Ru) (H z<|QP _<|Rw _) (cO (λl=>QT<|q n B _ _ _ X W h) λl=>RD<|oY h.e T (by grind) λj am e2=>hj<|start (h.cg.trans am) e2 (Vb _) λu L=>Uj (show κ.kle (key κ z) (key κ f) from RA.mpr l)<|dD.head h.sm f (Rw _) u L)
  ·have c0:c=[]:=Rc (by lia)
   subst c0;exact hj (start h.cg h.e rfl λu L=>by
    cases QK.mp L;exact T1 _)
 refine λ{C j} d0=>mO<|eR (λx t p=>x=t.1/\∃C G O R,Cs κ zt P S t.1 t.2 C G O R p) (λt p=>∃C G O R,Cs κ zt P S t.1 t.2 C G O R p) (λ_ _=>False) ⟨rfl,_,_,_,_,d0⟩ ?_ (λ_ _ h=>h.2) nofun ?_
 ·rintro t _ p hx ⟨rfl,C,G,O,R,d⟩ Q q1 q2 q3
  cases R with
  |nil=>rw[d.s,Rm,d.o]at N;lia
  |cons y R=>
  have K:=d.g;have dm:=d.m;obtain⟨g,z,rfl⟩:=oO (show 1<=G.length by lia);have hz:z∈g++[z]:=QP _<|Rw _;have kz:kq κ z:=D z (by rw[d.s];exact Ra _<|d.t.mem.mp<|QP _ hz);have ky:kq κ y:=D y (by rw[d.s];exact QP _ Ru);rw[QC]at K dm;have as:g.length+1=t.2+1:=K;have av:C.length+(g.length+1)=t.1:=dm;have py:(arrOf p).toList[lo+t.1]? =some y:=by rw[d.e];exact uW (by rw[QC,QC];show _=_+(C.length+(g.length+1));lia)
  have pz:(arrOf p).toList[lo+t.1-1]? =some z:=by rw[d.e,<-QL C];exact o3 (by rw[QC];lia)
  refine j7 I (d.cg.kind.trans F) py pz ky kz<|cO (λl=>?_) λl=>j7 I (d.cg.kind.trans F) pz py kz ky<|cO (λ_=>QT<|q2 _ _ ⟨_,_,_,_,d⟩) λan=>QT<|q3 _ _ ⟨rfl,_,_,_,_,d.same hz (RA.mpr l)<|RA.mpr an⟩;have u:Under κ [y] (g++[z]):=λa U b aq=>by
   cases QK.mp U;exact Tq (show κ.klt _ _ from l)<|d.gg z hz b aq
  refine cO (λJ=>?_) λJ=>?_
  ·exact RD (oY (P:=P++C) (G:=g++[z]) (R:=y::R) (d.e.trans vL) (by rw[QC];lia) (by rw[QC];show _=_+(g.length+1);lia) λv ad e3=>QT<|q3 _ _ ⟨rfl,_,_,_,_,d.less u (by rw[QC];show 1<=_+1;lia) ad e3⟩)
  ·have g0:g=[]:=Rc (by lia)
   subst g0;exact QT<|q3 _ _ ⟨rfl,_,_,_,_,d.less u (QJ 1) (vm.refl _)<|d.e.trans vL⟩
 ·rintro t v ⟨C,G,O,R,d⟩
  have K:=d.g;have dm:=d.m;refine LC (λi=>vm v i/\(arrOf i).toList=P++(C++G.reverse++R)) (λi h=>?_) (λJ=>oY (P:=P++C) (G:=G) (R:=R) (d.e.trans vL) (by rw[QC];lia) (by lia) λi ac e4=>⟨ac,e4.trans vL.symm⟩) λJ=>⟨vm.refl _,?_⟩
  ·exact RD (oY h.2 T (by rw[QC,Sa];lia) λar ap e5=>zx I F D T N (by lia) (d.up (h.1.trans ap)<|by rw[e5,Vi,Vb]) (λ_ _=>rfl) λn M O R ab X W h _=>QT<|q n ab M O R X W h)
  ·obtain⟨g,z,rfl⟩:=oO (show 1<=G.length by lia)
   rw[QC]at K;rw[Rc (show g.length=0 by have:g.length+1=t.2+1:=K;lia)]at d ⊢;exact d.e
def rX:Nat->StateT SortSt Sem Bool:=sortPriv% PySem.Builtin.mergeAt
def dD.get{l:Xm Keyed}(h:dD κ l){i j:Nat}{x y:Keyed}(e:i<=j)(f:l[i]? =some x)(a:l[j]? =some y):κ.kle (key κ x) (key κ y):=by
 have:=dD.at (κ:=κ) (l:=l) (b:=0) (n:=l.length) (i:=i) (j:=j) (x:=x) (y:=y) (by rw[Uc,RR];exact h) e (gI0.mp a).1 (by rw[T9];exact f) (by rw[T9];exact a);exact this
def yP.ins{j:SortSt}{P S M O R:Xm Keyed}{k l:Nat}{zt g:SortSt}{y:Keyed}(h:yP κ j P S k M O (y::R) zt)(b:Below κ (M.take l) [y])(u:Under κ [y] (M.drop l))(q:vm zt g)(e:(arrOf g).toList=(P++M.take l)++(y::M.drop l++R)):yP κ j P S (k+1) (M.take l++(y::M.drop l)) (O++[y]) R g:=by
 have v:=h.m;have n:=RO l M;have f:=h.sm;rw[<-n]at f;refine⟨by rw[e,<-vL],by rw[h.s,QL];rfl,?_,by rw[QC,h.o];rfl,?_,?_,h.cg.trans q⟩
 ·grind
 ·refine f.left.append (VN.mpr ⟨λz r=>KeyOrd.kle_of_klt<|u y (Rw _) z r,f.right⟩) λa p c i=>?_
  obtain rfl|i:=Rf.mp i
  ·exact b a p c<|Rw _
  ·exact f.mid a p c i
 ·have t:cQ κ (M.take l++(y::M.drop l)) (M++[y]):=by
   have:cQ κ (M.take l++([y]++M.drop l)) (M.take l++(M.drop l++[y])):=(cQ.refl _).append<|cQ.swap u
   rwa [<-QL (M.take l) (M.drop l),n]at this
  exact t.trans<|h.tm.append<|cQ.refl _
def m6(U:j5 prog w A E s κ kd){lo n ok:Nat}{D zt:SortSt}{Q:Bool->SortSt->Prop}{P S M O R:Xm Keyed}(N:kindOf D=kd)(J:∀x∈S,kq κ x)(Yl:lo=P.length)(Y:n<=S.length)(h1:1<=ok)(Z:ok<=n)(h:yP κ D P S ok M O R zt)
  (q:∀g M O R,yP κ D P S n M O R g->Q true g):wpS (model prog w) A E s (tW lo n ok) Q zt:=by
 refine eR (λk _ g=>∃M O R,yP κ D P S k M O R g) (λ_ g=>∃M O R,yP κ D P S n M O R g) (λ_ _=>False) ⟨M,O,R,by rw[show max ok 1=ok by lia];exact h⟩ ?_ (λ_ g h=>by rwa [show max (max ok 1) n=n by lia]at h) nofun (by
  rintro _ g ⟨M,O,R,h⟩;exact QT<|q g M O R h)
 rintro _ k j L ⟨M,O,R,h⟩ Q q1 K F;cases R with
 |nil=>have e:=h.s;rw[Rm]at e;rw[e,h.o]at Y;lia
 |cons y R=>
 have hM:=h.m;refine eR (λx t g=>j=g/\t.1<=t.2/\t.2<=k/\t.2-t.1<=k-x/\(∀i u,i<t.1->M[i]? =some u->κ.kle (key κ u) (key κ y))/\(∀i u,t.2<=i->M[i]? =some u->κ.klt (key κ y) (key κ u)))
  (λt g=>j=g/\t.1<=k/\(∀i u,i<t.1->M[i]? =some u->κ.kle (key κ u) (key κ y))/\(∀i u,t.1<=i->M[i]? =some u->κ.klt (key κ y) (key κ u))) (λ_ _=>False) ⟨rfl,RF _,QJ _,QJ _,λi u f=>by lia,λi u f C=>by have:=(gI0.mp C).1;lia⟩ ?_ ?_ nofun ?_
 ·rintro t x _ hx ⟨rfl,lr,T,rl,B,v⟩ Q q1 K F
  refine cO (λX=>QT<|K _ _ ⟨rfl,by lia,B,λi u f=>v i u<|by lia⟩) λX=>?_;obtain⟨z,G⟩:∃z,M[(t.1+t.2) / 2]? =some z:=⟨_,QB<|by lia⟩;exact j7 U (h.cg.kind.trans N) (x:=y) (y:=z) (by rw[h.e];exact uW<|by lia) (by rw[h.e,QQ<|by lia,QX<|by lia,<-G];congr 1;lia) (J y<|by rw[h.s];exact QP _ Ru) (J z<|by rw[h.s];exact Ra _<|h.tm.mem.mp<|QH G) (cO (λp=>QT<|F _ _ ⟨rfl,by lia,by lia,by lia,B,λi u f C=>Tq (show κ.klt _ _ from p)<|h.sm.get f G C⟩) λp=>QT<|F _ _ ⟨rfl,by lia,by lia,by lia,λi u f C=>Uj (h.sm.get (by lia) C G)<|show κ.kle _ _ from RA.mpr p,v⟩)
 ·rintro t _ ⟨rfl,lr,T,rl,B,v⟩
  exact⟨rfl,by lia,B,λi u f=>v i u<|by lia⟩
 ·rintro⟨l,r⟩ _ ⟨rfl,lk,B,v⟩
  dsimp only at lk B v;have e1:(arrOf j).toList=(P++M.take l)++(M.drop l++y::R):=by rw[h.e,<-vL,RO]
  have tl:(M.take l).length=l:=by rw[RK];lia
  have dl:(M.drop l).length=k-l:=by rw[So];lia
  refine RD (EX e1 (by grind) (by grind) λXR H W=>QT<|F _ _ ⟨_,_,_,h.ins (l:=l) (λa I b p=>?_) (λb p a I=>?_) H W⟩)
  ·cases QK.mp p
   obtain⟨i,f⟩:=QZ I;have il:=(gI0.mp f).1;rw[Sl<|by lia]at f;exact B i a (by lia) f
  ·cases QK.mp p
   obtain⟨i,f⟩:=QZ I;rw[TB]at f;exact v (l+i) a (by lia) f
def Bg{L P X Y:Xm Keyed}(e:L=P++(X++Y)){i m:Nat}(a:i=P.length)(hm:m<=X.length):(L.drop i).take m=X.take m:=by grind
def Lh{L P X Y:Xm Keyed}(e:L=P++(X++Y)){i k n:Nat}(a:i=P.length)(f:n=X.length)(g:k<=n):(L.drop<|i+k).take (n-k)=X.drop k:=by
 have:L=(P++X.take k)++(X.drop k++Y):=by rw[e,<-vL,RO]
 rw[Bg this (by grind)<|by grind];exact R7 (by grind)
def BJ{A1 A2 B1 B2 M:Xm Keyed}(g:dD κ (A1++A2))(j:dD κ (B1++B2))(m:Below κ A1 (B1++B2))(i:Below κ (A1++A2) B2)(n:dD κ M)(f:cQ κ M (A2++B1)):dD κ (A1++(M++B2))/\cQ κ (A1++(M++B2)) ((A1++A2)++(B1++B2)):=by
 have l:∀x∈M,x∈A2\/x∈B1:=λx e=>Rg.mp<|f.mem.mp e;refine⟨g.left.append (n.append j.right λx e y a=>?_) λx e y a=>?_,?_⟩
 ·exact(l x e).elim (λh=>i x (QP _ h) y a) λh=>j.mid x h y a
 ·obtain a|a:=Rg.mp a
  ·exact(l y a).elim (λh=>g.mid x e y h) λh=>m x e y<|Ra _ h
  ·exact i x (Ra _ e) y a
 ·have:cQ κ (A1++(M++B2)) (A1++((A2++B1)++B2)):=(cQ.refl _).append (f.append<|cQ.refl _)
  rw[QL A1 A2,<-QL A2 B1 B2];exact this
def Hi{l:Xm Keyed}(h:1<=l.length):∃x r,l=x::r:=by
 cases l with
 |nil=>cases h
 |cons x r=>grind
structure Mg(κ:KeyKind)(zt Xv:SortSt)(P X Y R:Xm Keyed)(pend:Array (Nat×Nat×Nat)):Prop where
 kind:kindOf Xv=kindOf zt
 failed:failedOf Xv=failedOf zt
 pend:pendingOf Xv=pend
 ex:∃M,(arrOf Xv).toList=P++(M++R)/\dD κ M/\cQ κ M (X++Y)
def Hq{σ:Type}{M:Model}{A:Xl}{E:Xo}{s:Xh}{a zt:σ}{Q:PUnit->σ->Prop}(h:Q ⟨⟩ a):wpS M A E s (set a:StateT σ Sem PUnit) Q zt:=by
 unfold wpS;rw[StateT.run_set];exact QA ⟨rfl,h⟩
def Kl [Decidable c]{F:α->StateT SortSt Sem β}(R:α->SortSt->Prop)(h:∀r a,R r a->wpS (model prog w) A E s (F r) Q a)(e:wpS (model prog w) A E s m1 R zt)(f:wpS (model prog w) A E s m2 R zt):wpS (model prog w) A E s (if c then m1 >>= F else m2 >>= F) Q zt:=cO (λ_=>RD<|wpS_mono e h) λ_=>RD<|wpS_mono f h
def ro(M:j5 prog w A E s κ kd){zt:SortSt}{Q:Bool->SortSt->Prop}{P X Y R:Xm Keyed}{i l na pa n nb pb:Nat}(L:kindOf zt=kd)(hf:failedOf zt=none)(K:∀x∈(arrOf zt).toList,kq κ x)(p1:(pendingOf zt)[i]? =some (l,na,pa))(p2:(pendingOf zt)[i+1]? =some (n,nb,pb))
  (e:(arrOf zt).toList=P++(X++(Y++R)))(S:l=P.length)(W:na=X.length)(hb:n=l+na)(hy:nb=Y.length)(x1:1<=na)(y1:1<=nb)(B:dD κ X)(v:dD κ Y)
  (q:∀O,Mg κ zt O P X Y R (((pendingOf zt).setIfInBounds i (l,na+nb,pa)).eraseIdxIfInBounds<|i+1)->Q true O):wpS (model prog w) A E s (rX i) Q zt:=by
 have sz:(arrOf zt).size=P.length+(X.length+(Y.length+R.length)):=by rw[<-QS,e,QC,QC,QC]
 have G:(arrOf zt).toList=(P++X)++(Y++R):=by rw[e,QL]
 obtain⟨Z,Y',N⟩:=Hi (show 1<=Y.length by lia);obtain⟨c,z,F⟩:=oO (show 1<=X.length by lia);have cl:c.length+1=na:=by rw[W,F,QC];rfl
 have ey:(arrOf zt)[n]? =some Z:=by
  rw[<-QW,G,N];exact oJ (by grind)
 have ez:∀k,k<=na->0<na-k->(arrOf zt)[l+k+(na-k)-1]? =some z:=λk h1 h2=>by
  rw[<-QW,e,F];exact o3 (by lia)
 have kX:=λu y=>K u (by rw[e];exact QP _<|Ra _ y);have kY:=λu y=>K u (by rw[e];exact QP _<|QP _<|Ra _ y);have I:Below κ [Z] Y:=by rw[N]at v ⊢;exact v.head
 have g:Below κ X [z]:=by rw[F]at B ⊢;exact B.Jg<|T1 _
 refine RD<|Vr ?_;rw[p1,p2];refine RD (Hq<|cT ey<|pe M L (kY Z<|by rw[N];exact Ru) K (show l+na<=(arrOf zt).size by lia) (by rw[Bg e S<|by lia];exact B.take _) (by lia) λk o bl un=>?_);rw[Bg e S<|by lia]at bl;rw[Lh e S W o]at un;refine dM (λc1=>?_) λc1=>?_
 ·rw[R7<|by lia]at bl
  exact QT (q _ ⟨rfl,rfl,rfl,X++Y,by rw[QL];exact e,B.append v<|Below.over bl I,cQ.refl _⟩)
 refine cT (ez k o<|by lia) (qj M L (kX z<|by rw[F];exact QP _<|Rw _) K (show n+nb<=(arrOf zt).size by lia) (by rw[Bg G (by rw[QC];lia)<|by lia];exact v.take _) (by lia) λm hm ul j=>?_);rw[Bg G (by rw[QC];lia)<|by lia]at ul;rw[Lh G (by rw[QC];lia) hy hm]at j;refine dM (λc2=>?_) λc2=>?_
 ·rw[c2,Uc]at j
  exact QT (q _ ⟨rfl,rfl,rfl,X++Y,by rw[QL];exact e,B.append v<|Below.over g j,cQ.refl _⟩)
 have f:((arrOf zt).extract (l+k) n).toList=X.drop k:=by
  rw[Us];have:=Lh e S W o
  rwa [show na-k=n-(l+k) by lia]at this
 have a:((arrOf zt).extract n<|n+m).toList=Y.take m:=by
  rw[pL];exact Bg G (by grind) (by lia)
 extract_lets -underBinder+onlyGivenNames ax ay
 have f:ax.toList=_:=f;have a:ay.toList=_:=a
 clear_value ax ay
 have T:ax.size=na-k:=by rw[<-QS,f,So];lia
 have ab:ay.size=m:=by rw[<-QS,a,RK];lia
 have ka:=λu y=>kX u (Ut<|by rw[<-f];exact y);have kb:=λu y=>kY u (SI<|by rw[<-a];exact y);have J:dD κ ax.toList:=by rw[f];exact B.drop k
 have H:dD κ ay.toList:=by rw[a];exact v.take m
 have u1:Under κ (ay.toList.take 1) ax.toList:=by
  rw[a,f,List.take_take,N,UC<|by lia];exact un
 have u2:Under κ ay.toList (ax.toList.drop<|ax.size-1):=by
  rw[a,f,T,drop_drop,F,List.drop_left'<|by lia];exact ul
 have xp:1<=ax.size:=by lia
 have yp:1<=ay.size:=by lia
 refine Kl (λr h=>Kept _ h/\jH κ ax ay r) ?_ (wR M L ka kb J H xp yp u1 u2 λr O=>.intro) (vX M L ka kb J H xp yp u1 u2 λr O=>.intro);rintro r h ⟨C,U⟩;have rl:r.toList.length=(X.drop k++Y.take m).length:=by rw[<-f,<-a];exact U.2.perm.length_eq
 refine RD<|Ve<|RD<|Vr<|QT ?_;show Q (failedOf h).isNone _;rw[C.failed.trans hf];have D:=U.2;rw[f,a]at D;have p:=BJ (A1:=X.take k) (A2:=X.drop k) (B1:=Y.take m) (B2:=Y.drop m) (by rw[RO];exact B) (by rw[RO];exact v) (by rw[RO];exact Below.over bl I) (by rw[RO];exact Below.over g j) U.1 D;rw[RO,RO]at p;refine q _ ⟨C.kind,C.failed,C.pend,_,?_,p.1,p.2⟩;refine(pT r.toList 0 (l+k) (arrOf h) (P++X.take k) (X.drop k++Y.take m) (Y.drop m++R) ?_ rl ?_).trans ?_
 ·rw[C.arr,<-vL,<-QL (X.take k),RO,QL X,<-QL (Y.take m),RO]
  exact e
 ·rw[QC,RK]
  lia
 ·rw[QL P,QL<|X.take k,QL r.toList]
def yB:StateT SortSt Sem Unit:=sortPriv% PySem.Builtin.sortRuns
def iz(κ:KeyKind):Nat->Xm (Nat×Nat×Nat)->Xm (Xm Keyed)->Prop
 |_,[],[]=>True
 |off,p::ps,r::rs=>p.1=off/\p.2.1=r.length/\1<=p.2.1/\dD κ r/\iz κ (off+p.2.1) ps rs
 |_,_,_=>False
theorem iz.merge:∀(i off:Nat) (ps:Xm (Nat×Nat×Nat)) (rs:Xm (Xm Keyed)),iz κ off ps rs->i+1<ps.length->
  ∃e X Y h g a j m f n,ps[i]? =some (g,a,j)/\ps[i+1]? =some (m,f,n)/\rs=e++(X::Y::h)/\g=off+e.flatten.length/\a=X.length/\m=g+a/\f=Y.length/\1<=a/\1<=f/\dD κ X/\dD κ Y/\
   ∀M,dD κ M->M.length=a+f->iz κ off ((ps.set i (g,a+f,j)).eraseIdx<|i+1) (e++(M::h))
 |0,off,[],_,_,l=>by cases l
 |0,off,[p],_,_,l=>by have:1<1:=l;lia
 |0,off,(g,a,j)::(m,f,n)::ps,[],t,_=>t.elim
 |0,off,(g,a,j)::(m,f,n)::ps,[X],t,_=>t.2.2.2.2.elim
 |0,off,(g,a,j)::(m,f,n)::ps,X::Y::rs,⟨h1,h2,h3,h4,h5,h6,h7,h8,h9⟩,_=>by
  subst h1;refine⟨[],X,Y,rs,g,a,j,m,f,n,rfl,rfl,rfl,rfl,h2,h5,h6,h3,h7,h4,h8,λM o s=>⟨rfl,s.symm,?_,o,?_⟩⟩
  ·grind
  ·grind
 |i+1,off,[],_,_,l=>by cases l
 |i+1,off,p::ps,[],t,_=>t.elim
 |i+1,off,p::ps,r::rs,⟨h1,h2,h3,h4,h5⟩,l=>by
  obtain⟨e,X,Y,h,g,a,j,m,f,n,C,z,E,F,D,x,A,B,y,w,q,v⟩:=iz.merge i _ ps rs h5<|WH l;refine⟨r::e,X,Y,h,g,a,j,m,f,n,C,z,by rw[E];rfl,?_,D,x,A,B,y,w,q,λM o s=>⟨h1,h2,h3,h4,v M o s⟩⟩;rw[SA,QC,<-h2];lia
theorem iz.push:∀{off:Nat}{ps:Xm (Nat×Nat×Nat)}{rs:Xm (Xm Keyed)}{M:Xm Keyed}{pw:Nat},iz κ off ps rs->dD κ M->1<=M.length->iz κ off (ps++[(off+rs.flatten.length,M.length,pw)]) (rs++[M])
 |off,[],[],M,pw,_,sm,ml=>⟨by rw[List.flatten_nil];rfl,rfl,ml,sm,trivial⟩
 |off,[],_::_,M,pw,t,_,_=>t.elim
 |off,_::_,[],M,pw,t,_,_=>t.elim
 |off,p::ps,r::rs,M,pw,⟨h1,h2,h3,h4,h5⟩,sm,ml=>by
  refine⟨h1,h2,h3,h4,?_⟩;have:=iz.push (pw:=pw) h5 sm ml;rw[SA,QC,<-h2,<-Nat.add_assoc];exact this
theorem iz.power:∀(i:Nat){off:Nat}{ps:Xm (Nat×Nat×Nat)}{rs:Xm (Xm Keyed)}{pw:Nat},iz κ off ps rs->iz κ off (ps.modify i λp=>(p.1,p.2.1,pw)) rs
 |0,off,[],[],pw,_=>trivial
 |0,off,[],_::_,pw,t=>t.elim
 |0,off,_::_,[],pw,t=>t.elim
 |0,off,p::ps,r::rs,pw,t=>t
 |i+1,off,[],[],pw,_=>trivial
 |i+1,off,[],_::_,pw,t=>t.elim
 |i+1,off,_::_,[],pw,t=>t.elim
 |i+1,off,p::ps,r::rs,pw,⟨h1,h2,h3,h4,h5⟩=>⟨h1,h2,h3,h4,iz.power i h5⟩
theorem iz.len:∀{off:Nat}{ps:Xm (Nat×Nat×Nat)}{rs:Xm (Xm Keyed)},iz κ off ps rs->ps.length<=rs.flatten.length
 |off,[],[],_=>RF _
 |off,[],_::_,t=>t.elim
 |off,_::_,[],t=>t.elim
 |off,p::ps,r::rs,⟨h1,h2,h3,h4,h5⟩=>by
  have:=iz.len h5;rw[SA,QC,<-h2];show ps.length+1<=_;lia
def iz.one{ps:Xm (Nat×Nat×Nat)}{a:Xm (Xm Keyed)}{off:Nat}(t:iz κ off ps a)(h:ps.length<=1):dD κ a.flatten:=by
 cases ps with
 |nil=>
  cases a with
  |nil=>exact List.Pairwise.nil
  |cons r a=>exact t.elim
 |cons p ps=>
  cases ps with
  |cons f ps=>grind
  |nil=>
   cases a with
   |nil=>exact t.elim
   |cons r a=>
    cases a with
    |nil=>rw[SA,List.flatten_nil,Rm];exact t.2.2.2.1
    |cons e a=>exact t.2.2.2.2.elim
def J3{c:Prop} [Decidable c]{n:Nat}(h:1<n):(if c then n-2-1 else n-2)+1<n:=by grind
structure RI(κ:KeyKind)(kd:SortKind)(a₀:Xm Keyed)(lo:Nat)(S:Xm Keyed)(zt:SortSt):Prop where
 kind:kindOf zt=kd
 failed:failedOf zt=none
 stb:cQ κ (arrOf zt).toList a₀
 ex:∃Rs,iz κ 0 (pendingOf zt).toList Rs/\(arrOf zt).toList=Rs.flatten++S/\Rs.flatten.length=lo
def RI.keys{a S:Xm Keyed}{lo:Nat}{zt:SortSt}(h:RI κ kd a lo S zt)(e:∀x∈a,kq κ x):∀x∈(arrOf zt).toList,kq κ x:=λx f=>e x<|h.stb.mem.mp f
def kG(P:j5 prog w A E s κ kd){a S:Xm Keyed}{lo i:Nat}{zt:SortSt}{Q:Bool->SortSt->Prop}(K:∀x∈a,kq κ x)(h:RI κ kd a lo S zt)(G:i+1<(pendingOf zt).size)
  (q:∀f,RI κ kd a lo S f->(pendingOf f).size+1=(pendingOf zt).size->Q true f):wpS (model prog w) A E s (rX i) Q zt:=by
 obtain⟨Rs,t,e,l⟩:=h.ex;obtain⟨g,X,Y,j,U,z,W,sb,r,Z,T,L,rfl,B,H,I,y,R,J,p,n,o⟩:=t.merge i 0 _ _ (by rw[QS];exact G);rw[T9]at B;have v:(arrOf zt).toList=g.flatten++(X++(Y++(j.flatten++S))):=by
  rw[e,VA,SA,SA,QL,QL,QL]
 refine ro P h.kind h.failed (h.keys K) (by rw[<-QW];exact T) (by rw[<-QW];exact L) v B H I y R J p n λf m=>?_;obtain⟨M,C,O,D⟩:=m.ex;have N:M.length=z+r:=by rw[D.perm.length_eq,QC,H,y]
 have F:(pendingOf f).toList=((pendingOf zt).toList.set i (U,z+r,W)).eraseIdx (i+1):=by
  rw[m.pend,Array.toList_eraseIdxIfInBounds,V6]
 refine q f ⟨m.kind.trans h.kind,m.failed.trans h.failed,cQ.trans ?_ h.stb,g++(M::j),by rw[F];exact o M O N,?_,?_⟩ ?_
 ·rw[C,v,<-QL X]
  exact(cQ.refl _).append (D.append<|cQ.refl _)
 ·rw[C,VA,SA,QL,QL]
 ·rw[<-l,VA,VA,SA,SA,SA,QC,QC,QC,QC,QC]
  lia
 ·rw[<-QS,F,List.length_eraseIdx,QI<|by rw[List.length_set,QS];exact G,List.length_set,QS]
  lia
def RI.push{a M R:Xm Keyed}{lo n:Nat}{zt g:SortSt}(h:RI κ kd a lo (M++R) zt)(m:dD κ M)(i:M.length=n)(p:1<=n)(k:kindOf g=kindOf zt)(f:failedOf g=failedOf zt)(j:arrOf g=arrOf zt)(o:pendingOf g=(pendingOf zt).push (lo,n,0)):RI κ kd a (lo+n) R g:=by
 obtain⟨Rs,t,e,l⟩:=h.ex;refine⟨k.trans h.kind,f.trans h.failed,by rw[j];exact h.stb,Rs++[M],?_,?_,?_⟩
 ·rw[o,VG]
  have:=t.push (pw:=0) m (by lia)
  rwa [T9,l,i]at this
 ·grind
 ·grind
def RI.power{a S:Xm Keyed}{lo i pw:Nat}{zt g:SortSt}(h:RI κ kd a lo S zt)(k:kindOf g=kindOf zt)(f:failedOf g=failedOf zt)(j:arrOf g=arrOf zt)(m:pendingOf g=(pendingOf zt).modify i λp=>(p.1,p.2.1,pw)):RI κ kd a lo S g:=by
 obtain⟨Rs,t,e,l⟩:=h.ex;exact⟨k.trans h.kind,f.trans h.failed,by rw[j];exact h.stb,Rs,by rw[m,Array.toList_modify];exact t.power i,by rw[j];exact e,l⟩
def RI.Ia{a M R:Xm Keyed}{lo n i pw:Nat}{zt e:SortSt}(h:RI κ kd a lo (M++R) zt)(m:dD κ M)(g:M.length=n)(l:1<=n)(k:kindOf e=kindOf zt)(f:failedOf e=failedOf zt)(j:arrOf e=arrOf zt)(o:pendingOf e=((pendingOf zt).modify i λp=>(p.1,p.2.1,pw)).push (lo,n,0)):RI κ kd a (lo+n) R e:=
 RI.push (zt:=setPending zt<|(pendingOf zt).modify i λp=>(p.1,p.2.1,pw)) (h.power rfl rfl rfl rfl) m g l k f j o
def RI.asc{a S M O R:Xm Keyed}{lo n:Nat}{zt f:SortSt}{Rs:Xm (Xm Keyed)}(h:RI κ kd a lo S zt)(t:iz κ 0 (pendingOf zt).toList Rs)(e:(arrOf zt).toList=Rs.flatten++S)(l:Rs.flatten.length=lo)(as:yP κ zt Rs.flatten S n M O R f):RI κ kd a lo (M++R) f:=by
 refine⟨as.cg.kind.trans h.kind,as.cg.failed.trans h.failed,cQ.trans ?_ h.stb,Rs,by rw[as.cg.pend];exact t,as.e,l⟩;rw[as.e,e,as.s];exact(cQ.refl _).append (as.tm.append<|cQ.refl _)
def jV(J:j5 prog w A E s κ kd){zt:SortSt}{Q:Unit->SortSt->Prop}(hk:kindOf zt=kd)(hf:failedOf zt=none)(hp:pendingOf zt= #[])(I:∀x∈(arrOf zt).toList,kq κ x)
  (q:∀f,failedOf f=none->dD κ (arrOf f).toList->cQ κ (arrOf f).toList (arrOf zt).toList->Q () f):wpS (model prog w) A E s yB Q zt:=by
 obtain⟨a,j⟩:∃a,a=(arrOf zt).toList:=⟨_,rfl⟩;rw[<-j]at I q;have r:∀{g S f},RI κ kd a g S f->g+S.length=(arrOf zt).size:=λ{g S f} h=>by
  obtain⟨Rs,t,e,l⟩:=h.ex;rw[<-QS,<-j,<-h.stb.perm.length_eq,e,QC,l]
 refine RD (Vr<|eR (λx g f=>x<=g/\∃S,RI κ kd a g S f) (λg f=>RI κ kd a g [] f) (λ_ _=>False) ⟨QJ 0,_,hk,hf,by rw[j];exact cQ.refl _,[],by rw[hp];trivial,rfl,rfl⟩ ?_ ?_ nofun ?_)
 ·rintro g x F hx ⟨D,S,i⟩ Q q1 C B
  have Y:=r i;refine cO (λW=>?_) λW=>?_
  ·have P:S=[]:=Rc (by grind)
   subst P;exact QT<|C _ _ i
  obtain⟨Rs,t,e,l⟩:=i.ex;have kS:∀u∈S,kq κ u:=λu hu=>i.keys I u (by grind);refine RD (p9 J i.kind kS e l.symm (by grind) (Nat.sub_pos_of_lt<|Nat.lt_of_not_le W) λn XR M O R z nn y=>?_);dsimp -zeta only
  extract_lets -underBinder+onlyGivenNames m jp
  suffices hj:∀n p M R,1<=n->RI κ kd a g (M++R) p->dD κ M->M.length=n->wpS (model prog w) A E s (jp () n) Q p by
   refine cO (λX=>mO ?_) λX=>hj _ _ _ _ z (i.asc t e l y) y.sm y.m;have H:n<=min ((arrOf zt).size-g) _:=Nat.le_min.mpr ⟨nn,Vo X⟩;exact RD (m6 J i.kind kS l.symm (Rn (VW _ _)<|by grind) z H y λp M O R y=>cO nofun λ_=>hj _ _ _ _ (Rn z H) (i.asc t e l y) y.sm y.m)
  refine λn p M R z G U T=>RD<|Vr ?_;cases (pendingOf p).back? with
  |none=>exact RD<|Ve<|QT<|B _ _ ⟨Nat.add_le_add D z,R,G.push U T z rfl rfl rfl rfl⟩
  |some bk=>
  refine eR (λ_ _ f=>RI κ kd a g (M++R) f) (λ_ f=>RI κ kd a g (M++R) f) (λ_ _=>False) G (λ_ _ o _ v Q q1 C B=>RD<|Vr ?_) (λ_ _ h=>h) nofun λ_ o v=>RD<|Ve<|RD<|Ve<|QT<|B _ _ ⟨Nat.add_le_add D z,R,v.Ia U T z rfl rfl rfl rfl⟩;dsimp only;by_cases Z:(pendingOf o).size > 1
  ·rw[QI Z,getElem?_pos (pendingOf o) ((pendingOf o).size-2)<|by lia]
   exact cO (λ_=>QT<|C _ _ v) λ_=>RD (kG J I v (show(pendingOf o).size-2+1<(pendingOf o).size by lia) λab K _=>QT<|B _ _ K)
  ·rw[QG Z]
   exact QT<|C _ _ v
 ·rintro g f ⟨hx,S,i⟩
  have:=r i;have P:S=[]:=Rc (by lia);subst P;exact i
 ·intro g F i
  have Y:g=(arrOf zt).size:=r i;have pl:(pendingOf F).size<=(arrOf zt).size:=by
   obtain⟨Rs,t,e,l⟩:=i.ex;rw[<-Y,<-l,<-QS];exact t.len
  refine eR (λx _ f=>RI κ kd a g [] f/\(pendingOf f).size+x<=(arrOf zt).size) (λ_ f=>RI κ kd a g [] f/\(pendingOf f).size<=1) (λ_ _=>False) ⟨i,pl⟩ (λ_ x XR hx h Q q1 C B=>RD<|Vr<|cO (λL=>QT<|C _ _ ⟨h.1,L⟩) λL=>RD<|kG J I h.1 (J3<|Nat.lt_of_not_le L) λac N h3=>QT<|B _ _ ⟨N,by have:=h.2;lia⟩) (λ_ f h=>⟨h.1,by have:=h.2;lia⟩) nofun λ_ f h=>?_;obtain⟨Rs,t,e,l⟩:=h.1.ex;rw[Rm]at e;exact QT (q f h.1.failed (by rw[e];exact t.one<|by rw[QS];exact h.2) h.1.stb)
def intKind:KeyKind where
 α:=Int
 blt a b:=decide<|a<b
 irrefl a:=by simp
 trans a b c h1 h2:=by
  rw[Ro]at *;lia
 negTrans a b c h:=by
  rw[Ro]at *;rw[Ro];lia
 total a b h1 h2:=by
  rw[Wr]at *;lia
 keyOf v:=match v with
  |.int n _=>some n
  |_=>none
 dflt:=0
def vI:j5 prog w A E s intKind oneType':=by
 rintro⟨x,p⟩ ⟨y,q⟩ zt Q hk ⟨a,ha⟩ ⟨b,hb⟩ h;cases x<;>cases ha;cases y<;>cases hb;rw[lt'_eq];refine RD<|Vr ?_;rw[hk,keyLt'_oneType];exact RD<|wpS_lift<|TC<|oneLt_int ⟨rfl,QT h⟩
theorem wpAny_forIn_list{M:Model}{α β:Type}{f:α->β->Sem (ForInStep β)}(I:Xm α->β->Xh->Prop){Q:β->Xh->Prop}(j:∀x r b s,I (x::r) b s->wpAny M A (f x b) (λz s'=>∃a,z=.yield a/\I r a s') E s)(i:∀b s,I [] b s->Q b s):∀(l:Xm α) (b:β) (s:Xh),I l b s->wpAny M A (forIn l b f) Q E s
 |[],b,s,h=>by
  rw[List.forIn_nil];exact QA<|i b s h
 |x::r,b,s,h=>by
  rw[forIn_cons];refine Qz<|RQ (j x r b s h) (λz s' g=>?_) λ_ _ e=>e;obtain⟨a,rfl,g⟩:=g;exact wpAny_forIn_list I j i r a s' g
inductive KeysAre(R:Xf->Int->Prop):Xm Xf->Xm Xf->Prop
 |nil:KeysAre R [] []
 |snoc {vs a:Xm Xf}{v:Xf}{i:Int}{t:Tok}(h:KeysAre R vs a)(r:R v i):KeysAre R (vs++[v]) (a++[.int i t])
def KeysAre.ints{R:Xf->Int->Prop}{vs a:Xm Xf}(h:KeysAre R vs a):∀k∈a,∃n t,k=.int n t:=by
 induction h with
 |nil=>grind
 |snoc h r e=>grind
def KeysAre.len(h:KeysAre R vs ks):ks.length=vs.length:=by
 induction h with
 |nil=>rfl
 |snoc h r a=>grind
def rP:Array Xf->Sem SortKind:=sortPriv% PySem.Builtin.keyKind
def D8{vs:Xm Xf}(h:¬vs.length<2):∃a e rest,vs=a::e::rest:=by
 match vs,h with
 |[],h=>exact absurd (show 0<2 by decide) h
 |[_],h=>exact absurd (show 1<2 by decide) h
 |a::e::rest,_=>exact⟨a,e,rest,rfl⟩
def rL{l:Xm α}(h:l.length<2):l.Pairwise R:=by
 cases l with
 |nil=>exact .nil
 |cons a r=>
  cases r with
  |nil=>grind
  |cons b t=>grind
def qP {G:Xh->Prop}{vs:Xm Xf}{n:Nat}{P:Fin->Xh->Prop}(O:s.heap.get? a=some (seqObj "list" vs.toArray n)) (vl:vs.length<=sizeLine)
  (g0:G { s with heap:=((s.heap.update a<|Obj.mapSeq λ_=> #[]).push<|seqObj "tuple" vs.toArray 0).push (seqObj "list" #[] 0) })
  (gu:∀s' g,G s'->G { s' with heap:=s'.heap.update (s.heap.objs.size+1) (Obj.mapSeq g) })
  (gc:∀x∈vs,∀s',G s'->wpAny (model prog w) A (call (.ref f) [x]) (λk F=>(∃i t,k=.int i t/\R x i)/\G F/\(∀b o,(b=a\/b=s.heap.objs.size+1)->s'.heap.get? b=some o->F.heap.get? b=some o)) (λ_ _=>False) s')
  (fin:∀s' (j:Xm Xf) (arr:Array Keyed),G s'->(∃e,s'.heap.get? a=some (seqObj "list" #[] e))->KeysAre R vs j->dD intKind arr.toList->cQ intKind arr.toList (j.zip vs)->P (.done<|.ret .none) { s' with heap:=(s'.heap.update (s.heap.objs.size+1)<|Obj.mapSeq λ_=> #[]).update a (Obj.mapSeq λ_=>arr.map (·.2)) }):
  wpAny (model prog w) A (Builtin.«list.sort» ⟨[.ref a],[(Str.ofString "key",.ref f)]⟩) P E s:=by
 unfold Builtin.«list.sort»;dsimp only[length_cons,List.length_nil];have l1:List.lookup (Str.ofString "key") [(Str.ofString "key",Value.ref f)]=some (.ref f):=by grind
 have l2:List.lookup (Str.ofString "reverse") [(Str.ofString "key",Value.ref f)]=none:=by
  rw[Vx,show(Str.ofString "reverse" == Str.ofString "key")=false by decide+kernel];rfl
 have l3:(Value.ref f != Value.none)=true:=rfl;have l4:(Str.ofString "key" != Str.ofString "key")=false:=by decide+kernel
 rw[QG<|by decide,QG<|by decide,l1,l2];simp only[l3,if_true,forIn_cons,List.forIn_nil,l4,Bool.false_and,false_eq_true,if_false];have ha:=QY O;refine Qz<|Qz<|QA<|QA ?_;refine Qz<|QA ?_;refine Qz<|listItems_at O rfl ?_;refine Qz<|T6 O rfl ?_;obtain⟨v,K⟩:∃v,(s.heap.update a<|Obj.mapSeq λ_=> #[]).get? a=some (seqObj "list" #[] v):=⟨_,VX O λ_=> #[]⟩;refine Qz<|Wb K rfl ?_;refine Qz<|VI ?_;refine Qz<|VT ?_;refine Rh ?_;have hN:(s.heap.update a<|Obj.mapSeq λ_=> #[]).objs.size=s.heap.objs.size:=size_update _ _ _;have z:((s.heap.update a<|Obj.mapSeq λ_=> #[]).push<|seqObj "tuple" vs.toArray 0).objs.size=s.heap.objs.size+1:=by rw[WS,hN]
 have C:(((s.heap.update a<|Obj.mapSeq λ_=> #[]).push<|seqObj "tuple" vs.toArray 0).push<|seqObj "list" #[] 0).get? a=some (seqObj "list" #[] v):=by
  rw[TH _ _ _<|by rw[z];exact QU<|SO ha,TH _ _ _<|by rw[hN];exact QU ha];exact K
 have L:(((s.heap.update a<|Obj.mapSeq λ_=> #[]).push<|seqObj "tuple" vs.toArray 0).push<|seqObj "list" #[] 0).get? (s.heap.objs.size+1)=some (seqObj "list" #[] 0):=by
  rw[<-z];exact QN _ rfl
 simp only[z];generalize am:((s.heap.update a<|Obj.mapSeq λ_=> #[]).push<|seqObj "tuple" vs.toArray 0).push (seqObj "list" #[] 0)=q at g0 C L;have Y:s.heap.objs.size+1≠a:=UB<|SO ha;have XH:vs.toArray.size=vs.length:=Rl;refine Qz<|RW ?_;rw[List.forIn_toArray];refine Qz (RQ (wpAny_forIn_list (I:=λrest _ s'=>∃J j B,vs=J++rest/\KeysAre R J j/\G s'/\s'.heap.get? a=some (seqObj "list" #[] v)/\s'.heap.get? (s.heap.objs.size+1)=some (seqObj "list" j.toArray B))
  (Q:=λ_ s'=>∃j B,KeysAre R vs j/\G s'/\s'.heap.get? a=some (seqObj "list" #[] v)/\s'.heap.get? (s.heap.objs.size+1)=some (seqObj "list" j.toArray B)) ?step ?fin' vs _ _ ⟨[],[],0,rfl,.nil,g0,C,L⟩) ?post λ_ _ e=>e)
 case fin'=>
  rintro b s' ⟨J,j,B,e,k,g,q,y⟩;rw[Rm]at e;subst e;exact⟨j,B,k,g,q,y⟩
 case step=>
  rintro x r b s' ⟨J,j,B,e,k,g,q,y⟩;have mx:x∈vs:=by rw[e];exact QP _ Ru
  have kl:j.length+1<=vs.length:=by rw[k.len,e,QC];show _<=_+(_+1);lia
  refine Qz<|TC<|RQ (gc x mx s' g) (λkv X h=>?_) λ_ _ h=>False.elim h;obtain⟨⟨i,t,rfl,ri⟩,g2,kp⟩:=h;have D:=kp _ _ (.inr rfl) y;refine Qz (T6 D rfl ?_ (by grind) (by grind));have M:=VX D λx=>x.push<|.int i t;simp only[List.push_toArray]at M;refine QA ⟨_,rfl,J++[x],j++[.int i t],_,by rw[e,QL];rfl,k.snoc ri,gu _ _ g2,?_,M⟩;exact(Tb _ _ _ _ Y.symm).trans (kp _ _ (.inl rfl) q)
 case post=>
  rintro _ s' ⟨j,B,k,g,q,y⟩;have kl:=k.len;refine Qz<|listItems_at y rfl ?_;simp only[false_eq_true,if_false];have k2:j.toArray.size=j.length:=Rl;have al:∀{m:SortSt},cQ intKind (arrOf m).toList (j.zip vs)->(arrOf m).size=vs.length:=λ{m} h=>by
   rw[<-QS,h.perm.length_eq,WT,kl,min_self]
  by_cases H:vs.toArray.size<2
  ·rw[QI H]
   refine Qz<|QA ?_;rw[QI H,StateT.run_pure];refine Qz<|QA ?_;have N:(j.toArray.zip vs.toArray).toList=j.zip vs:=by rw[toList_zip]
   have T:=fin s' j (j.toArray.zip vs.toArray) g ⟨v,q⟩ k (by
    rw[N];have ab:(j.zip vs).length<2:=by rw[WT,kl,min_self,<-XH];exact H
    exact rL ab) (by rw[N];exact cQ.refl _)
   refine Qz (T6 y rfl ?_ (by rw[Rl];lia) (by show 0<=_;lia));refine Qz<|Wn ?_;have l:(s'.heap.update (s.heap.objs.size+1)<|Obj.mapSeq λ_=> #[]).get? a=some (seqObj "list" #[] v):=(Tb _ _ _ _ Y.symm).trans q;refine Qz<|Wb l rfl ?_;refine Qz (T6 l rfl ?_ (by show 0<=_;lia) (by rw[Array.size_map,Array.size_zip,Rl,Rl];lia));simp only[bne_self_eq_false,false_eq_true,if_false];exact QA T
  ·rw[QG H]
   have S:rP j.toArray=pure oneType':=by
    obtain⟨ac,ad,rest,e⟩:=D8 (vs:=j) (by lia);have:=intsAre_map j k.ints;rw[e]at this ⊢;exact keyKind_ints this
   refine Qz<|U2 S ?_;rw[QG H];have N:(j.toArray.zip vs.toArray).toList=j.zip vs:=by rw[toList_zip]
   refine Qz (RQ (jV (κ:=intKind) vI (zt:=SortSt.mk' oneType' (j.toArray.zip vs.toArray) #[] 7 none)
    (Q:=λ_ m=>failedOf m=none/\dD intKind (arrOf m).toList/\cQ intKind (arrOf m).toList (j.zip vs)) rfl rfl rfl (λp hp=>?_) λm W f2 f3=>⟨W,f2,by rw[<-N];exact f3⟩) ?_ λ_ _ e=>e)
   ·have U:p∈j.zip vs:=by rw[<-N];exact hp
    obtain⟨n',t',e'⟩:=k.ints p.1 (WO<|show(p.1,p.2)∈j.zip vs from U).1;exact⟨n',by rw[e'];rfl⟩
   ·rintro⟨⟨⟩,m⟩ X ⟨rfl,W,f2,f3⟩
    have T:=fin X j (arrOf m) g ⟨v,q⟩ k f2 f3;refine Qz (T6 y rfl ?_ (by lia) (by show 0<=_;lia));refine Qz<|Wn ?_;have l:(X.heap.update (s.heap.objs.size+1)<|Obj.mapSeq λ_=> #[]).get? a=some (seqObj "list" #[] v):=(Tb _ _ _ _ Y.symm).trans q;refine Qz<|Wb l rfl ?_;refine Qz (T6 l rfl ?_ (by show 0<=_;lia) (by grind));have Z:(sortPriv% PySem.Builtin.SortState.failed) m=none:=W;rw[Z];simp only[bne_self_eq_false,false_eq_true,if_false];exact QA T
end TS
namespace L2
def Un.over{fs ex:Xm Xg}{H H1:Hp}{h i g:Heap}(u:Un fs ex H H1 h i)(k:∀b,b<h.objs.size->g.get? b=i.get? b):Un fs ex H H1 h g where
 keep:=λb o q n f a=>(k b<|QY q).trans<|u.keep b o q n f a
 slot:=λb o q n f a=>by
  obtain⟨sl,e⟩:=u.slot b o q n f a;exact⟨sl,(k b<|QY q).trans e⟩
 free:=u.free
 there:=λb o q a=>by
  obtain⟨j,e⟩:=u.there b o q a;exact⟨j,(k b<|QY q).trans e⟩
 tups:=u.tups
 frzs:=u.frzs
 tbls:=u.tbls
def Un.DZ{fs ex:Xm Xg}{H:Hp}{h f:Heap}{a:Xg}{o:HO}(u:Un fs ex H H h f)(g:h.objs.size<=a)(e:H a=none):Un fs ex H (upd H a o) h f where
 keep:=u.keep
 slot:=u.slot
 free:=λb ob q n l=>by rw[cG<|QU<|Rp (QY q) g];exact n
 there:=u.there
 tups:=λb i q=>by rw[cG<|cF q e];exact q
 frzs:=λb ob i q=>by rw[cG<|cF q e];exact q
 tbls:=λb j q=>⟨#[],by rw[cG<|cF q e,q];simp⟩
def gM.over{P:Xi}{w:Xj}{H:Hp}{h0 h h':Heap}(x0:gM P w H h0)(x:gM P w H h)(k:∀b,b<h0.objs.size->h'.get? b=h.get? b):gM P w H h':=λa o e=>
 (x a o e).gh (λb u f q=>(k b<|f.elim (λz=>z ▸ x0.lt e) λz=>x0.lt z).trans q) (λ_ q=>q) λ_ _ q=>q
def gM.DZ{P:Xi}{w:Xj}{H:Hp}{h:Heap}{a:Xg}{o:HO}(x:gM P w H h)(g:H a=none)(new:cV P w (upd H a o) h a o):gM P w (upd H a o) h:=λb u e=>by
 by_cases f:b=a
 ·subst f
  rw[cE]at e;grind
 ·rw[cG f]at e
  exact(x b u e).gh (λc v _ q=>q) (λc q=>by rw[cG<|cF q g];exact q) λc i q=>by rw[cG<|cF q g];exact q
def oH(a v:Xf):argsOk "sorted" ⟨[a],[(Str.ofString "key",v)]⟩:=by unfold argsOk;kernel_rfl
def p6(a v:Xf):argsOk "list.sort" ⟨[a],[(Str.ofString "key",v)]⟩:=by unfold argsOk;kernel_rfl
def d9:Xf->Xg
 |.ref a=>a
 |_=>0
def EH(g:Xg->Int)(v:Xf)(i:Int):Prop:=∃a,v=.ref a/\g a=i
def Bx{g:Xg->Int}{vs i:Xm Xf}(h:TS.KeysAre (EH g) vs i):∀p∈i.zip vs,TS.key TS.intKind p=g (d9 p.2)/\p.2=.ref (d9 p.2):=by
 induction h with
 |nil=>simp_all
 |snoc h r j=>
  intro p f;rw[List.zip_append h.len]at f;obtain f|f:=Rg.mp f
  ·exact j p f
  ·cases QK.mp f
   obtain⟨a,rfl,e⟩:=r;exact⟨e.symm,rfl⟩
theorem zJ:∀{as:Xm Xg}{e:Xm Xf},Vals (as.map V.ref) e->e=as.map Value.ref
 |[],[],_=>rfl
 |[],_::_,h=>by cases h
 |_::_,[],h=>by cases h
 |a::as,v::e,h=>by
  cases h with
  |cons r t=>
   cases r;rw[RC,zJ t]
theorem rW:∀(as:Xm Xg),Vals (as.map V.ref) (as.map Value.ref)
 |[]=>.nil
 |a::as=>.cons rfl<|rW as
inductive K0(K:Frag)(sp:Sp)(xs:Xm V)(H:Hp)(Q:VK):Prop
 |mk(p:Xg)(as:Xm Xg)(g:Xg->Int)(e:xs=[.ref p])(s:cN K H p (as.map V.ref))(h:∀a∈as,∀f:VK,f (.int (g a)) H->sp [.ref a] H f E0)
   (q:∀(l:Xg)(zs:Xm Xg),H l=none->zs.Perm as->zs.Pairwise (λa b=>g a<=g b)->(∀i,zs.filter (λa=>decide (g a=i))=as.filter (λa=>decide (g a=i)))->Q (.ref l) (upd H l (.lst (zs.map V.ref))))
def yt{k:Nat}{f:Xg}{fd:FuncData}{ps:Xm Xn}{sp:Sp}(F:fq X.prog X.w X.K X.mg X.base oF k f fd ps sp)(hr:dP (k+2) X.A)(B:Binds X.K fd ps []){Xs:Xq}{s:Xh}{σ:St}{H:Hp}{xs:Xm V}{us:Xm Xf}{Q:VK}
  (I:Inv X Xs σ H s)(r:Vals xs us)(h:K0 X.K sp xs H Q):wpAny (model X.prog X.w) X.A (call (.builtin "sorted") us [(Str.ofString "key",.ref f)]) (EP X Xs σ Q) X.xe s:=by
 obtain⟨p,n,g,rfl,hq,hs,q⟩:=h;obtain⟨u,rfl,rx⟩:=vals1 r;cases rx;obtain⟨Xw,rv,pl,hz⟩:=I.list hq;obtain rfl:=zJ rv;rw[QF]at hz;refine WI kind_sorted plain_sorted entry_sorted (oH _ _) ?_;unfold Builtin.«sorted»;refine Qz<|QA ?_;refine Qz<|collect_list pl.isList ?_;refine Qz<|VT ?_;have XH:((s.heap.push<|seqObj "list" #[] 0).update s.heap.objs.size<|Obj.mapSeq (· ++(n.map Value.ref).toArray)).objs.size=s.heap.objs.size+1:=by simp_all
 have N:(((s.heap.push<|seqObj "list" #[] 0).update s.heap.objs.size<|Obj.mapSeq (· ++(n.map Value.ref).toArray)).push<|seqObj "list" (n.map Value.ref).toArray 0).get? (s.heap.objs.size+1)=some (seqObj "list" (n.map Value.ref).toArray 0):=by
  rw[<-XH];exact QN _ rfl
 rw[XH];have hold:∀b,b<s.heap.objs.size->(((s.heap.push<|seqObj "list" #[] 0).update s.heap.objs.size<|Obj.mapSeq (· ++(n.map Value.ref).toArray)).push<|seqObj "list" (n.map Value.ref).toArray 0).get? b=s.heap.get? b:=λb B=>by
  rw[TH _ _ _<|by grind,Tb _ _ _ _<|QU B,TH _ _ _<|QU B]
 have E:(((s.heap.push<|seqObj "list" #[] 0).update s.heap.objs.size<|Obj.mapSeq (· ++(n.map Value.ref).toArray)).push<|seqObj "list" (n.map Value.ref).toArray 0).objs.size=s.heap.objs.size+2:=by rw[WS,XH]
 generalize ((s.heap.push<|seqObj "list" #[] 0).update s.heap.objs.size<|Obj.mapSeq (· ++(n.map Value.ref).toArray)).push (seqObj "list" (n.map Value.ref).toArray 0)=W at N hold E;have na:=I.hok.fresh<|TX _;have T:∀b,s.heap.objs.size<=b->b ∉ Bj X.stack:=λb B hm=>by
  obtain⟨_,o,e,_⟩:=I.stack.mem hm;exact absurd (QY e)<|not_lt.mpr B
 refine Qz (Rh (wpAny_call_entry_kw slot_list_sort ⟨_,N,rfl⟩ entry_list_sort (TS.qP (R:=EH g)
  (G:=λm=>m.os=s.os/\AllBare m.gens/\Un (Bj X.stack) [] H H s.heap m.heap/\gM X.prog X.w H m.heap) N (by grind) ?g0 ?gu ?gc ?fin)<|p6 _ _))
 case g0=>
  have k:∀b,b<s.heap.objs.size->(((W.update (s.heap.objs.size+1)<|Obj.mapSeq λ_=> #[]).push<|seqObj "tuple" (n.map Value.ref).toArray 0).push<|seqObj "list" #[] 0).get? b=s.heap.get? b:=λb B=>by
   rw[TH _ _ _<|QU<|by rw[WS,size_update,E];lia,TH _ _ _<|QU<|by rw[size_update,E];lia,Tb _ _ _ _<|QU<|by lia,hold b B]
  exact⟨rfl,I.bare,Un.refl.over k,gM.over I.hok I.hok k⟩
 case gu=>
  rintro m gg ⟨O,bare,un,C⟩;have k:∀b,b<s.heap.objs.size->(m.heap.update (W.objs.size+1)<|Obj.mapSeq gg).get? b=m.heap.get? b:=λb B=>Tb _ _ _ _ (QU<|by rw[E];lia);exact⟨O,bare,un.over k,gM.over I.hok C k⟩
 case gc=>
  rintro v hv m ⟨O,bare,un,C⟩;obtain⟨a,ha,rfl⟩:=Rk.mp hv;have I':Inv X Xs σ H m:=I.Dr O un C bare (λb z=>by cases z);have Z:=hs a ha (λv H'=>v=.int (g a)/\H'=H) ⟨rfl,rfl⟩;have hl:([Value.ref a]++([]:Xm Xf)).length=ps.length:=F.len _ _ _ _ Z;refine VU<|Te (F.run X.A.in1.in1 X.stack m H ⟨[.ref a],[]⟩ [.ref a] [.ref a] _ E0 hr.in1.in1 I'.Lo.in1.in1 (B m [.ref a] I'.oI hl) (.cons rfl .nil) Z) λrr s2 U=>?_;cases rr with
  |error e=>exact False.elim U
  |ok fl=>
   cases fl with
   |next=>exact False.elim U
   |brk=>exact False.elim U
   |cont=>exact False.elim U
   |ret u=>
    obtain⟨v,H',Oi,M,J,S,ac,rfl,rfl⟩:=U;obtain⟨t,rfl⟩:=ac;refine⟨⟨_,t,rfl,a,rfl,rfl⟩,⟨Oi.trans O,M,un.trans J,S⟩,λb o B hg=>?_⟩;obtain rfl|rfl:=B
    ·exact J.keep _ _ hg na (T _<|TX _) (λz=>by cases z)
    ·exact J.keep _ _ hg (I.hok.fresh<|by rw[E];lia) (T _<|by rw[E];lia) (λz=>by cases z)
 case fin=>
  rintro m ks j ⟨O,bare,un,C⟩ ⟨e1,ar⟩ kk av L;refine⟨_,rfl,QA ⟨_,rfl,?_⟩⟩;have km:=Bx kk;have am:∀p∈j.toList,TS.key TS.intKind p=g (d9 p.2)/\p.2=.ref (d9 p.2):=λp D=>km p<|L.mem.mp D;have P:(ks.zip<|n.map Value.ref).map (λp=>d9 p.2)=n:=by
   have e1:(λp:Keyed=>d9 p.2)=d9 ∘ Prod.snd:=rfl;rw[e1,<-Tc,List.map_snd_zip<|by rw[kk.len];exact QJ _,Tc];exact List.map_id _
  have ad:(j.map (·.2)).toList=(j.toList.map λp=>d9 p.2).map Value.ref:=by
   rw[Array.toList_map,Tc];exact Xc λp D=>(am p D).2
  have perm:(j.toList.map λp=>d9 p.2).Perm n:=by
   have:=L.perm.map λp:Keyed=>d9 p.2;grind
  have pw:(j.toList.map λp=>d9 p.2).Pairwise (λa b=>g a<=g b):=by
   rw[Vf];refine UO (λ{x y} hx hy an=>?_) av;have h':TS.intKind.blt (TS.key TS.intKind y) (TS.key TS.intKind x)=false:=an;rw[(am x hx).1,(am y hy).1]at h';have ax:decide (g (d9 y.2)<g (d9 x.2))=false:=h';grind
  have ab:∀(l:Xm Keyed),(∀p∈l,TS.key TS.intKind p=g (d9 p.2))->∀i:Int,(l.map λp=>d9 p.2).filter (λa=>decide<|g a=i)=(TS.fk TS.intKind i l).map λp=>d9 p.2:=λl hl i=>by
   rw[VY]
   congr 1
   refine List.filter_congr λp D=>?_;show decide (g (d9 p.2)=i)=(!TS.intKind.blt (TS.key TS.intKind p) i && !TS.intKind.blt i (TS.key TS.intKind p));rw[hl p D];show decide (g (d9 p.2)=i)=(!decide (g (d9 p.2)<i) && !decide (i<g (d9 p.2)));grind
  have fl:∀i:Int,(j.toList.map λp=>d9 p.2).filter (λa=>decide<|g a=i)=n.filter (λa=>decide<|g a=i):=λi=>by
   have e2:=ab (ks.zip<|n.map Value.ref) (λp D=>(km p D).1) i;rw[P]at e2;rw[ab j.toList (λp D=>(am p D).1) i,e2,L i]
  have Y:(m.heap.update (W.objs.size+1)<|Obj.mapSeq λ_=> #[]).get? (s.heap.objs.size+1)=some (seqObj "list" #[] e1):=(Tb _ _ _ _<|QU<|by rw[E];lia).trans ar;have Yv:=VX Y λ_=>j.map (·.2);have k:∀b,b<s.heap.objs.size->((m.heap.update (W.objs.size+1)<|Obj.mapSeq λ_=> #[]).update (s.heap.objs.size+1)<|Obj.mapSeq λ_=>j.map (·.2)).get? b=m.heap.get? b:=λb B=>by
   rw[Tb _ _ _ _<|QU<|by lia,Tb _ _ _ _<|QU<|by rw[E];lia]
  refine⟨.ref<|s.heap.objs.size+1,_,I.Dr (ch:=[]) O ((un.over k).DZ (TX _) na) ((gM.over I.hok C k).DZ na ?_) bare (λb z=>by cases z),rfl,q _ _ na perm pw fl⟩;have al:=perm.length_eq;have aq:j.map (·.2)=((j.toList.map λp=>d9 p.2).map Value.ref).toArray:=by rw[<-ad]
  obtain⟨e3,ap⟩:∃e3,((m.heap.update (W.objs.size+1)<|Obj.mapSeq λ_=> #[]).update (s.heap.objs.size+1)<|Obj.mapSeq λ_=>j.map (·.2)).get? (s.heap.objs.size+1)=some (seqObj "list" (j.map (·.2)) e3):=⟨_,Yv⟩;refine⟨by rw[QF,al];exact hz,(j.toList.map λp=>d9 p.2).map Value.ref,e3,rW _,ap.trans ?_⟩;rw[aq]
structure K3(X:Cx)(x:Xn)(sp:Sp):Prop where
 ex:∃(k:Nat) (f:Xg) (fd:FuncData) (ps:Xm Xn),fq X.prog X.w X.K X.mg X.base oF k f fd ps sp/\dP (k+2) X.A/\X.mg x=some (.ref f)/\Binds X.K fd ps []
 gl:Gl X x
 db:(x==("__debug__" :Xn))=false
def Here.Oz {P:Xi}{w:Xj}{K:Frag}{a:Xr}{base:Heap}{sc:Scope}{N:Xm Xn}{k j:Nat}{x:Xn}{sp:Sp}(h:Here X P w K a base sc N k) (G:Gd P w K a base j x sp) (o:sc.names.lookup x=some .globalImplicit) (i:j+2<=k) (db:(x==("__debug__" :Xn))=false):K3 X x sp:=by
 obtain⟨f,e,g,n,l,p,m⟩:=G.ex;obtain⟨rfl,rfl,rfl,rfl,rfl⟩:=And.intro h.pr<|And.intro h.wd<|And.intro h.fK<|And.intro h.gm h.bs;exact⟨⟨j,f,e,g,n,h.room.mono i,l,m⟩,h.gl o,db⟩
def Em {x:Xn}{sp:Sp}{e:Expr}{t:TA}{p m a pos:Pos}(B:Bt X "sorted") (C:K3 X x sp) (v:PA X [e] t) (he:starEach [e] X.env=[(false,eval e X.env)]):
  PE X (.Call (.Name "sorted" p) [e] [⟨some "key",.Name x m,a⟩] pos) (λσ H Q=>t σ H λxs H1=>K0 X.K sp xs H1 Q):=by
 intro l s σ H Q I h;obtain⟨k,f,w,y,F,hr,j,n⟩:=C.ex;have o:backTo pos (starEach [e] X.env)=(false,eval e X.env)::backTo pos (starEach [] X.env):=by
  rw[he];rfl
 refine SU<|jd I B.gl B.nm rp ?_ B.hn B.db;refine callWith_kw (cX (v pos l s σ H _ I h) λD A g=>?_) (by rw[he];rfl) (by rw[he];rfl);obtain⟨z,H1,i,r,q⟩:=g;exact kws_cons<|o6 i C.gl j (kws_nil<|yt F hr n i r q) C.db
end L2
namespace J
def My {X:Cx}{x:Xn}{sp:Sp}{e:Expr}{t:TA}{p g a pos:Pos}(B:Bt X "sorted") (C:K3 X x sp) (f:JA X [e] t) (h:notStar e=true:=by rfl):
  JE X (.Call (.Name "sorted" p) [e] [⟨some "key",.Name x g,a⟩] pos) (λσ H Q=>t σ H λxs H1=>K0 X.K sp xs H1 Q):=⟨Em B C f.out<|cU h⟩
end J
namespace L2
section
variable {X:Cx}
def jc{A:Xl}{k:Nat}(hr:dP k A):A.units+3<cLine:=by
 have:=hr.un;omega
end
end L2
namespace NK
structure gq(P:Xi)(w:Xj)(κ:Type) [DecidableEq κ] where
 is:Heap->κ->Xf->Prop
 hash:κ->Int
 draws:κ->Nat
 room:Xl->Prop
 inj:∀{h:Heap}{u:Xf}{x y:κ},is h x u->is h y u->x=y
 eqv:∀{A:Xl}{E:Xo}{s:Xh}{x y:κ}{u v:Xf}{Q:Bool->Xh->Prop},room A->is s.heap x u->is s.heap y v->Q (decide (x=y)) s->wpAny (model P w) A (eqBool u v) Q E s
 hashes:∀{A:Xl}{E:Xo}{s:Xh}{x:κ}{u:Xf}{Q:Int->Xh->Prop},room A->is s.heap x u->Q (hash x) { s with toks:=s.toks+draws x }->wpAny (model P w) A (pyHash u) Q E s
 qd:Nat
 quiet:∀{A:Xl}{E:Xo}{s:Xh}{x:κ}{u:Xf}{n:Nat}{Q:Bool->Xh->Prop},qd<=n->is s.heap x u->Q true s->wpAny (model P w) A (eqIsQuiet n u) Q E s
 keep:∀{h h':Heap}{x:κ}{u:Xf},(∀b o,h.get? b=some o->h'.get? b=some o)->is h x u->is h' x u
 txs:∀{h:Heap}{x y:κ}{z:Xn}{t:Tok}{u:Xf},is h x (.str z t)->is h y u->u.isStr z=decide (y=x)
section
variable [DecidableEq κ] (k:gq P w κ)
def ent(e:κ×Xf×Xf):DictEntry:=⟨k.hash e.1,e.2.1,e.2.2⟩
end
section
variable [DecidableEq κ]{k:gq P w κ}{A:Xl}{E:Xo}{s:Xh}
def sO(a:k.qd<=8)(j:k.is s.heap x u)(i:∀v∈zt,∃y,k.is s.heap y v)(q:Q false s):wpAny (model P w) A (tableMayTell u zt) Q E s:=by
 unfold tableMayTell;split
 ·exact QA q
 refine Qz<|k.quiet a j ?_;rw[QG<|by decide];refine Qz<|wpAny_forIn_list _ (λr b e=>e=s/\b=(none,())/\∀v∈r,∃y,k.is s.heap y v) _ ?_ ?_ _ _ ⟨rfl,rfl,i⟩
 ·rintro v r b h ⟨rfl,rfl,hr⟩
  obtain⟨y,g⟩:=hr v<|.head _;refine Qz<|k.quiet a g ?_;rw[QG<|by decide];exact QA ⟨rfl,rfl,λv f=>hr v<|.tail _ f⟩
 ·rintro b h ⟨rfl,rfl,_⟩
  exact QA q
def Sh(u:Xf):Prop:=(∃z t,u=.str z t)\/∃a,u=.ref a
def eE{xs:Xm (κ×Xf×Xf)}(nd:(xs.map (·.1)).Nodup){x:κ}{i:Nat}{e:κ×Xf×Xf}(g:xs[i]? =some e)(ex:e.1=x):(xs.findIdx? λe=>decide<|e.1=x)=some i:=by
 obtain⟨f,rfl⟩:=gI0.mp g;refine SR.mpr ⟨f,dT0 ex,λj h=>?_⟩;intro q;have a:=QO q;have:j=i:=(TJ (h₀:=by rw[QF];lia) (h₁:=by rw[QF];lia) nd).mp (by rw[Ug,Ug,a,ex]);lia
def qq(q8:k.qd<=8){d:Xg}{o:Obj}{es:Array DictEntry}{ep:Nat}{xs:Xm (κ×Xf×Xf)}{x:κ}{u:Xf}{Q:Xk Nat->Xh->Prop}(sh:Sh u)(hu:k.room A)(R:k.is s.heap x u)(M:s.heap.get? d=some o)(hd:o.data=.dict es ep)(T:es.toList=xs.map (ent k))(O:∀e∈xs,k.is s.heap e.1 e.2.1)(nd:(xs.map (·.1)).Nodup)(q:Q (xs.findIdx? λe=>decide<|e.1=x) s):
  wpAny (model P w) A (dictFind d u<|k.hash x) Q E s:=by
 have look:∀i,es[i]? =(xs[i]?).map (ent k):=λi=>by rw[<-QW,T,QR]
 have sz:es.size=xs.length:=by rw[<-QS,T,QF]
 have Z:(placesWithHash es.size (λi=>es[i]?.map (·.hash))<|k.hash x).Nodup:=VO.filter _;have D:∀i∈placesWithHash es.size (λi=>es[i]?.map (·.hash)) (k.hash x),∃e,xs[i]? =some e:=λi h=>by
  have S:=Sk.mp (QV.mp h).1;rw[sz]at S;exact⟨_,QB S⟩
 have J:∀(i:Nat) (e:κ×Xf×Xf),xs[i]? =some e->e.1=x->i∈placesWithHash es.size (λi=>es[i]?.map (·.hash)) (k.hash x):=λi e h f=>by
  refine QV.mpr ⟨Sk.mpr<|by rw[sz];exact(gI0.mp h).1,?_⟩;show(es[i]?.map (·.hash)==some (k.hash x))=true;rw[look,h];show(some (k.hash e.1)==some (k.hash x))=true;rw[f];exact RS _
 have ab:∀v∈(placesWithHash es.size (λi=>es[i]?.map (·.hash))<|k.hash x).filterMap λi=>es[i]?.map (·.key),∃y,k.is s.heap y v:=λv hv=>by
  obtain⟨i,F,e⟩:=Vp.mp hv;obtain⟨p,B⟩:=D i F;rw[look,B]at e;cases e;exact⟨_,O _<|QH B⟩
 have none_of:(∀(i:Nat) (e:κ×Xf×Xf),xs[i]? =some e->e.1≠x)->(xs.findIdx? λe=>decide<|e.1=x)=none:=λh=>UL.mpr λe T=>by
  obtain⟨i,O⟩:=List.mem_iff_getElem?.mp T;exact QM<|h i e O
 unfold dictFind;refine Rh ?_;refine Qz<|Sm M hd ?_;dsimp only;generalize placesWithHash es.size (λi=>es[i]?.map (·.hash)) (k.hash x)=pl at Z D J ab ⊢;have X:wpAny (model P w) A (dictWalkPlain d u (k.hash x) es pl) Q E s:=by
  unfold dictWalkPlain;refine Qz<|wpAny_forIn_list _ (λr b s'=>s'=s/\b=(none,())/\(∀i∈r,∃e,xs[i]? =some e)/\∀(i:Nat) (e:κ×Xf×Xf),xs[i]? =some e->e.1=x->i∈r) _ ?_ ?_ _ _ ⟨rfl,rfl,D,J⟩
  ·rintro i r b s1 ⟨rfl,rfl,F,K⟩
   obtain⟨e,l⟩:=F i<|.head _;have W:es[i]? =some (ent k e):=by rw[look,l];rfl
   have keep:e.1≠x->∀(j:Nat) (p:κ×Xf×Xf),xs[j]? =some p->p.1=x->j∈r:=λL j p B f=>by
    obtain z|z:=Rf.mp (K j p B f)
    ·rw[z,l]at B
     cases B;exact absurd f L
    ·exact z
   rw[W];dsimp only;split
   ·refine Qz (RP M hd<|Qz<|k.eqv hu (O e<|QH l) R<|Qz<|RP M hd ?_)
    rw[QG<|by simp];by_cases f:e.1=x
    ·rw[dT0 f,QI rfl]
     rw[eE nd l f]at q;exact Qz<|RW<|QA<|QA q
    ·rw[QM f,QG<|by decide]
     exact Qz<|RW<|QA ⟨rfl,rfl,λj g=>F j<|.tail _ g,keep f⟩
   ·rename_i L
    refine QA ⟨rfl,rfl,λj g=>F j<|.tail _ g,keep λf=>L ?_⟩;show(k.hash e.1==k.hash x)=true;rw[f];exact RS _
  ·rintro b s1 ⟨rfl,rfl,F,K⟩
   rw[none_of λi e h f=>nomatch K i e h f]at q;exact QA q
 have al:∀z t,u=.str z t->wpAny (model P w) A (foundByValue d u es z) Q E s:=λz t eu=>by
  have same:∀e∈xs,(ent k e).key.isStr z=decide (e.1=x):=λe T=>by
   rw[eu]at R;exact k.txs R<|O e T
  unfold foundByValue;cases hf:xs.findIdx? (λe=>decide<|e.1=x) with
  |none=>
   rw[hf]at q;have:es.findIdx? (·.key.isStr z)=none:=Array.findIdx?_eq_none_iff.mpr λe am=>by
    have m:e∈xs.map (ent k):=by rw[<-T];exact U9.mpr am
    obtain⟨p,B,rfl⟩:=Rk.mp m;rw[same p B];exact UL.mp hf p B
   rw[this];exact QA q
  |some i=>
   rw[hf]at q;obtain⟨S,l,W⟩:=SR.mp hf;have li:i<es.size:=by rw[sz];exact S
   have U:∀j (g:j<es.size) (Ym:j<xs.length),es[j]=ent k xs[j]:=λj g Ym=>by
    have:=look j;rw[Rr g,QB Ym]at this;exact Ri this
   have:es.findIdx? (·.key.isStr z)=some i:=Array.findIdx?_eq_some_iff_getElem.mpr ⟨li,by rw[U i li S,same _<|Ta S];exact l,λj g=>by
    rw[U j (by lia)<|by lia,same _<|Ta<|by lia];exact W j g⟩
   rw[this];dsimp only;rw[Rr li,U i li S];dsimp only;refine Qz<|RP M hd<|Qz<|k.eqv hu (O _<|Ta S) R<|Qz<|RP M hd ?_;rw[QG<|by simp,l,QI rfl];exact Qz<|RW<|QA q
 have ad:¬(es.any λe=>e.key==u&&e.hash != k.hash x)=true:=λh=>by
  rw[<-Array.any_toList,T,any_map,UX]at h;obtain⟨e,F,hb⟩:=h;have ac:(e.2.1==u&&k.hash e.1 != k.hash x)=true:=hb;rw[RZ,Vq,bne_iff_ne]at ac;have h3:=O e F;rw[ac.1]at h3;exact ac.2 (by rw[k.inj h3 R])
 have go:=sh;by_cases hc:((u::pl.filterMap λi=>es[i]?.map (·.key)).all carriedByValue)=true
 ·rw[QI hc]
  split
  ·rename_i z t
   split
   ·exact al z t rfl
   ·exact X
  ·exact X
 ·rw[QG hc]
  clear X;obtain ⟨z,t,rfl⟩|⟨a,rfl⟩:=go
  ·show wpAny (model P w) A (if(es.all λe=>isExactStrKey e.key)=true then _ else _) Q E s
   by_cases hs:(es.all λe=>isExactStrKey e.key)=true
   ·rw[QI hs]
    exact al z t rfl
   ·rw[QG hs]
    show wpAny (model P w) A (if((pl.filterMap λi=>es[i]?.map (·.key))==[.str z t])=true then _ else _) Q E s;by_cases C:((pl.filterMap λi=>es[i]?.map (·.key))==[.str z t])=true
    all_goals first|rw[QI C]|rw[QG C]
    all_goals first|refine Qz (QA ?_)|refine Qz<|sO q8 R ab ?_
    all_goals rw[QG<|by simp]
    all_goals
     refine Qz<|wpAny_forIn_list _ (λr b s'=>s'=s/\∃n:Xk Nat,b=(none,n)/\(∀i∈r,∃e,xs[i]? =some e)/\r.Nodup/\((n=none/\∀(i:Nat) (e:κ×Xf×Xf),xs[i]? =some e->e.1=x->i∈r)\/∃(j:Nat) (e:κ×Xf×Xf),n=some j/\xs[j]? =some e/\e.1=x/\j ∉ r)) _ ?_ ?_ _ _ ⟨rfl,none,rfl,D,Z,.inl ⟨rfl,J⟩⟩
     ·rintro i r b s1 ⟨rfl,n,rfl,F,rn,N⟩
      obtain⟨e,l⟩:=F i<|.head _;have W:es[i]? =some (ent k e):=by rw[look,l];rfl
      have ni:=(Sw.mp rn).1;have I:=(Sw.mp rn).2;have G:∀j∈r,∃e,xs[j]? =some e:=λj g=>F j<|.tail _ g;have keep:e.1≠x->((n=none/\∀(i:Nat) (e:κ×Xf×Xf),xs[i]? =some e->e.1=x->i∈r)\/∃(j:Nat) (e:κ×Xf×Xf),n=some j/\xs[j]? =some e/\e.1=x/\j ∉ r):=λL=>by
       obtain ⟨Y,K⟩|⟨j,p,Y,g,H,nj⟩:=N
       ·refine .inl ⟨Y,λj p B f=>?_⟩
        obtain z|z:=Rf.mp (K j p B f)
        ·rw[z,l]at B
         cases B;exact absurd f L
        ·exact z
       ·exact .inr ⟨j,p,Y,g,H,λz=>nj<|.tail _ z⟩
      rw[W];dsimp only;split
      ·refine Qz (RP M hd<|Qz<|k.eqv hu (O e<|QH l) R<|Qz<|RP M hd ?_)
       rw[QG<|by simp];by_cases f:e.1=x
       ·rw[dT0 f,QI rfl]
        obtain ⟨rfl,K⟩|⟨j,p,rfl,g,H,nj⟩:=N
        ·rw[QG<|by simp]
         refine Qz<|RW ?_;split
         ·rw[eE nd l f]at q
          exact QA<|QA q
         ·exact QA ⟨rfl,some i,rfl,G,I,.inr ⟨i,e,rfl,l,f,ni⟩⟩
        ·have:=(eE nd g H).symm.trans (eE nd l f)
         cases this;exact absurd (List.Mem.head _) nj
       ·rw[QM f,QG<|by decide]
        refine Qz<|RW ?_;rw[QG<|by simp];exact QA ⟨rfl,n,rfl,G,I,keep f⟩
      ·rename_i L
       refine QA ⟨rfl,n,rfl,G,I,keep λf=>L ?_⟩;show(k.hash e.1==k.hash x)=true;rw[f];exact RS _
     ·rintro b s1 ⟨rfl,n,rfl,F,_,N⟩
      obtain ⟨rfl,K⟩|⟨j,e,rfl,g,f,_⟩:=N
      ·rw[none_of λi e h f=>nomatch K i e h f]at q
       exact QA q
      ·rw[eE nd g f]at q
       exact QA q
  ·show wpAny (model P w) A (if(es.any λe=>e.key==Value.ref a&&e.hash != k.hash x)=true then _ else _) Q E s
   rw[QG ad];by_cases C:((pl.filterMap λi=>es[i]?.map (·.key))==[.ref a])=true
   all_goals first|rw[QI C]|rw[QG C]
   all_goals first|refine Qz (QA ?_)|refine Qz<|sO q8 R ab ?_
   all_goals rw[QG<|by simp]
   all_goals
    refine Qz<|wpAny_forIn_list _ (λr b s'=>s'=s/\∃n:Xk Nat,b=(none,n)/\(∀i∈r,∃e,xs[i]? =some e)/\r.Nodup/\((n=none/\∀(i:Nat) (e:κ×Xf×Xf),xs[i]? =some e->e.1=x->i∈r)\/∃(j:Nat) (e:κ×Xf×Xf),n=some j/\xs[j]? =some e/\e.1=x/\j ∉ r)) _ ?_ ?_ _ _ ⟨rfl,none,rfl,D,Z,.inl ⟨rfl,J⟩⟩
    ·rintro i r b s1 ⟨rfl,n,rfl,F,rn,N⟩
     obtain⟨e,l⟩:=F i<|.head _;have W:es[i]? =some (ent k e):=by rw[look,l];rfl
     have ni:=(Sw.mp rn).1;have I:=(Sw.mp rn).2;have G:∀j∈r,∃e,xs[j]? =some e:=λj g=>F j<|.tail _ g;have keep:e.1≠x->((n=none/\∀(i:Nat) (e:κ×Xf×Xf),xs[i]? =some e->e.1=x->i∈r)\/∃(j:Nat) (e:κ×Xf×Xf),n=some j/\xs[j]? =some e/\e.1=x/\j ∉ r):=λL=>by
      obtain ⟨Y,K⟩|⟨j,p,Y,g,H,nj⟩:=N
      ·refine .inl ⟨Y,λj p B f=>?_⟩
       obtain z|z:=Rf.mp (K j p B f)
       ·rw[z,l]at B
        cases B;exact absurd f L
       ·exact z
      ·exact .inr ⟨j,p,Y,g,H,λz=>nj<|.tail _ z⟩
     rw[W];dsimp only;split
     ·refine Qz (RP M hd<|Qz<|k.eqv hu (O e<|QH l) R<|Qz<|RP M hd ?_)
      rw[QG<|by simp];by_cases f:e.1=x
      ·rw[dT0 f,QI rfl]
       obtain ⟨rfl,K⟩|⟨j,p,rfl,g,H,nj⟩:=N
       ·rw[QG<|by simp]
        refine Qz<|RW ?_;split
        ·rw[eE nd l f]at q
         exact QA<|QA q
        ·exact QA ⟨rfl,some i,rfl,G,I,.inr ⟨i,e,rfl,l,f,ni⟩⟩
       ·have:=(eE nd g H).symm.trans (eE nd l f)
        cases this;exact absurd (List.Mem.head _) nj
      ·rw[QM f,QG<|by decide]
       refine Qz<|RW ?_;rw[QG<|by simp];exact QA ⟨rfl,n,rfl,G,I,keep f⟩
     ·rename_i L
      refine QA ⟨rfl,n,rfl,G,I,keep λf=>L ?_⟩;show(k.hash e.1==k.hash x)=true;rw[f];exact RS _
    ·rintro b s1 ⟨rfl,n,rfl,F,_,N⟩
     obtain ⟨rfl,K⟩|⟨j,e,rfl,g,f,_⟩:=N
     ·rw[none_of λi e h f=>nomatch K i e h f]at q
      exact QA q
     ·rw[eE nd g f]at q
      exact QA q
def vS(k:gq P w κ)(h:Heap)(d:Xg)(xs:Xm (κ×Xf×Xf)):Prop:=∃o a e,h.get? d=some o/\o.ExactDict/\o.data=.dict a e/\a.toList=xs.map (ent k)
def uR(xs:Xm (κ×Xf×Xf))(x:κ):Xk (κ×Xf×Xf):=xs.find? λe=>decide<|e.1=x
def i9(xs:Xm (κ×Xf×Xf))(x:κ)(u v:Xf):Xm (κ×Xf×Xf):=if(uR xs x).isSome then xs.map (λe=>if e.1=x then(e.1,e.2.1,v) else e) else xs++[(x,u,v)]
def v5{x:κ}(h:uR xs x=none):i9 xs x u v=xs++[(x,u,v)]:=by
 unfold i9;rw[h];rfl
def wg{e:κ×Xf×Xf}(h:uR xs x=some e):i9 xs x u v=xs.map (λe=>if e.1=x then(e.1,e.2.1,v) else e):=by
 unfold i9;rw[h];rfl
def uH{xs:Xm (κ×Xf×Xf)}{x:κ}{i:Nat}(h:(xs.findIdx? λe=>decide<|e.1=x)=some i):∃e,xs[i]? =some e/\uR xs x=some e/\e.1=x:=by
 obtain⟨a,f,l⟩:=SR.mp h;refine⟨xs[i],QB a,List.find?_eq_some_iff_getElem.mpr ⟨f,i,a,rfl,λj g=>?_⟩,QO f⟩;have:=l j g
 simpa using this
def tG{x:κ}(h:(xs.findIdx? λe=>decide<|e.1=x)=none):uR xs x=none/\∀e∈xs,e.1≠x:=by
 have f:=UL.mp h;exact⟨Vt.mpr λe a q=>(by rw[f e a]at q;cases q),λe a q=>(by
  have:=f e a;rw[dT0 q]at this;cases this)⟩
def tF(p:k.qd<=8){x:κ}(sh:Sh u)(j:k.room A)(l:k.is s.heap x u)(a:vS k s.heap d xs)(v:∀e∈xs,k.is s.heap e.1 e.2.1)(nd:(xs.map (·.1)).Nodup)(q:Q ((uR xs x).map (·.2.2)) { s with toks:=s.toks+k.draws x }):wpAny (model P w) A (dictGet d u) Q E s:=by
 obtain⟨o,r,y,g,_,a,h⟩:=a;unfold dictGet;refine Rh<|Qz<|k.hashes j l<|Qz<|qq p sh j l g a h v nd ?_;cases f:xs.findIdx? (λe=>decide<|e.1=x) with
 |none=>
  rw[(tG f).1]at q;exact QA q
 |some i=>
  obtain⟨e,n,m,_⟩:=uH f;rw[m]at q;refine Qz<|Sm g a ?_;rw[show r[i]? =some (ent k e) by rw[<-QW,h,QR,n];rfl];exact QA q
def yF{xs:Xm (κ×Xf×Xf)}(nd:(xs.map (·.1)).Nodup)(h:xs[i]? =some e)(ex:e.1=x):((xs.map<|ent k).modify i λe=>{ e with val:=v })=(xs.map λe=>if e.1=x then(e.1,e.2.1,v) else e).map (ent k):=by
 refine UN λj=>?_;rw[List.getElem?_modify,QR,QR,QR];cases a:xs[j]? with
 |none=>rfl
 |some f=>
  show some (if i=j then _ else ent k f)=some (ent k<|if f.1=x then _ else f);by_cases g:i=j
  ·subst g
   rw[h]at a;cases a;rw[QI rfl,QI ex];rfl
  ·have:f.1≠x:=λl=>by
    have:=(eE nd a l).symm.trans<|eE nd h ex;grind
   rw[QG g,QG this]
def Ae(C:k.qd<=8){d:Xg}{xs:Xm (κ×Xf×Xf)}{u v:Xf}{Q:Xp}(sh:Sh u)(j:k.room A)(l:k.is s.heap x u)(a:vS k s.heap d xs)(B:∀e∈xs,k.is s.heap e.1 e.2.1)(nd:(xs.map (·.1)).Nodup)(sz:xs.length<=sizeLine)
  (q:∀h',vS k h' d (i9 xs x u v)->Heap.SameBut d s.heap h'->Q () { s with heap:=h',toks:=s.toks+k.draws x }):wpAny (model P w) A (dictSet d u v) Q E s:=by
 obtain⟨o,z,m,f,n,a,g⟩:=a;have D:z.size=xs.length:=by rw[<-QS,g,QF]
 unfold dictSet;refine Rh<|Qz<|k.hashes j l ?_;unfold dictSetHashed;refine Rh<|Qz<|qq C sh j l f a g B nd ?_;cases h:xs.findIdx? (λe=>decide<|e.1=x) with
 |none=>
  refine Qz<|RW<|wpAny_updateDictKeys f a<|q _ ⟨_,_,m+1,Sj _ f<|VP<|UG a _,n.mapDictKeys _,UG a _,?_⟩<|Rb ..;rw[v5 (tG h).1,Si,<-g];simp[ent]
 |some i=>
  obtain⟨e,y,r,p⟩:=uH h;refine Qz<|RW<|Qz<|wpAny_updateDict f a<|wpAny_point<|q _ ⟨_,_,m,Sj _ f<|VP<|Obj.data_mapDict a _,n.mapDict _,Obj.data_mapDict a _,?_⟩<|Rb ..;rw[wg r,<-yF nd y p,<-g];grind
def EM(y:k.qd<=8){x:κ}(sh:Sh u)(l:k.room A)(m:k.is s.heap x u)(a:vS k s.heap d xs)(q:∀e∈xs,k.is s.heap e.1 e.2.1)(nd:(xs.map (·.1)).Nodup)(sz:xs.length<=sizeLine)
  (q1:∀e,uR xs x=some e->Q e.2.2 { s with toks:=s.toks+k.draws x })(B:uR xs x=none->∀h',vS k h' d (xs++[(x,u,v)])->Heap.SameBut d s.heap h'->Q v { s with heap:=h',toks:=s.toks+k.draws x }):wpAny (model P w) A (dictSetDefault d u v) Q E s:=by
 obtain⟨o,j,r,f,z,a,g⟩:=a;have C:j.size=xs.length:=by rw[<-QS,g,QF]
 unfold dictSetDefault;refine Rh<|Qz<|k.hashes l m<|Qz<|qq y sh l m f a g q nd ?_;cases h:xs.findIdx? (λe=>decide<|e.1=x) with
 |none=>
  refine Qz<|RW<|Qz<|wpAny_updateDictKeys f a<|QA<|B (tG h).1 _ ⟨_,_,r+1,Sj _ f<|VP<|UG a _,z.mapDictKeys _,UG a _,?_⟩<|Rb ..;rw[Si,<-g];simp[ent]
 |some i=>
  obtain⟨e,p,n,_⟩:=uH h;refine Qz<|Sm f a ?_;rw[show j[i]? =some (ent k e) by rw[<-QW,g,QR,p];rfl];exact Qz<|RW<|QA<|q1 e n
end
def jm(P:Xi)(w:Xj):gq P w Key where
 is:=λ_ x u=>(cL P w).is x u=true
 hash:=(cL P w).hash
 draws:=λ_=>1
 room:=λ_=>True
 inj:=λa b=>(cL P w).inj _ _ _ a b
 eqv:=λ_ a b q=>(cL P w).eqBool a b q
 hashes:=λ_ a q=>(cL P w).pyHash a q
 qd:=0
 quiet:=λ_ a q=>by
  rw[eqIsQuiet_byValue _<|(cL P w).byValue _ _ a];exact QA q
 keep:=λ_ a=>a
 txs:=λ{h x y z t u} a b=>by
  rw[<-(cL P w).strs x z t u a,KeyKind.is_eq_decide b x];exact VQ.mpr ⟨Eq.symm,Eq.symm⟩
section
variable [DecidableEq κ] (k:gq P w κ)
inductive qI(h:Heap):Xm κ->Xm Xf->Prop
 |nil:qI h [] []
 |cons {x:κ}{u:Xf}{xs:Xm κ}{us:Xm Xf}(a:k.is h x u)(b:qI h xs us):qI h (x::xs) (u::us)
def iD(h:Heap)(xs:Xm κ)(u:Xf):Prop:=∃a items,u=.ref a/\h.IsTuple a items/\qI k h xs items.toList
end
section
variable [DecidableEq κ]{k:gq P w κ}{A:Xl}{E:Xo}{s:Xh}
theorem qI.inj{h:Heap}:∀{xs ys:Xm κ}{us:Xm Xf},qI k h xs us->qI k h ys us->xs=ys
 |_,_,_,.nil,.nil=>rfl
 |_,_,_,.cons a b,.cons c d=>by rw[k.inj a c,qI.inj b d]
def iD.inj(a:iD k h xs u)(b:iD k h ys u):xs=ys:=by
 obtain⟨a,j,rfl,⟨o,e,_,n,d⟩,i⟩:=a;obtain⟨b,m,q,⟨r,g,_,p,f⟩,l⟩:=b;cases q;rw[e]at g;cases g;rw[d]at f;cases f;exact i.inj l
theorem qI.keep{h h':Heap}(e:∀b o,h.get? b=some o->h'.get? b=some o):∀{xs:Xm κ}{us:Xm Xf},qI k h xs us->qI k h' xs us
 |_,_,.nil=>.nil
 |_,_,.cons a b=>.cons (k.keep e a)<|qI.keep e b
def iD.keep(f:∀b o,h.get? b=some o->h'.get? b=some o)(a:iD k h xs u):iD k h' xs u:=by
 obtain⟨a,is,e,⟨o,g,c⟩,i⟩:=a;exact⟨a,is,e,⟨o,f _ _ g,c⟩,i.keep f⟩
def o5(k:gq P w κ)(xs:Xm κ):Int:=reduceHash<|Builtin.Tuple.tupleHashOf<|xs.map k.hash
def jM(k:gq P w κ):Xm κ->Nat
 |[]=>0
 |x::xs=>k.draws x+jM k xs
def iD.ty(h:iD k s.heap xs (.ref a)):s.TypeIs (.ref a) "tuple" :=by
 obtain⟨_,_,q,⟨o,e,c,_⟩,_⟩:=h;cases q;exact⟨o,e,c⟩
def w8(G:A.units<cLine)(hr:k.room A.in1)(h:iD k s.heap xs u)(q:Q (o5 k xs) { s with toks:=s.toks+(jM k xs+1) }):wpAny (model P w) A (pyHash u) Q E s:=by
 obtain⟨a,items,rfl,C,I⟩:=id h;have j:=h.ty;obtain⟨o,D,_,n,z⟩:=C;unfold pyHash pyHashByItsType;refine Qz<|wpAny_cRoomFor_or (.inr G)<|Qz<|SY j U3.lookup ?_;rw[QG<|by grind];refine Qz<|SY j U3.lookup<|Qz<|wpAny_callSpecialIfBoundUnlessNone?_slot j U3<|Rj U3 j F.entry_tuple_hash ?_ (F.args_tuple_hash_1 _);show wpAny _ _ (Builtin.Tuple.tupleItemsOf (.ref a) >>= _) _ _ s;refine Qz<|VZ D z<|Qz ?_;rw[<-Array.forIn_toList];refine wpAny_forIn_list _ (λr (b:Array Int) B=>∃f i m,xs=f++i/\qI k s.heap i r/\b.toList=f.map k.hash/\m+jM k i=jM k xs/\B={ s with toks:=s.toks+m }) _ ?_ ?_ _ _ ⟨[],xs,0,rfl,I,rfl,T9 _,rfl⟩
 ·rintro v r b H ⟨f,i,m,rfl,p,l,y,rfl⟩
  cases p with
  | @cons x _ lf' _ a1 a2=>
   refine Qz<|k.hashes hr a1 ?_;have e:jM k (x::lf')=k.draws x+jM k lf':=rfl;exact QA ⟨f++[x],lf',m+k.draws x,by simp,a2,by simp[l],by lia,by simp[Nat.add_assoc]⟩
 ·rintro b H ⟨f,i,m,rfl,p,l,y,rfl⟩
  cases p;have g:=y;rw[Rm]at q g;show wpAny _ _ (retInt<|Builtin.Tuple.tupleHashOf b.toList) _ _ _;rw[l];refine wpAny_ret_mkInt ?_;subst g;unfold o5 reduceHash at q;show wpAny _ _ (if(decide (-(2:Int)^63<=Builtin.Tuple.tupleHashOf (f.map k.hash))&&decide (Builtin.Tuple.tupleHashOf (f.map k.hash)<2^63))=true then _ else _) Q E _;split at q
  ·rename_i c
   rw[QI c];exact QA (by lia)
  ·rename_i c
   rw[QG c];exact Qz (RW<|QA<|by lia)
def En(hr:k.room A)(H:iD k s.heap xs (.ref a))(m:iD k s.heap ys (.ref b))(q:R (.done<|.ret<|.bool<|decide<|xs=ys) s):wpAny (model P w) A (Builtin.«tuple.__eq__» ⟨[.ref a,.ref b],[]⟩) R E s:=by
 have B:=m.ty;obtain⟨_,j,J,⟨L,C,_,M,D⟩,I⟩:=H;obtain⟨_,i,F,⟨K,p,_,N,n⟩,x⟩:=m;cases J;cases F;show wpAny _ _ (isInstance (.ref b) (.type "tuple") >>= _) _ _ s;refine Qz<|Ti B isSubtype_tuple_tuple ?_;rw[QG<|by decide];refine Qz<|VZ C D<|Qz<|VZ p n<|Qz ?_;refine wpAny_forIn_list _ (λr z o=>z.1=none/\o=s/\∃f g h e,r=List.zip h e/\qI k s.heap f h/\qI k s.heap g e/\(decide (f=g)=decide (xs=ys))/\(h.length==e.length)=(j.size==i.size)) _ ?_ ?_ _ _ ⟨rfl,rfl,xs,ys,j.toList,i.toList,rfl,I,x,rfl,by simp⟩
 ·rintro⟨u,v⟩ r z s1 ⟨hz,rfl,f,g,h,e,hr',j1,j2,hdec,XE⟩
  cases j1 with
  |nil=>simp at hr'
  | @cons x1 u1 xs1 us1 a1 b1=>
   cases j2 with
   |nil=>simp at hr'
   | @cons y1 v1 ys1 vs1 a2 b2=>
    simp only[List.zip_cons_cons,List.cons.injEq,Prod.mk.injEq]at hr';obtain⟨⟨rfl,rfl⟩,rfl⟩:=hr';refine Qz<|k.eqv hr a1 a2 ?_;by_cases l:x1=y1
    ·subst l
     rw[dT0 rfl,QG<|by decide];refine QA ⟨rfl,rfl,xs1,ys1,us1,vs1,rfl,b1,b2,?_,by simpa using XE⟩;grind
    ·rw[QM l,QI<|by decide]
     have G:decide (xs=ys)=false:=by grind
     rw[G]at q;exact Qz<|QA<|QA<|QA q
 ·rintro⟨z1,z2⟩ s1 ⟨hz,rfl,f,g,h,e,hr',j1,j2,hdec,XE⟩
  cases (show z1=none from hz);refine QA ?_;have y:(j.size==i.size)=decide (xs=ys):=by
   rw[<-hdec,<-XE];cases j1 with
   |nil=>cases j2 with
    |nil=>simp
    |cons _ _=>simp
   |cons _ _=>cases j2 with
    |nil=>simp
    |cons _ _=>simp at hr'
  show R (.done<|.ret<|.bool<|j.size==i.size) _;grind
def D0(h:A.units<cLine)(hr:k.room A.in1)(f:iD k s.heap xs u)(g:iD k s.heap ys v)(q:Q (decide<|xs=ys) s):wpAny (model P w) A (eqBool u v) Q E s:=by
 obtain⟨a,_,rfl,_⟩:=id f;obtain⟨b,_,rfl,_⟩:=id g;unfold eqBool;refine Rh ?_;by_cases e:(Value.ref a==Value.ref b)=true
 ·rw[QI e]
  cases Vq.mp e;cases f.inj g;exact Qz (RW<|QA<|by simpa using q)
 ·rw[QG e]
  exact Qz<|wpAny_richCompare_same_room f.ty g.ty WJ (Rj WJ f.ty F.entry_tuple_eq (En hr f g ⟨_,rfl,(λz=>nomatch z),RG q⟩)<|F.args_tuple_eq_2 _ _) h
def rS(C:k.qd<=n)(h:iD k s.heap xs u)(q:Q true s):wpAny (model P w) A (eqIsQuiet (n+1) u) Q E s:=by
 obtain⟨a,items,rfl,l,y⟩:=id h;have e:=h.ty;obtain⟨o,p,_,m,g⟩:=l;unfold eqIsQuiet;refine Qz<|SY e WJ.lookup ?_;refine Qz<|Ti e isSubtype_tuple_tuple ?_;rw[QG<|by decide];refine Qz<|Ur p g<|Qz ?_;rw[<-Array.forIn_toList];refine wpAny_forIn_list _ (λr z i=>z.1=none/\i=s/\∃xs,qI k s.heap xs r) _ ?_ ?_ _ _ ⟨rfl,rfl,xs,y⟩
 ·rintro v r z x ⟨f,rfl,xs,B⟩
  cases B with
  |cons D j=>
   refine Qz<|k.quiet C D ?_;rw[QG<|by decide];exact QA ⟨rfl,rfl,_,j⟩
 ·rintro⟨z1,z2⟩ x ⟨f,rfl,_⟩
  cases (show z1=none from f);exact QA q
def OH(k:gq P w κ):gq P w (Xm κ) where
 is:=iD k
 hash:=o5 k
 draws:=λh=>jM k h+1
 room:=λA=>A.units<cLine/\k.room A.in1
 inj:=λa b=>a.inj b
 eqv:=λhr a b q=>D0 hr.1 hr.2 a b q
 hashes:=λhr a q=>w8 hr.1 hr.2 a q
 qd:=k.qd+1
 quiet:=λ{A E s x u n Q} f a q=>by
  cases n with
  |zero=>exact absurd f<|Vc _
  |succ n=>exact rS (WK f) a q
 keep:=λg a=>a.keep g
 txs:=λa _=>by
  obtain⟨_,_,e,_⟩:=a;cases e
end
section
variable {A:Xl}{E:Xo}{s:Xh}
abbrev Pl:=Key ⊕ Xm Key
def kK(h:(cL P w).is x u=true):(∃i t,x=.inl i/\u=.int i t)\/∃z t,x=.inr z/\u=.str z t:=dw h
def MD(P:Xi)(w:Xj)(h:Heap):Pl->Xf->Prop
 |.inl x,u=>(cL P w).is x u=true
 |.inr xs,u=>iD (jm P w) h xs u
def jv(e:A.units<cLine)(h:(cL P w).is x u=true)(g:iD (jm P w) s.heap xs v)(q:Q false s):wpAny (model P w) A (eqBool u v) Q E s/\wpAny (model P w) A (eqBool v u) Q E s:=by
 obtain⟨a,items,rfl,f,_⟩:=g;obtain ⟨i,t,_,rfl⟩|⟨z,t,_,rfl⟩:=kK h
 ·exact⟨SeqAt.EqAt.int_tuple i t f e P w E Q q,SeqAt.EqAt.tuple_int i t f e P w E Q q⟩
 ·exact⟨SeqAt.EqAt.str_tuple z t f e P w E Q q,SeqAt.EqAt.tuple_str z t f e P w E Q q⟩
def Ai(g:(cL P w).is x u=true)(f:iD (jm P w) h xs u):False:=by
 obtain⟨a,items,rfl,_⟩:=f;rcases kK g with ⟨i,t,_,e⟩|⟨z,t,_,e⟩<;>cases e
def O1(P:Xi)(w:Xj):gq P w Pl where
 is:=MD P w
 hash:=λx=>match x with
  |.inl x=>(cL P w).hash x
  |.inr g=>o5 (jm P w) g
 draws:=λx=>match x with
  |.inl _=>1
  |.inr g=>jM (jm P w) g+1
 room:=λA=>A.units<cLine
 inj:=λ{h u x y} a b=>by
  cases x<;>cases y
  ·exact RH _<|(cL P w).inj _ _ _ a b
  ·exact(Ai a b).elim
  ·exact(Ai b a).elim
  ·exact RH _<|iD.inj a b
 eqv:=λ{A E s x y u v Q} f a b q=>by
  cases x<;>cases y
  ·exact(cL P w).eqBool a b (by simpa using q)
  ·exact(jv f a b<|by simpa using q).1
  ·exact(jv f b a<|by simpa using q).2
  ·exact D0 (k:=jm P w) f True.intro a b (by simpa using q)
 hashes:=λ{A E s x u Q} f a q=>by
  cases x
  ·exact(cL P w).pyHash a q
  ·exact w8 (k:=jm P w) f True.intro a q
 qd:=1
 quiet:=λ{A E s x u n Q} j a q=>by
  cases x
  ·exact(jm P w).quiet (RF _) a q
  ·cases n with
   |zero=>exact absurd j<|Vc _
   |succ n=>exact rS (k:=jm P w) (RF _) a q
 keep:=λ{h l x u} i a=>by
  cases x
  ·exact a
  ·exact iD.keep (k:=jm P w) i a
 txs:=λ{h x y z t u} a b=>by
  cases x
  ·cases y
   ·rw[(jm P w).txs (h:=h) a b]
    exact VQ.mpr ⟨λe=>RH _ e,λe=>by injection e⟩
   ·obtain⟨_,_,rfl,_⟩:=b
    exact(QM λe=>by cases e).symm
  ·obtain⟨_,_,e,_⟩:=a
   cases e
end
section
variable {P:Xi}{w:Xj}{κ:Type} [DecidableEq κ]{k:gq P w κ}{A:Xl}{E:Xo}{s:Xh}{d:Xg}{xs:Xm (κ×Xf×Xf)}{x:κ}{u:Xf}{v:Xf}
def vS.ty(h:vS k s.heap d xs):s.TypeIs (.ref d) "dict" :=by
 obtain⟨o,_,_,e,c,_⟩:=h;exact⟨o,e,c.1⟩
structure Lk(k:gq P w κ)(A:Xl)(s:Xh)(d:Xg)(xs:Xm (κ×Xf×Xf))(x:κ)(u:Xf):Prop where
 q8:k.qd<=8
 sh:Sh u
 hu:k.room A.in1
 hx:k.is s.heap x u
 hd:vS k s.heap d xs
 hi:∀e∈xs,k.is s.heap e.1 e.2.1
 nd:(xs.map (·.1)).Nodup
def C7(L:Lk k A s d xs x u)(h:uR xs x=some e)(q:Q e.2.2 { s with toks:=s.toks+k.draws x }):wpAny (model P w) A (getItem (.ref d) u) Q E s:=by
 unfold getItem;refine Rh (Qz<|wpAny_sequenceKey L.hd.ty (by decide)<|Qz<|RX L.hd.ty slot_dict_getitem<|Rj slot_dict_getitem L.hd.ty entry_dict_getitem ?_ (args_dict_getitem _ _));show wpAny _ _ (dictGet d u >>= _) _ _ s;refine Qz<|tF L.q8 L.sh L.hu L.hx L.hd L.hi L.nd ?_;rw[h];exact QA ⟨_,rfl,QA q⟩
def has_any(L:Lk k A s d xs x u)(e:(d==sysModules)=false)(q:Q (uR xs x).isSome { s with toks:=s.toks+k.draws x }):wpAny (model P w) A (contains (.ref d) u) Q E s:=by
 unfold contains;refine Rh<|Qz<|SY L.hd.ty slot_dict_contains.lookup ?_;rw[QG<|by grind];refine Qz<|wpAny_callSpecialUnlessNone?_slot L.hd.ty slot_dict_contains<|Rj slot_dict_contains L.hd.ty entry_dict_contains ?_ (args_dict_contains _ _);show wpAny _ _ (dictGet d u >>= _) _ _ s;refine Qz<|tF L.q8 L.sh L.hu L.hx L.hd L.hi L.nd ?_;cases a:uR xs x with
 |some p=>
  rw[a]at q;exact QA ⟨_,rfl,RG q⟩
 |none=>
  rw[a]at q;exact Qz<|wpAny_pendingKey_other e<|QA ⟨_,rfl,RG q⟩
def Hf(L:Lk k A s d xs x u)(sz:xs.length<=sizeLine)(q:∀h',vS k h' d (i9 xs x u v)->Heap.SameBut d s.heap h'->Q () { s with heap:=h',toks:=s.toks+k.draws x }):wpAny (model P w) A (setItem (.ref d) u v) Q E s:=by
 unfold setItem;refine Rh (Qz<|wpAny_sequenceKey L.hd.ty (by decide)<|Qz<|RX L.hd.ty slot_dict_setitem<|Rj slot_dict_setitem L.hd.ty entry_dict_setitem ?_ (args_dict_setitem _ _ _));refine Qz<|SX L.hd.ty ?_;show wpAny _ _ (dictSet d u v >>= _) _ _ s;exact Qz<|Ae L.q8 L.sh L.hu L.hx L.hd L.hi L.nd sz λh' e a=>QA ⟨.none,rfl,QA<|q h' e a⟩
def ET(L:Lk k A s d xs x u)(e:(d==sysModules)=false)(q:Q (((uR xs x).map (·.2.2)).getD v) { s with toks:=s.toks+k.draws x }):wpAny (model P w) A (call (.builtin "dict.get") [.ref d,u,v]) Q E s:=by
 refine Rj U5 L.hd.ty Vh ?_ (Va _ _ _);show wpAny _ _ (dictGet d u >>= _) _ _ s;refine Qz<|tF L.q8 L.sh L.hu L.hx L.hd L.hi L.nd ?_;cases a:(uR xs x).map (·.2.2) with
 |some p=>
  rw[a]at q;exact QA ⟨_,rfl,q⟩
 |none=>
  rw[a]at q;exact Qz<|wpAny_missed_other e<|QA ⟨_,rfl,q⟩
def rq(L:Lk k A s d xs x u)(g:(d==sysModules)=false)(sz:xs.length<=sizeLine)(q1:∀e,uR xs x=some e->Q e.2.2 { s with toks:=s.toks+k.draws x })(h:uR xs x=none->∀h',vS k h' d (xs++[(x,u,v)])->Heap.SameBut d s.heap h'->Q v { s with heap:=h',toks:=s.toks+k.draws x }):wpAny (model P w) A (call (.builtin "dict.setdefault") [.ref d,u,v]) Q E s:=by
 refine Rj WL L.hd.ty F.entry_dict_setdefault ?_ (F.args_dict_setdefault_3 _ _ _);unfold Builtin.«dict.setdefault»;refine Qz ?_;unfold Builtin.Dict.keyAndDefault;refine Qz<|SX L.hd.ty ?_;refine QA ?_;show wpAny _ _ (if(d==sysModules)=true then _ else(dictSetDefault d u v >>= _)) _ _ s;rw[QG<|by rw[g];decide];exact Qz<|EM L.q8 L.sh L.hu L.hx L.hd L.hi L.nd sz (λe a=>QA ⟨_,rfl,q1 e a⟩) λi h' j f=>QA ⟨v,rfl,h i h' j f⟩
end
def wK(f:(d==sysModules)=false)(e:s.heap.get? d=some o)(g:o.ExactDict)(hd:o.data=.dict es ep)
  (q:Q (.ref s.heap.objs.size) { s with heap:=s.heap.push { cls:=.type "dict_keyiterator",data:=.fields #[.ref d,.int 0 0,.int es.size 0,.int ep 0] } }):wpAny (model P w) A (pyIter<|.ref d) Q E s:=by
 have a:s.TypeIs (.ref d) "dict" :=⟨o,e,g.1⟩;refine Uu a F.slot_dict_iter<|Rj F.slot_dict_iter a F.entry_dict_iter ?_ (F.args_dict_iter_1 _);unfold Builtin.«dict.__iter__» Builtin.Dict.dictSlotNone;refine Qz<|Qz<|SX a ?_;refine QA ?_;show wpAny _ _ (Builtin.Dict.showsAll d >>= _) _ _ s;unfold Builtin.Dict.showsAll;rw[QG<|by rw[f];decide];refine Qz<|QA<|Qz<|Sm e hd<|Qz<|RP e hd<|Qz<|RM<|QA ⟨_,rfl,"dict_keyiterator",_,⟨_,QN _ rfl,rfl⟩,SJ.lookup,?_⟩
 simpa [rawInt] using q
def w4(f:s.heap.IsKeyIter it d i es.size ep)(j:s.heap.get? d=some o)(hd:o.data=.dict es ep)(l:i<es.size)
  (q:∀h',h'.IsKeyIter it d (i+1) es.size ep->Heap.SameBut it s.heap h'->Q (some es[i].key) { s with heap:=h' }):wpAny (model P w) A (pyNext<|.ref it) Q E s:=by
 obtain⟨m,e,h,a⟩:=id f;unfold pyNext;refine Qz<|TC<|RX f.typeIs SJ<|Rj SJ f.typeIs Ws ?_ (Wh _);refine Qz<|QA<|Qz<|Qz ?_
 first|refine Qz (Tu f.typeIs<|QA<|Qz<|SH e a ?_)|refine Qz<|Ua f.typeIs<|QA<|Qz<|SH e a ?_
 simp only[show Builtin.Dict_items.ownsTuple "dict_keyiterator" =false by decide,Xd,if_false];show wpAny _ _ (if(Value.ref d==Value.none)=true then _ else _) _ _ s;rw[QG<|show ¬((Value.ref d==Value.none)=true) from bF0];refine Qz<|QA<|Qz<|Sm j hd ?_;rw[QG<|by simp];refine Qz<|QA<|Qz<|RP j hd ?_;rw[QG<|by simp];refine QA ?_;simp only[show ¬((i:Int)<0) from by lia,if_false,Int.toNat_natCast,Array.getElem?_eq_getElem l];refine Qz ?_
 first|refine Qz (Tu f.typeIs<|QA<|Qz<|Vu f.typeIs ?_)|refine Qz<|Ua f.typeIs<|QA<|Qz<|Vu f.typeIs ?_
 show wpAny _ _ (setField (.ref it) 1 (rawInt<|(i:Int)+1) >>= _) _ _ s;refine Qz (Sb e a (by simp) ?_);have g:(s.heap.update it<|Obj.mapFields (·.setIfInBounds 1 (rawInt<|(i:Int)+1))).IsKeyIter it d (i+1) es.size ep:=⟨_,Sj _ e<|Vv<|UU a _,(Obj.cls_mapFields ..).trans h,by rw[UU a];simp[rawInt]⟩;refine Qz<|Rh<|Qz<|Vu g.typeIs ?_;exact QA<|QA ⟨_,rfl,QA<|q _ g<|Rb ..⟩
def vT(h:A.handled=none)(f:s.heap.IsKeyIter it d i es.size ep)(g:s.heap.get? d=some o)(hd:o.data=.dict es ep)(l:es.size<=i)(q:∀h',Heap.ExtBut it s.heap h'->Q none { s with heap:=h' }):wpAny (model P w) A (pyNext<|.ref it) Q E s:=by
 obtain⟨m,e,j,a⟩:=id f;unfold pyNext;refine Qz<|TC<|RX f.typeIs SJ<|Rj SJ f.typeIs Ws ?_ (Wh _);refine Qz<|QA<|Qz<|Qz ?_
 first|refine Qz (Tu f.typeIs<|QA<|Qz<|SH e a ?_)|refine Qz<|Ua f.typeIs<|QA<|Qz<|SH e a ?_
 simp only[show Builtin.Dict_items.ownsTuple "dict_keyiterator" =false by decide,Xd,if_false];show wpAny _ _ (if(Value.ref d==Value.none)=true then _ else _) _ _ s;rw[QG<|show ¬((Value.ref d==Value.none)=true) from bF0];refine Qz<|QA<|Qz<|Sm g hd ?_;rw[QG<|by simp];refine Qz<|QA<|Qz<|RP g hd ?_;rw[QG<|by simp];refine QA ?_;simp only[show ¬((i:Int)<0) from by lia,if_false,Int.toNat_natCast,getElem?_eq_none l];refine Qz ?_
 first|refine Qz (Tu f.typeIs<|QA ?_)|refine Qz<|Ua f.typeIs<|QA ?_
 show wpAny _ _ (setField (.ref it) 0 .none >>= _) _ _ s;refine Qz (Sb e a (by simp) ?_);refine Qz ?_;simp only[newExc,newTuple];refine Qz (RM ?_ (by size_fits));refine Qz (U2 (by first|rfl| (simp only[firstArgMember];rfl))<|RM ?_ (by size_fits));simp only[raiseNew];refine Qz<|wpAny_handled ?_;rw[show A.in1.handled=none from h];refine Qz<|QA<|wpAny_throw ?_;refine Qz<|Ti ⟨_,QN _ rfl,rfl⟩ W8 ?_;exact QA<|q _<|((Rb ..).extBut.push _).push _
def DG:entryFor table "dict_itemiterator.__iter__" =some Builtin.«dict_keyiterator.__iter__» :=W9 (id':= "dict_keyiterator.__iter__") (by kernel_rfl) rfl (by decide+kernel) (by kernel_rfl)
def Dw (e:(d==sysModules)=false) (g:s.heap.get? d=some o) (f:o.ExactDict) (q:Q (.ref s.heap.objs.size) { s with heap:=s.heap.push { cls:=.type "dict_items",data:=.fields #[.ref d] } }):wpAny (model P w) A (call (.builtin "dict.items") [.ref d]) Q E s:=by
 have a:s.TypeIs (.ref d) "dict" :=⟨o,g,f.1⟩;refine Rj F.slot_dict_items a F.entry_dict_items ?_ (F.args_dict_items_1 _);unfold Builtin.«dict.items» Builtin.Dict.noArgs;refine Qz<|Qz<|SX a ?_;refine QA ?_;unfold Builtin.Dict.showsAll;rw[QG<|by rw[e];decide];exact Qz<|QA<|Qz<|RM<|QA ⟨_,rfl,q⟩
def AY(a:s.heap.IsItemsView v d)(g:s.heap.get? d=some o)(hd:o.data=.dict es ep)
  (q:Q (.ref s.heap.objs.size) { s with heap:=s.heap.push { cls:=.type "dict_itemiterator",data:=.fields #[.none,.bool false,.ref d,.int 0 0,.int es.size 0,.int ep 0,.none,.none] } }):wpAny (model P w) A (pyIter<|.ref v) Q E s:=by
 obtain⟨i,f,h,e⟩:=id a;refine Uu a.typeIs F.slot_dict_items_iter<|Rj F.slot_dict_items_iter a.typeIs F.entry_dict_items_iter ?_ (F.args_dict_items_iter_1 _);unfold Builtin.«dict_items.__iter__»;refine Qz<|QA<|Qz ?_;unfold Builtin.Dict_items.dictOf;refine Qz<|Wt f e rfl<|QA<|Qz ?_;unfold Builtin.Dict_items.newIterator;refine Qz<|Sm g hd<|Qz<|RP g hd ?_;simp only[show Builtin.Dict_items.ownsTuple "dict_itemiterator" =true by decide,if_true];refine RM (QA ⟨_,rfl,"dict_itemiterator",_,⟨_,QN _ rfl,rfl⟩,R5.lookup,?_⟩) (by simp only[sizeOk,Builtin.Dict_items.ownedTupleFields,size_toArray,length_append,length_cons,List.length_nil,sizeLine_eq];lia)
 simpa [rawInt,Builtin.Dict_items.ownedTupleFields] using q
def Bz(m:IsItemIter s.heap it d i es.size ep ok ov)(S:s.heap.get? d=some o)(hd:o.data=.dict es ep)(X:i<es.size)
  (q:∀h',IsItemIterOut h' it d (i+1) es.size ep es[i].key es[i].val s.heap.objs.size->h'.get? s.heap.objs.size=some { cls:=.type "tuple",data:=.seq #[es[i].key,es[i].val] }->h'.objs.size=s.heap.objs.size+1->(∀b o,b≠it->s.heap.get? b=some o->h'.get? b=some o)->Q (some<|.ref s.heap.objs.size) { s with heap:=h' }):wpAny (model P w) A (pyNext<|.ref it) Q E s:=by
 obtain⟨f,g,N,F,H⟩:=s;have h:Shared.TypeIs ⟨f,g,N,F,H⟩ (.ref it) "dict_itemiterator" :=⟨_,m,rfl⟩;unfold pyNext;refine Qz<|TC<|RX h R5<|Rj R5 h Wi ?_ (Wc _);refine Qz<|QA<|Qz<|Qz ?_
 first|refine Qz (Tj h<|QA<|Qz<|SH m rfl ?_)|refine Qz<|T7 h<|QA<|Qz<|SH m rfl ?_
 simp only[show Builtin.Dict_items.ownsTuple "dict_itemiterator" =true by decide,if_true];show wpAny _ _ (if(Value.ref d==Value.none)=true then _ else _) _ _ _;rw[QG<|show ¬((Value.ref d==Value.none)=true) from bF0];refine Qz<|QA<|Qz<|Sm S hd ?_;rw[QG<|by simp];refine Qz<|QA<|Qz<|RP S hd ?_;rw[QG<|by simp];refine QA ?_;simp only[show ¬((i:Int)<0) from by lia,if_false,Int.toNat_natCast,Array.getElem?_eq_getElem X];refine Qz ?_
 first|refine Qz (Tj h<|QA<|Qz<|Uv h ?_)|refine Qz<|T7 h<|QA<|Qz<|Uv h ?_
 show wpAny _ _ (setField (.ref it) 3 (rawInt<|(i:Int)+1) >>= _) _ _ ⟨f,g,N,F,H⟩;refine Qz (Uh m (by simp) λj B x=>?_)
 replace x:Heap.SameBut it f j:=x
 replace B:IsItemIter j it d (i+1) es.size ep ok ov:=by
  have e:((i+1:Nat):Int)=(i:Int)+1:=by lia
  unfold IsItemIter;rw[e]
  simpa [rawInt] using B
 have n:Shared.TypeIs ⟨j,g,N,F,H⟩ (.ref it) "dict_itemiterator" :=⟨_,B,rfl⟩;refine Qz<|Rh<|Qz<|Uv n<|Qz<|Uv n ?_;unfold Builtin.Dict_items.pairFromOwner;refine Qz<|VI ?_;have p:IsItemIter (j.push { cls:=.type "tuple",data:=.seq #[es[i].key,es[i].val] }) it d (i+1) es.size ep ok ov:=QE _ B;generalize L:j.push { cls:=.type "tuple",data:=.seq #[es[i].key,es[i].val] }=l at p;have J:j.objs.size=f.objs.size:=x.1;have U:l.get? f.objs.size=some { cls:=.type "tuple",data:=.seq #[es[i].key,es[i].val] }:=by
  rw[<-L,<-J];exact QN _ rfl
 have W:l.objs.size=f.objs.size+1:=by rw[<-L,Ub,J]
 have Y:∀b o,b≠it->f.get? b=some o->l.get? b=some o:=λb o a e=>by
  rw[<-L];exact QE _<|x.extBut b o a e
 rw[J];refine Qz ?_;unfold Builtin.Dict_items.ownedTupleIsFree;refine Qz<|Wt p rfl rfl<|QA ?_;simp only[if_true];refine Qz (Wt p rfl rfl<|Qz<|Wt p rfl rfl<|Qz<|Uh p (by simp) λM O z=>?_)
 replace z:Heap.SameBut it l M:=z
 replace O:IsItemIter M it d (i+1) es.size ep es[i].key ov:=O
 refine Qz (Uh O (by simp) λI R v=>?_)
 replace v:Heap.SameBut it M I:=v
 replace R:IsItemIter I it d (i+1) es.size ep es[i].key es[i].val:=R
 refine Qz (Uh R (by simp) λK D C=>?_)
 replace C:Heap.SameBut it I K:=C
 replace D:IsItemIterOut K it d (i+1) es.size ep es[i].key es[i].val f.objs.size:=D
 refine Qz (Uh D (by simp) λy G r=>?_)
 replace r:Heap.SameBut it K y:=r
 replace G:IsItemIterOut y it d (i+1) es.size ep es[i].key es[i].val f.objs.size:=G
 have T:∀b o,b≠it->l.get? b=some o->y.get? b=some o:=λb o a e=>r.extBut b o a<|C.extBut b o a<|v.extBut b o a<|z.extBut b o a e;refine Qz<|Wn<|QA<|QA ⟨_,rfl,QA<|q y G (T _ _ (UB<|QY m) U) ?_ λb o a e=>T b o a<|Y b o a e⟩;rw[r.1,C.1,v.1,z.1,W]
def Br(g:A.handled=none)(e:IsItemIter s.heap it d i es.size ep ok ov)(f:s.heap.get? d=some o)(hd:o.data=.dict es ep)(h:es.size<=i)(q:∀h',Heap.ExtBut it s.heap h'->Q none { s with heap:=h' }):wpAny (model P w) A (pyNext<|.ref it) Q E s:=by
 have a:s.TypeIs (.ref it) "dict_itemiterator" :=⟨_,e,rfl⟩;unfold pyNext;refine Qz<|TC<|RX a R5<|Rj R5 a Wi ?_ (Wc _);refine Qz<|QA<|Qz<|Qz ?_
 first|refine Qz (Tj a<|QA<|Qz<|SH e rfl ?_)|refine Qz<|T7 a<|QA<|Qz<|SH e rfl ?_
 simp only[show Builtin.Dict_items.ownsTuple "dict_itemiterator" =true by decide,if_true];show wpAny _ _ (if(Value.ref d==Value.none)=true then _ else _) _ _ s;rw[QG<|show ¬((Value.ref d==Value.none)=true) from bF0];refine Qz<|QA<|Qz<|Sm f hd ?_;rw[QG<|by simp];refine Qz<|QA<|Qz<|RP f hd ?_;rw[QG<|by simp];refine QA ?_;simp only[show ¬((i:Int)<0) from by lia,if_false,Int.toNat_natCast,getElem?_eq_none h];refine Qz ?_
 first|refine Qz (Tj a<|QA ?_)|refine Qz<|T7 a<|QA ?_
 show wpAny _ _ (setField (.ref it) 2 .none >>= _) _ _ s;refine Qz (Sb e rfl (by simp) ?_);refine Qz ?_;simp only[newExc,newTuple];refine Qz (RM ?_ (by size_fits));refine Qz (U2 (by first|rfl| (simp only[firstArgMember];rfl))<|RM ?_ (by size_fits));simp only[raiseNew];refine Qz<|wpAny_handled ?_;rw[show A.in1.handled=none from g];refine Qz<|QA<|wpAny_throw ?_;refine Qz<|Ti ⟨_,QN _ rfl,rfl⟩ W8 ?_;exact QA<|q _<|((Rb ..).extBut.push _).push _
end NK
namespace L2
structure KK(P:Xi)(w:Xj)(κ:Type) [DecidableEq κ] where
 k:NK.gq P w κ
 rel:Hp->κ->V->Prop
 mono:∀{H H':Hp}{x:κ}{y:V},(∀b xs,H b=some (.tup xs)->H' b=some (.tup xs))->rel H x y->rel H' x y
 is:∀{H:Hp}{h:Heap}{x:κ}{y:V}{u:Xf},gM P w H h->rel H x y->RelV y u->k.is h x u
 sh:∀{H:Hp}{x:κ}{y:V}{u:Xf},rel H x y->RelV y u->NK.Sh u
 q8:k.qd<=8
 room:∀{A:Xl},A.units+3<cLine->k.room A.in1
section
variable [DecidableEq κ]
def gO(p:κ×V×V)(q:κ×Xf×Xf):Prop:=p.1=q.1/\RelV p.2.1 q.2.1/\RelV p.2.2 q.2.2
def Dφ(f:KK P w κ)(a:Xg)(Xu:Xm (κ×V×V)):Heap->Prop:=λh=>∃e,Paired gO Xu e/\NK.vS f.k h a e
def Fz(a:Xg)(o:Obj)(φ:Heap->Prop):Heap->Prop:=λh=>h.get? a=some o/\φ h
def Rx(H:Hp)(a:Xg)(φ:Heap->Prop):Prop:=H a=some (.ext φ)\/∃o,H a=some (.ext<|Fz a o φ)
def Rx.ok(r:Rx H a φ)(x:gM P w H h):φ h:=by
 obtain r|⟨o,r⟩:=r
 ·exact(show cV P w H h a (.ext φ) from x a _ r).1
 ·exact(show cV P w H h a (.ext<|Fz a o φ) from x a _ r).1.2
structure DD(kk:KK P w κ)(H:Hp)(a:Xg)(Xu:Xm (κ×V×V)):Prop where
 h:Rx H a (Dφ kk a Xu)
 r:∀e∈Xu,kk.rel H e.1 e.2.1
 nd:(Xu.map (·.1)).Nodup
 ns:(a==sysModules)=false
 l:Xu.length<sizeLine
def jg(Xu:Xm (κ×V×V))(x:κ):Xk (κ×V×V):=Xu.find? λe=>decide<|e.1=x
def fE(Xu:Xm (κ×V×V))(x:κ)(y v:V):Xm (κ×V×V):=if(jg Xu x).isSome then Xu.map (λe=>if e.1=x then(e.1,e.2.1,v) else e) else Xu++[(x,y,v)]
theorem nA{x:κ}:∀{Xu:Xm (κ×V×V)}{xs:Xm (κ×Xf×Xf)},Paired gO Xu xs->(jg Xu x=none/\NK.uR xs x=none)\/∃e f,jg Xu x=some e/\NK.uR xs x=some f/\gO e f
 |_,_,.nil=>.inl ⟨rfl,rfl⟩
 |e::Xu,f::xs,.cons r t=>by
  unfold jg NK.uR;rw[find?_cons,find?_cons,<-r.1];by_cases h:e.1=x
  ·rw[dT0 h]
   exact .inr ⟨e,f,rfl,rfl,r⟩
  ·rw[QM h]
   exact nA t
theorem vJ:∀{Xu:Xm (κ×V×V)}{xs:Xm (κ×Xf×Xf)},Paired gO Xu xs->xs.map (·.1)=Xu.map (·.1)
 |_,_,.nil=>rfl
 |_,_,.cons r t=>by rw[RC,RC,r.1,vJ t]
theorem zU{x:κ}{v:V}{u:Xf}(a:RelV v u):∀{Xu:Xm (κ×V×V)}{xs:Xm (κ×Xf×Xf)},Paired gO Xu xs->Paired gO (Xu.map λe=>if e.1=x then(e.1,e.2.1,v) else e) (xs.map λe=>if e.1=x then(e.1,e.2.1,u) else e)
 |_,_,.nil=>.nil
 |e::_,f::_,.cons r t=>by
  refine .cons ?_ (zU a t);show gO (if e.1=x then(e.1,e.2.1,v) else e) (if f.1=x then(f.1,f.2.1,u) else f);by_cases h:e.1=x
  ·rw[QI h,QI<|r.1.symm.trans h]
   exact⟨r.1,r.2.1,a⟩
  ·rw[QG h,QG λq=>h<|r.1.trans q]
   exact r
theorem tP{Xu:Xm (κ×V×V)}{xs:Xm (κ×Xf×Xf)}{e:κ×V×V}{f:κ×Xf×Xf}(r:gO e f):Paired gO Xu xs->Paired gO (Xu++[e]) (xs++[f])
 |.nil=>.cons r .nil
 |.cons q t=>.cons q<|tP r t
def zg(i:RelV y u)(h:RelV v r){xs:Xm (κ×Xf×Xf)}(p:Paired gO Xu xs):Paired gO (fE Xu x y v) (NK.i9 xs x u r):=by
 unfold fE NK.i9;obtain ⟨g,a⟩|⟨e,f,g,a,_⟩:=nA p
 ·rw[g,a]
  exact tP ⟨rfl,i,h⟩ p
 ·rw[g,a]
  exact zU h p
theorem DH{i:KK P w κ}{H:Hp}{h:Heap}(ok:gM P w H h):∀{Xu:Xm (κ×V×V)}{xs:Xm (κ×Xf×Xf)},Paired gO Xu xs->(∀e∈Xu,i.rel H e.1 e.2.1)->∀f∈xs,i.k.is h f.1 f.2.1
 |_,_,.nil,_=>λf a=>nomatch a
 |e::_,g::_,.cons r t,hr=>λf a=>by
  obtain rfl|a:=Rf.mp a
  ·rw[<-r.1]
   exact i.is ok (hr e<|.head _) r.2.1
  ·exact DH ok t (λl j=>hr l<|.tail _ j) f a
end
section
variable {X:Cx}{κ:Type} [DecidableEq κ]{kk:KK X.prog X.w κ}{Xs:Xq}{σ:St}{H:Hp}{s:Xh}{a:Xg}{Xu:Xm (κ×V×V)}{x:κ}{y:V}{v:V}{u:Xf}{r:Xf}{A:Xl}{E:Xo}
def lH(g:A.units+3<cLine)(I:Inv X Xs σ H s)(D:DD kk H a Xu)(e:kk.rel H x y)(f:RelV y u):∃xs,Paired gO Xu xs/\NK.Lk kk.k A s a xs x u:=by
 obtain⟨xs,p,i⟩:=D.h.ok I.hok;exact⟨xs,p,kk.q8,kk.sh e f,kk.room g,kk.is I.hok e f,i,DH I.hok p D.r,by rw[vJ p];exact D.nd⟩
def zQ(o:A.units+3<cLine)(I:Inv X Xs σ H s)(D:DD kk H a Xu)(m:kk.rel H x y)(q:RelV y u)(g:jg Xu x=some e)(h:∀j s',Inv X Xs σ H s'->RelV e.2.2 j->Q j s'):wpAny (model X.prog X.w) A (getItem (.ref a) u) Q E s:=by
 obtain⟨r,p,L⟩:=lH o I D m q;obtain ⟨i,_⟩|⟨v,f,i,l,n⟩:=nA (x:=x) p
 ·grind
 ·rw[g]at i
  cases i;exact NK.C7 L l<|h _ _ (I.tok _) n.2.2
def CG(j:A.units+3<cLine)(I:Inv X Xs σ H s)(D:DD kk H a Xu)(i:kk.rel H x y)(l:RelV y u)(h:∀s',Inv X Xs σ H s'->Q (jg Xu x).isSome s'):wpAny (model X.prog X.w) A (contains (.ref a) u) Q E s:=by
 obtain⟨m,p,L⟩:=lH j I D i l;refine NK.has_any L D.ns ?_;obtain ⟨g,e⟩|⟨o,f,g,e,n⟩:=nA p
 ·rw[e]
  rw[g]at h;exact h _<|I.tok _
 ·rw[e]
  rw[g]at h;exact h _<|I.tok _
def dφ_ok(p:Paired gO kvs' xs)(f:NK.vS kk.k h' a xs):cV X.prog X.w H' h' a (.ext<|Dφ kk a kvs'):=by
 refine⟨⟨xs,p,f⟩,let ⟨o,_,_,e,_⟩:=f;⟨o,e⟩,λj i q k=>?_⟩;obtain⟨xs,p,o,h,g,e,c⟩:=q;exact⟨xs,p,o,h,g,k _ e,c⟩
def CY{Q:Xp}(j:A.units+3<cLine)(I:Inv X Xs σ H s)(D:DD kk H a Xu)(hm:H a=some (.ext<|Dφ kk a Xu))(i:kk.rel H x y)(f:RelV y u)(n:RelV v r)(h:∀s',Inv X Xs σ (upd H a<|.ext<|Dφ kk a<|fE Xu x y v) s'->Q () s'):wpAny (model X.prog X.w) A (setItem (.ref a) u r) Q E s:=by
 obtain⟨z,p,L⟩:=lH j I D i f;have l:=D.l;exact NK.Hf L (by rw[<-RU p];lia) λq g m=>h _ <| kg I (by rw[hm];exact True.intro) m (let ⟨o,_,_,e,_⟩:=g;⟨o,e⟩) (dφ_ok (zg f n p) g)
end
def iG(H:Hp):NK.Pl->V->Prop
 |.inl (.inr z),y=>y=.str z
 |.inl (.inl _),_=>False
 |.inr ks,y=>∃b,y=.ref b/\H b=some (.tup<|ks.map kV)
def iG.mono{H H':Hp}(a:∀b xs,H b=some (.tup xs)->H' b=some (.tup xs)):∀{x:NK.Pl}{y:V},iG H x y->iG H' x y
 |.inl (.inr _),_,h=>h
 |.inl (.inl _),_,h=>h
 |.inr _,_,⟨b,e,hb⟩=>⟨b,e,a _ _ hb⟩
theorem D1{h:Heap}:∀{e:Xm Key}{us:Xm Xf},ItemsAre (cL P w) e us->NK.qI (NK.jm P w) h e us
 |_,_,.nil=>.nil
 |_,_,.cons a b=>.cons a<|D1 b
def iG.is{H:Hp}{h:Heap}(ok:gM P w H h):∀{x:NK.Pl}{y:V}{u:Xf},iG H x y->RelV y u->NK.MD P w h x u
 |.inl (.inr z),_,u,e,r=>by
  cases e;obtain⟨t,rfl⟩:=(show ∃t,u=Value.str z t from r);exact n5 P w z t
 |.inl (.inl _),_,_,e,_=>e.elim
 |.inr ks,_,u,⟨b,e,hb⟩,r=>by
  cases e;cases (show u=Value.ref b from r);obtain⟨o,items,n,f,g,a,i⟩:=jX ok hb;exact⟨b,items,rfl,⟨o,f,g,n,a⟩,D1 i⟩
def iG.sh{H:Hp}:∀{x:NK.Pl}{y:V}{u:Xf},iG H x y->RelV y u->NK.Sh u
 |.inl (.inr z),_,u,e,r=>by
  cases e;obtain⟨t,rfl⟩:=(show ∃t,u=Value.str z t from r);exact .inl ⟨z,t,rfl⟩
 |.inl (.inl _),_,_,e,_=>e.elim
 |.inr ks,_,u,⟨b,e,hb⟩,r=>by
  cases e;cases (show u=Value.ref b from r);exact .inr ⟨b,rfl⟩
def eT(P:Xi)(w:Xj):KK P w NK.Pl where
 k:=NK.O1 P w
 rel:=iG
 mono:=λa h=>h.mono a
 is:=λok h r=>h.is ok r
 sh:=λh r=>h.sh r
 q8:=by show 1<=8;decide
 room:=λ{A} h=>(by have e:A.units+3<cLine:=h;show A.units+1<cLine;lia)
def Ol(H:Hp)(x:Xm NK.Pl)(y:V):Prop:=∃b a,y=.ref b/\H b=some (.tup a)/\Paired (iG H) x a
theorem E4{H:Hp}{h:Heap}(ok:gM P w H h):∀{xs:Xm NK.Pl}{ys:Xm V}{us:Xm Xf},Paired (iG H) xs ys->Vals ys us->NK.qI (NK.O1 P w) h xs us
 |_,_,_,.nil,.nil=>.nil
 |_,_,_,.cons a b,.cons r t=>.cons (a.is ok r)<|E4 ok b t
def nE(P:Xi)(w:Xj):KK P w (Xm NK.Pl) where
 k:=NK.OH<|NK.O1 P w
 rel:=Ol
 mono:=λg ⟨b,f,e,a,p⟩=>⟨b,f,e,g _ _ a,Paired.C9 p λ_ _ q=>q.mono g⟩
 is:=λ{H h x y u} ok ⟨b,f,e,a,p⟩ r=>by
  subst e;cases (show u=Value.ref b from r);obtain⟨_,v,j,o,l,m,n,i⟩:=ok b _ a;exact⟨b,_,rfl,⟨o,l,m,n,i⟩,E4 ok p j⟩
 sh:=λ{H x y u} ⟨b,f,e,a,p⟩ r=>by
  subst e;cases (show u=Value.ref b from r);exact .inr ⟨b,rfl⟩
 q8:=by show 2<=8;decide
 room:=λ{A} h=>(by have s:A.units+3<cLine:=h;exact⟨by show A.units+1<cLine;lia,by show A.units+1+1<cLine;lia⟩)
section
variable [DecidableEq κ]
inductive Ag(f:KK P w κ)(x y:V)(H:Hp)(Q:VK):Prop
 |mk(a:Xg)(Xu:Xm (κ×V×V))(k:κ)(e:κ×V×V)(h:x=.ref a)(D:DD f H a Xu)(r:f.rel H k y)(g:jg Xu k=some e)(q:Q e.2.2 H)
inductive Mz(e:KK P w κ)(x y:V)(H:Hp)(Q:Bool->Prop):Prop
 |mk(a:Xg)(Xu:Xm (κ×V×V))(k:κ)(f:x=.ref a)(D:DD e H a Xu)(r:e.rel H k y)(q:Q (jg Xu k).isSome)
inductive wc(e:KK P w κ)(x y v:V)(H:Hp)(Q:Hp->Prop):Prop
 |mk(a:Xg)(Xu:Xm (κ×V×V))(k:κ)(f:x=.ref a)(D:DD e H a Xu)(hm:H a=some (.ext (Dφ e a Xu)))(r:e.rel H k y)(q:Q (upd H a (.ext (Dφ e a (fE Xu k y v)))))
def Av(f:KK P w κ)(e ty:TE):TE:=λσ H Q=>e σ H λx H1=>ty σ H1 λy a=>Ag f x y a Q
def FZ(f:KK P w κ)(ty e:TE):TE:=λσ H Q=>ty σ H λy H1=>e σ H1 λx a=>Mz f x y a λb=>Q (.bl b) a
def oK(f:KK P w κ)(ty e:TE):TE:=λσ H Q=>ty σ H λy H1=>e σ H1 λx a=>Mz f x y a λb=>Q (.bl<|!b) a
def AF(h:KK P w κ)(g ty a:TE):TS:=λD σ H=>a σ H λv H1=>g σ H1 λx f=>ty σ f λy i=>wc h x y v i λe=>D.nx σ e
def CP(e:KK P w κ)(h ty f:TE)(rd:V->V->Hp->VK->Prop):TS:=λD σ H=>h σ H λx H1=>ty σ H1 λy a=>Ag e x y a λv a=>f σ a λj i=>rd v j i λz g=>wc e x y z g λl=>D.nx σ l
def zY(a:KK P w κ):TE:=λ_ H Q=>∀p,H p=none->(p==sysModules)=false->Q (.ref p) (upd H p<|.ext<|Dφ a p [])
end
section
variable {X:Cx} [DecidableEq κ]{kk:KK X.prog X.w κ}
def DD.ty(I:Inv X Xs σ H s)(D:DD kk H a Xu):s.TypeIs (.ref a) "dict" :=by
 obtain⟨f,p,e⟩:=D.h.ok I.hok;exact e.ty
end
section
variable {X:Cx}{κ:Type} [DecidableEq κ]{kk:KK X.prog X.w κ}{o:Expr}{i:Expr}{e:Expr}{value:Expr}{pos:Pos}{XI:Pos}{Yc:Pos}{td:TE}{ty:TE}{tv:TE}
def FW(w:X.A.units+3<cLine)(v:PE X o td)(F:PE X i ty)(C:KL i):PE X (.Subscript o i pos) (Av kk td ty):=by
 intro l s σ H Q I h;refine AD V9.lookup C<|cX (v l s σ H _ I h) λu z ⟨x,H1,p,B,q1⟩=>cX (F l z σ H1 _ p q1) λO M f=>?_;obtain⟨y,G,m,E,a,L,k,e,n,D,r,g,J⟩:=f;subst n;obtain rfl:u=Value.ref a:=B;exact⟨D.ty m,zQ w m D r E g λK N q j=>⟨_,G,q,j,J⟩⟩
def Ju(p:X.A.units+3<cLine)(z:PE X i ty)(n:PE X o td):PC X .In i o (FZ kk ty td):=by
 intro f s σ H Q I h;refine cX (z f s σ H _ I h) λJ q ⟨y,H1,j,w,q1⟩=>cX (n f q σ H1 _ j q1) λu F e=>?_;obtain⟨x,B,m,v,a,E,k,g,D,r,C⟩:=e;subst g;obtain rfl:u=Value.ref a:=v;exact Qz<|CG p m D r w λG l=>QA ⟨.bl _,B,l,rfl,C⟩
def Bp(p:X.A.units+3<cLine)(z:PE X i ty)(n:PE X o td):PC X .NotIn i o (oK kk ty td):=by
 intro f s σ H Q I h;refine cX (z f s σ H _ I h) λJ q ⟨y,H1,j,w,q1⟩=>cX (n f q σ H1 _ j q1) λu F e=>?_;obtain⟨x,B,m,v,a,E,k,g,D,r,C⟩:=e;subst g;obtain rfl:u=Value.ref a:=v;exact Qz<|CG p m D r w λG l=>QA ⟨.bl _,B,l,rfl,C⟩
def Fn(C:X.A.units+3<cLine)(B:PE X o td)(L:PE X i ty)(O:PE X value tv)(G:swapsWith value (some<|.Subscript o i XI) pos.line X.env=pure false):PS X (.Assign [.Subscript o i XI] value pos) (AF kk td ty tv):=by
 intro f s σ H D I h;refine wpAny_Assign_Subscript (cX (O f s σ H _ I h) λr E ⟨v,H1,m,z,q1⟩=>cX (B f E σ H1 _ m q1) λu p ⟨x,N,w,F,P⟩=>cX (L f p σ N _ w P) λU T e=>?_) G;obtain⟨y,S,n,J,a,R,k,g,K,M,j,q⟩:=e;subst g;obtain rfl:u=Value.ref a:=F;exact CY C n K M j J z λQ l=>⟨σ,_,l,q⟩
def GS(C:X.A.units+3<cLine)(U:PE X o td)(hi:PE X i ty)(hv:PE X value tv)(q:Dk X op rd)
  (ha:∀n l j,augStore i n l j=(do holding [j,n,l] (setItem n l j);release [j,n,l] [];pure .next)):PS X (.AugAssign (.Subscript o i Yc) op value pos) (CP kk td ty tv rd):=by
 intro m s σ H D I h;refine wpAny_AugAssign_SubscriptAny (cX (U m s σ H _ I h) λu Y ⟨x,H1,M,Z,q1⟩=>cX (hi m Y σ H1 _ M q1) λl s2 f=>?_) ha;obtain⟨y,H2,R,E,a,Xu,k,e,F,D',r,g,q2⟩:=f;subst F;obtain rfl:u=Value.ref a:=Z;refine zQ C R D' r E g λJ s3 O v=>cX (hv m s3 σ H2 _ O q2) λw2 G ⟨y2,N,K,w,Q⟩=>cX (q m G σ N _ y2 J w2 _ K v w Q) λw3 s5 f=>?_;obtain⟨z,H4,P,rz,a',B,k',p,L,hm,T,W⟩:=f;cases p;exact CY C P L hm T E rz λs6 S=>⟨σ,_,S,W⟩
end
section
variable {X:Cx}{κ:Type} [DecidableEq κ]{kk:KK X.prog X.w κ}{Xs:Xq}{σ:St}{H:Hp}{s:Xh}{a:Xg}{Xu:Xm (κ×V×V)}{x:κ}{y:V}{v:V}{u:Xf}{r:Xf}{A:Xl}{E:Xo}
def F9{Q:Xo}(m:A.units+3<cLine)(I:Inv X Xs σ H s)(D:DD kk H a Xu)(j:kk.rel H x y)(n:RelV y u)(o:RelV v r)(h:∀i s',Inv X Xs σ H s'->RelV (((jg Xu x).map (·.2.2)).getD v) i->Q i s'):wpAny (model X.prog X.w) A (call (.builtin "dict.get") [.ref a,u,r]) Q E s:=by
 obtain⟨q,p,L⟩:=lH m I D j n;refine NK.ET L D.ns<|h _ _ (I.tok _) ?_;obtain ⟨g,e⟩|⟨z,f,g,e,l⟩:=nA (x:=x) p
 ·rw[g,e]
  exact o
 ·rw[g,e]
  exact l.2.2
def Gp(M:A.units+3<cLine)(I:Inv X Xs σ H s)(D:DD kk H a Xu)(hm:H a=some (.ext<|Dφ kk a Xu))(K:kk.rel H x y)(m:RelV y u)(J:RelV v r)(C:∀e,jg Xu x=some e->∀j s',Inv X Xs σ H s'->RelV e.2.2 j->Q j s')(z:jg Xu x=none->∀s',Inv X Xs σ (upd H a<|.ext<|Dφ kk a<|Xu++[(x,y,v)]) s'->Q r s'):wpAny (model X.prog X.w) A (call (.builtin "dict.setdefault") [.ref a,u,r]) Q E s:=by
 obtain⟨O,p,L⟩:=lH M I D K m;have l:=D.l;obtain ⟨i,h⟩|⟨G,f,i,h,F⟩:=nA p
 ·exact NK.rq L D.ns (by rw[<-RU p];lia) (λe g=>by rw[h]at g;cases g) λ_ N q B=>z i _ <| kg I (by rw[hm];exact True.intro) B (let ⟨o,_,_,e,_⟩:=q;⟨o,e⟩) (dφ_ok (tP ⟨rfl,m,J⟩ p) q)
 ·refine NK.rq L D.ns (by rw[<-RU p];lia) (λe g=>?_) λn=>by rw[h]at n;cases n
  rw[h]at g;cases g;exact C G i _ _ (I.tok _) F.2.2
end
section
variable [DecidableEq κ]
inductive PN(e:KK P w κ)(x:V)(H:Hp)(G:Xg->Prop):Prop
 |mk(a:Xg)(Xu:Xm (κ×V×V))(f:x=.ref a)(D:DD e H a Xu)(q:G a)
inductive Ph(e:KK P w κ)(a:Xg)(y z:V)(H:Hp)(Q:VK):Prop
 |mk(Xu:Xm (κ×V×V))(k:κ)(D:DD e H a Xu)(r:e.rel H k y)(q:Q (((jg Xu k).map (·.2.2)).getD z) H)
inductive N7(f:KK P w κ)(a:Xg)(y z:V)(H:Hp)(Q:VK):Prop
 |mk(Xu:Xm (κ×V×V))(k:κ)(D:DD f H a Xu)(hm:H a=some (.ext (Dφ f a Xu)))(r:f.rel H k y)(q1:∀e,jg Xu k=some e->Q e.2.2 H)(g:jg Xu k=none->Q z (upd H a (.ext (Dφ f a (Xu++[(k,y,z)])))))
def xI(e:KK P w κ)(g ty h:TE):TE:=λσ H Q=>g σ H λx H1=>PN e x H1 λa=>ty σ H1 λy f=>h σ f λz i=>Ph e a y z i Q
def xS(e:KK P w κ)(g ty h:TE):TE:=λσ H Q=>g σ H λx H1=>PN e x H1 λa=>ty σ H1 λy f=>h σ f λz i=>N7 e a y z i Q
end
section
variable {X:Cx}{κ:Type} [DecidableEq κ]{kk:KK X.prog X.w κ}{o:Expr}{e:Expr}{f:Expr}{pos:Pos}{Xy:Pos}{Xx:Pos}{td:TE}{tk:TE}{tx:TE}
def GK:PE X (.Dict [] [] pos) (zY kk):=λa s σ H Q I h=>
 We ⟨.ref s.heap.objs.size,_,I.laid (t':=s.toks) (λ_ _ q=>QE _ q) (QJ _)<|dφ_ok .nil ⟨_,#[],0,QN _ rfl,⟨rfl,rfl,rfl⟩,rfl,rfl⟩,rfl,h _ (I.hok.fresh<|QJ _)<|R3.mpr<|Tf<|QU I.big⟩
def DD.no{f:Xq}{σ:St}{H:Hp}{s:Xh}{a:Xg}{Xu:Xm (κ×V×V)}(I:Inv X f σ H s)(D:DD kk H a Xu):∀b,Value.ref a=.ref b->∃ob,s.heap.get? b=some ob/\ob.dict=none:=λb q=>by
 cases q;obtain⟨i,p,ob,_,_,g,e,_⟩:=D.h.ok I.hok;exact⟨ob,g,e.2.1⟩
def Dt (G:X.A.units+3<cLine) (F:PE X o td) (he:PE X e tk) (hf:PE X f tx) (m:M2 X o "get" Xy e f Xx):PE X (.Call (.Attribute o "get" Xy) [e,f] [] Xx) (xI kk td tk tx):=by
 intro i s σ H Q I h;refine V4 m.base m.LW m.line Vy U5 WR<|cX (F i s σ H _ I h) λu J g=>?_;obtain⟨x,H1,j,K,a,T,p,D,q1⟩:=g;subst p;obtain rfl:u=Value.ref a:=K;refine⟨D.ty j,D.no j,?_⟩;rw[m.trees];refine Tv rfl<|UD<|Sx<|cX (he i J σ H1 _ j q1) λW B ⟨y,O,E,M,P⟩=>Sx<|cX (hf i B σ O _ E P) λY U g=>Um ?_;obtain⟨z,v,w,N,n,k,L,r,C⟩:=g;exact F9 G w L r M N λS R q l=>⟨_,v,q,l,C⟩
def EJ (N:X.A.units+3<cLine) (L:PE X o td) (p:PE X e tk) (hf:PE X f tx) (m:M2 X o "setdefault" Xy e f Xx):PE X (.Call (.Attribute o "setdefault" Xy) [e,f] [] Xx) (xS kk td tk tx):=by
 intro i s σ H Q I h;refine V4 m.base m.LW m.line Vy WL PySem.F.type_dict_setdefault<|cX (L i s σ H _ I h) λu O g=>?_;obtain⟨x,H1,l,P,a,Xu,w,D,q1⟩:=g;subst w;obtain rfl:u=Value.ref a:=P;refine⟨D.ty l,D.no l,?_⟩;rw[m.trees];refine Tv rfl<|UD<|Sx<|cX (p i O σ H1 _ l q1) λiv J ⟨y,W,K,S,Y⟩=>Sx<|cX (hf i J σ W _ K Y) λfv s3 g=>Um ?_;obtain⟨z,C,E,v,q,k,R,U,r,M,G⟩:=g;exact Gp N E R U r S v (λe p Z B j n=>⟨_,C,j,n,M e p⟩) λT B j=>⟨z,_,j,v,G T⟩
end
def IP(e:h.get? a=some o)(x:cV P w H h a (.ext φ)):cV P w H' h a (.ext<|Fz a o φ):=⟨⟨e,x.1⟩,x.2.1,λ_ _ q k=>⟨k _ q.1,x.2.2 _ _ q.2 k⟩⟩
section
variable [DecidableEq κ]
def PV(a:KK P w κ)(d:Xg)(o:Obj)(Xu:Xm (κ×V×V)):It:=⟨λi H=>H d=some (.ext<|Fz d o<|Dφ a d Xu)/\i<Xu.length,λi H x f=>f=H/\∃e,Xu[i]? =some e/\x=e.2.1,λi H=>H d=some (.ext<|Fz d o<|Dφ a d Xu)/\Xu.length<=i⟩
theorem uS:∀{Xu:Xm (κ×V×V)}{xs:Xm (κ×Xf×Xf)},Paired gO Xu xs->∀{i:Nat}{e:κ×V×V},Xu[i]? =some e->∃f,xs[i]? =some f/\gO e f
 |_,_,.nil,_,_,h=>by cases h
 |_,_,.cons r t,0,_,h=>by
  cases h;exact⟨_,rfl,r⟩
 |_,_,.cons r t,i+1,_,h=>uS t (i:=i) h
def Ko{K:Frag}{tg:Expr}(q:KK P w κ)(d it:Xg)(o:Obj)(es:Array DictEntry)(ep:Nat)(Xu:Xm (κ×V×V))(hd:o.data=.dict es ep):Turn P w K tg (PV q d o Xu) [it] it (λi h=>h.IsKeyIter it d i Xu.length ep) where
 mem:=by simp
 obj:=λi h a b g=>by
  have e:b=it:=by simpa using g
  subst e;obtain⟨o,e,c,d⟩:=a;grind
 keep:=λi h z a k=>a.at λo e=>k it (by simp) o e
 item:=by
  intro X N G C T i Q s σ H E I v a x;subst N G C;obtain⟨A,R⟩:=x;obtain⟨⟨m,xs,p,o',XW,F,l,W,n,r⟩,_,_⟩:=(show cV X.prog X.w H s.heap d (.ext<|Fz d o<|Dφ q d Xu) from I.hok d _ A);rw[m]at l;cases l;rw[hd]at n;cases n;have sz:es.size=Xu.length:=by rw[<-QS,r,QF,<-RU p]
  have j:i<es.size:=by lia
  obtain⟨e,S⟩:∃e,Xu[i]? =some e:=⟨_,QB R⟩;obtain⟨f,D,rf⟩:=uS p S;have Z:es[i].key=f.2.1:=by
   have:es[i]? =some (NK.ent q.k f):=by rw[<-QW,r,QR,D];rfl
   rw[Rr j]at this;rw[Ri this];rfl
  obtain⟨y,B,f2,O,M,J⟩:=v it (by simp);refine NK.w4 (by rw[sz];exact a) m hd j λz L sb=>?_;rw[sz]at L;have Y:Inv X Q σ H { s with heap:=z }:=I.turned (t':=s.toks) (λb o g e=>(sb.2 b g).trans e) y B O M J;obtain⟨o2,e2,c2,U⟩:=id L;exact⟨_,rfl,rH e2 c2 U (by decide) ⟨e.2.1,H,Y,by rw[Z];exact rf.2.1,⟨rfl,e,S,rfl⟩,L,λb g=>(v b g).1⟩⟩
 done:=by
  intro X N G C T i Q s σ H E I v a x;subst N G C;obtain⟨A,R⟩:=x;obtain⟨⟨m,xs,p,o',XW,F,l,W,n,r⟩,_,_⟩:=(show cV X.prog X.w H s.heap d (.ext<|Fz d o<|Dφ q d Xu) from I.hok d _ A);rw[m]at l;cases l;rw[hd]at n;cases n;have sz:es.size=Xu.length:=by rw[<-QS,r,QF,<-RU p]
  obtain⟨y,B,f2,O,M,J⟩:=v it (by simp);exact NK.vT (I.ok.hd T) (by rw[sz];exact a) m hd (by lia) λz eb=>⟨rfl,I.turned (t':=s.toks) (λb o g e=>eb b o g e) y B O M J⟩
 self:=λ_ _ _ _ _ a h=>wpAny_pyIter_keyiter a h
inductive Qj(a:KK P w κ)(x:V)(H:Hp)(R:It->Hp->Prop):Prop
 |mk(d:Xg)(Xu:Xm (κ×V×V))(e:x=.ref d)(D:DD a H d Xu)(q:∀(o:Obj)(H':Hp),(∀b,b≠d->H' b=H b)->H' d=some (.ext (Fz d o (Dφ a d Xu)))->R (PV a d o Xu) H')
def iQ(e:KK P w κ)(a:TE):TI:=λσ H R=>a σ H λx H1=>Qj e x H1 R
end
section
variable {X:Cx} [DecidableEq κ]{kk:KK X.prog X.w κ}{tg:Expr}
def Gb{l:Expr}(N:PE X l tl):PI X tg l (iQ kk tl):=by
 intro n s σ H R I h;refine cX (N n s σ H _ I h) λv a i=>?_;obtain⟨x,H1,B,K,d,g,e,D,q⟩:=i;subst e;cases K;obtain⟨Q,p,o,E,F,j,J,m,G⟩:=id<|D.h.ok B.hok;have sz:E.size=g.length:=by rw[<-QS,G,QF,<-RU p]
 have y:∀f:Hp,Inv X n σ f a->(∀b,b≠d->f b=H1 b)->f d=some (.ext<|Fz d o<|Dφ kk d g)->wpAny (model X.prog X.w) X.A (pyIter<|.ref d) (Mt X n σ tg R) X.xe a:=λf C O M=>by
  refine NK.wK D.ns j J m ⟨a.heap.objs.size,[a.heap.objs.size],_,_,f,rfl,C.kept (t':=a.toks) λb o e=>QE _ e,Ko kk d _ o E F g m,⟨_,QN _ rfl,rfl,by rw[sz];rfl⟩,λb z=>?_,q o f O M⟩;have e:b=a.heap.objs.size:=by simpa using z
  subst e;exact C.ui (QJ _)<|C.hok.fresh<|QJ _
 obtain r|⟨L,r⟩:=D.h
 ·exact y (upd H1 d<|.ext<|Fz d o<|Dφ kk d g) (B.write (t':=a.toks) (by rw[r];trivial) (.inl rfl) (λ_ _ _ e=>e) ⟨o,j⟩<|IP j<|dφ_ok (H':=H1) p ⟨o,E,F,j,J,m,G⟩) (λb z=>cG z) cE
 ·obtain⟨⟨P,_⟩,_⟩:=(show cV X.prog X.w H1 a.heap d (.ext<|Fz d L<|Dφ kk d g) from B.hok d _ r)
  grind
end
section
variable [DecidableEq κ]
def CA(a:KK P w κ)(d:Xg)(o:Obj)(Xu:Xm (κ×V×V)):It:=⟨λi H=>H d=some (.ext<|Fz d o<|Dφ a d Xu)/\i<Xu.length,λi H v f=>∃p e,H p=none/\v=.ref p/\f=upd H p (.tup [e.2.1,e.2.2])/\Xu[i]? =some e,λi H=>H d=some (.ext<|Fz d o<|Dφ a d Xu)/\Xu.length<=i⟩
def F8{K:Frag}{ts:Xm Expr}{tk:Nat}{tp:Pos}(m:KK P w κ)(d it:Xg)(o:Obj)(es:Array DictEntry)(ep:Nat)(Xu:Xm (κ×V×V))(hd:o.data=.dict es ep):Turn P w K (.Tuple ts tk tp) (CA m d o Xu) [it] it (λi h=>∃ok l,IsItemIter h it d i Xu.length ep ok l) where
 mem:=by simp
 obj:=λi h a b j=>by
  have e:b=it:=by simpa using j
  subst e;obtain⟨ok,l,e⟩:=a;exact⟨_,e,λv z=>by cases z⟩
 keep:=λi h h' a k=>by
  obtain⟨ok,l,e⟩:=a;exact⟨ok,l,k it (by simp) _ e⟩
 item:=by
  intro X T R L hc i W s σ H E I C a D;subst T R L;obtain⟨J,hi⟩:=D;obtain⟨ok,l,a⟩:=a;obtain⟨⟨x,xs,p,o',XW,N,r,h2,y,B⟩,_,_⟩:=(show cV X.prog X.w H s.heap d (.ext<|Fz d o<|Dφ m d Xu) from I.hok d _ J);rw[x]at r;cases r;rw[hd]at y;cases y;have sz:es.size=Xu.length:=by rw[<-QS,B,QF,<-RU p]
  have n:i<es.size:=by lia
  obtain⟨e,he⟩:∃e,Xu[i]? =some e:=⟨_,QB hi⟩;obtain⟨f,M,Z⟩:=uS p he;have ek:es[i]=NK.ent m.k f:=by
   have:es[i]? =some (NK.ent m.k f):=by rw[<-QW,B,QR,M];rfl
   rw[Rr n]at this;exact Ri this
  have U:it<s.heap.objs.size:=QY a;refine NK.Bz (es:=es) (by rw[sz];exact a) x hd n λg G tup gz kp=>⟨_,rfl,wpAny_letOwnedTupleGo_items G λg2 S sb=>?_⟩;have hn:H s.heap.objs.size=none:=I.hok.fresh<|QJ _;have I2:Inv X W σ (upd H s.heap.objs.size<|.tup [e.2.1,e.2.2]) { s with heap:=g2,toks:=s.toks }:=by
   refine I.rV (fp:=[it]) C (λb u j q=>?_) (QJ _) (λb j=>?_) ⟨by show 2<=sizeLine;decide,[f.2.1,f.2.2],.cons Z.2.1<|.cons Z.2.2 .nil,?_⟩
   ·have Y:b≠it:=λz=>j (by rw[z];simp)
    exact sb.extBut b u Y<|kp b u Y q
   ·have z:b=it:=by simpa using j
    subst z;exact⟨_,a⟩
   ·rw[ek]at tup
    exact⟨_,sb.extBut _ _ (UB U) tup,rfl,_,rfl⟩
  refine⟨.ref s.heap.objs.size,_,I2,rfl,⟨_,e,hn,rfl,rfl,he⟩,⟨_,_,by rw[<-sz];exact S⟩,λb j=>?_⟩;have z:b=it:=by simpa using j
  subst z;rw[cG<|QU U];exact(C b j).1
 done:=by
  intro X T R L hc i W s σ H E I C a D;subst T R L;obtain⟨J,hi⟩:=D;obtain⟨ok,l,a⟩:=a;obtain⟨⟨x,xs,p,o',XW,N,r,h2,y,B⟩,_,_⟩:=(show cV X.prog X.w H s.heap d (.ext<|Fz d o<|Dφ m d Xu) from I.hok d _ J);rw[x]at r;cases r;rw[hd]at y;cases y;have sz:es.size=Xu.length:=by rw[<-QS,B,QF,<-RU p]
  obtain⟨f0,f1,f2,f3,f4,f5⟩:=C it (by simp);exact NK.Br (es:=es) (I.ok.hd hc) (by rw[sz];exact a) x hd (by lia) λh' eb=>⟨rfl,I.turned (t':=s.toks) (λb o j e=>eb b o j e) f0 f1 f3 f4 f5⟩
 self:=λA i s Q E a h=>by
  obtain⟨ok,l,a⟩:=a;have O:s.TypeIs (.ref it) "dict_itemiterator" :=⟨_,a,rfl⟩;refine Uu O Vn<|Rj Vn O NK.DG ?_ (PySem.F.args_dict_itemiterator_iter_1 _);show wpAny _ _ (ret<|.ref it) _ _ s;exact QA ⟨_,rfl,"dict_itemiterator",_,O,R5.lookup,h⟩
inductive Pm(a:KK P w κ)(x:V)(H:Hp)(R:It->Hp->Prop):Prop
 |mk(d:Xg)(Xu:Xm (κ×V×V))(e:x=.ref d)(D:DD a H d Xu)(q:∀(o:Obj)(H':Hp),(∀b,b≠d->H' b=H b)->H' d=some (.ext (Fz d o (Dφ a d Xu)))->R (CA a d o Xu) H')
def Pb(e:KK P w κ)(a:TE):TI:=λσ H R=>a σ H λx H1=>Pm e x H1 R
end
section
variable {X:Cx}{κ:Type} [DecidableEq κ]{kk:KK X.prog X.w κ}{ts:Xm Expr}{tn:Nat}{tp:Pos}{Xy:Pos}{Xx:Pos}
def DN {l:Expr}{J:TE}(T:PE X l J) (P:attributeBase l "items" X.env (eval l X.env)=eval l X.env) (O:(Xy.endLine==Xx.line)=true):PI X (.Tuple ts tn tp) (.Call (.Attribute l "items" Xy) [] [] Xx) (Pb kk J):=by
 intro y s σ H R I h;refine wpAny_Call_method0_late P O<|cX (T y s σ H _ I h) λv a m=>?_;obtain⟨x,H1,i,M,d,f,e,D,q⟩:=m;subst e;cases M;refine⟨"dict","dict.items",Vy,PySem.F.slot_dict_items,PySem.F.type_dict_items,D.ty i,D.no i,Tv rfl<|PySem.evalArgs_none ?_⟩;obtain⟨W,p,o,C,E,j,L,n,K⟩:=id<|D.h.ok i.hok;have sz:C.size=f.length:=by rw[<-QS,K,QF,<-RU p]
 refine NK.Dw D.ns j L ?_;have G:(a.heap.push { cls:=.type "dict_items",data:=.fields #[.ref d] }).get? d=some o:=QE _ j;refine NK.AY ⟨_,QN _ rfl,rfl,rfl⟩ G n ?_;rw[sz];have le:a.heap.objs.size<=(a.heap.push { cls:=.type "dict_items",data:=.fields #[.ref d] }).objs.size:=by simp_all
 have z:∀g:Hp,Inv X y σ g a->(∀b,b≠d->g b=H1 b)->g d=some (.ext<|Fz d o<|Dφ kk d f)->Mt X y σ (.Tuple ts tn tp) R (.ref (a.heap.push { cls:=.type "dict_items",data:=.fields #[.ref d] }).objs.size) { a with heap:=(a.heap.push { cls:=.type "dict_items",data:=.fields #[.ref d] }).push { cls:=.type "dict_itemiterator",data:=.fields #[.none,.bool false,.ref d,.int 0 0,.int f.length 0,.int E 0,.none,.none] } }:=λg B U S=>by
  refine⟨_,[_],_,_,g,rfl,B.kept (t':=a.toks) λb u e=>QE _<|QE _ e,F8 kk d _ o C E f n,⟨_,_,QN _ rfl⟩,λb A=>?_,q o g U S⟩;have e:b=(a.heap.push { cls:=.type "dict_items",data:=.fields #[.ref d] }).objs.size:=by simpa using A
  subst e;exact B.ui le<|B.hok.fresh le
 obtain r|⟨Q,r⟩:=D.h
 ·exact z (upd H1 d<|.ext<|Fz d o<|Dφ kk d f) (i.write (t':=a.toks) (by rw[r];trivial) (.inl rfl) (λ_ _ _ e=>e) ⟨o,j⟩<|IP j<|dφ_ok (H':=H1) p ⟨o,C,E,j,L,n,K⟩) (λb A=>cG A) cE
 ·obtain⟨⟨N,_⟩,_⟩:=(show cV X.prog X.w H1 a.heap d (.ext<|Fz d Q<|Dφ kk d f) from i.hok d _ r)
  grind
end
section
variable {X:Cx}
def Lp(d:h.DictOf (cL P w) a [(.inr z,u)])(B:RelV v u):Dφ (eT P w) a [(.inl<|.inr z,.str z,v)] h:=by
 obtain⟨o,m,E,C,F,n,x,g,J⟩:=d;cases f:m.toList with
 |nil=>
  rw[f]at g;cases g
 |cons e r=>
  rw[f]at g;cases g with
  |cons l p t=>
   cases t;obtain⟨I,G,D⟩:=x e (U9.mp<|by grind);cases (cL P w).inj _ _ _ l G;obtain ⟨i,t,q,_⟩|⟨H,t,q,y⟩:=NK.kK l
   ·cases q
   ·cases q
    refine⟨[(.inl<|.inr z,.str z t,u)],.cons ⟨rfl,⟨t,rfl⟩,B⟩ .nil,o,m,E,C,F,n,?_⟩;rw[f];obtain⟨A,j,s⟩:=e;cases (show j=Value.str z t from y);cases (show s=u from p);cases (show A=(cL P w).hash (.inr z) from D);rfl
inductive Qy(X:Cx)(p:Xg)(x y:V)(H:Hp)(Q:VK):Prop
 |mk(z:Xn)(e:x=.str z)(h:H p=some (.dK []))(q:Q (.ref p) (upd H p (.ext (Dφ (eT X.prog X.w) p [(.inl (.inr z),.str z,y)]))))
def Qb(X:Cx)(g a:TE):TE:=λσ H Q=>∀p,H p=none->(p==sysModules)=false->uw [(g,a)] σ (upd H p<|.dK []) λf e=>∃x y,f=[(x,y)]/\Qy X p x y e Q
def Nu(r:PE X ke tk)(E:PE X ve tv):PE X (.Dict [some ke] [ve] pos) (Qb X tk tv):=by
 intro n s σ H Q I q;have o:=I.laid (h':=s.heap.push { cls:=.type "dict",data:=.dict #[] }) (t':=s.toks) (λ_ _ q=>QE _ q) (QJ _)<|vZ s.heap I.big;refine wpAny_Dict_walk (knd:=cL X.prog X.w) rfl rfl (by simp) (by grind)<|cX (jS r E AA n _ σ _ _ o<|q s.heap.objs.size (I.hok.fresh<|QJ s.heap.objs.size)<|R3.mpr<|Tf<|QU I.big) λM L g=>?_;obtain⟨K,P,l,i,x,y,rfl,z,rfl,e,F⟩:=g;cases i with
 | @cons a b as bs h t=>
  cases t;obtain⟨J,m⟩:=b;obtain⟨O,G,D,A,C⟩:=Er l.hok e;cases A;refine⟨[(.inr z,m)],⟨ou h.1,rfl,True.intro⟩,C,λh' j B=>⟨.ref s.heap.objs.size,_,?_,rfl,F⟩⟩;obtain⟨N,p,f⟩:=Lp (show h'.DictOf (cL X.prog X.w) s.heap.objs.size [(.inr z,m)] from j) h.2;exact kg l (by rw[e];exact True.intro) B (let ⟨q,_,_,v,_⟩:=f;⟨q,v⟩)<|dφ_ok p f
end
section
variable [DecidableEq κ]{g:TG}{tb:TS}{D:Ends}{σ:St}{H:Hp}
def JD(Pv:Nat->St->Hp->Prop)(h0:Pv 0 σ H)(n:∀i σ H,i<=Xu.length->Pv i σ H->H d=some (.ext<|Fz d o<|Dφ kk d Xu))
  (r:∀(i:Nat)(e:κ×V×V) p σ H,Xu[i]? =some e->H p=none->Pv i σ H->g (.ref p) σ (upd H p<|.tup [e.2.1,e.2.2]) λf j=>tb { D with nx:=Pv<|i+1,ct:=Pv<|i+1,bk:=D.nx } f j)(hd:∀σ H,Pv Xu.length σ H->D.nx σ H):
  ∃W:Nat->Nat->St->Hp->Prop,(∃m,W 0 m σ H)/\∀i m σ H,W i m σ H->
   ((CA kk d o Xu).stop i H/\D.nx σ H)\/((CA kk d o Xu).go i H/\∃N:St->Hp->Prop,(∀a H',N a H'->∃l,l<m/\W (i+1) l a H')/\∀x H',(CA kk d o Xu).yld i H x H'->g x σ H' λf j=>tb { D with nx:=N,ct:=N,bk:=D.nx } f j):=by
 refine⟨λi m σ H=>m=Xu.length-i/\i<=Xu.length/\Pv i σ H,⟨Xu.length,by simp,RF _,h0⟩,?_⟩;rintro i m σ H ⟨rfl,s,p⟩;have q:=n i σ H s p;by_cases h:i<Xu.length
 ·refine .inr ⟨⟨q,h⟩,Pv<|i+1,λa H' A=>⟨Xu.length-(i+1),by lia,rfl,h,A⟩,λx H' y=>?_⟩
  obtain⟨B,w,v,rfl,rfl,z⟩:=y;exact r i w B σ _ z v p
 ·have e:i=Xu.length:=by lia
  subst e;exact .inl ⟨⟨q,QJ _⟩,hd σ H p⟩
end
section
variable [DecidableEq κ]
def gf(xs ps:Xm (κ×Xf×Xf)):Xm (κ×Xf×Xf):=ps.foldl (λa q=>NK.i9 a q.1 q.2.1 q.2.2) xs
def wB(xs ps:Xm (κ×Xf×Xf))(i:Nat)(q:κ×Xf×Xf)(h:ps[i]? =some q):gf xs (ps.take<|i+1)=NK.i9 (gf xs<|ps.take i) q.1 q.2.1 q.2.2:=by
 unfold gf;rw[RE,h,VF];rfl
def Fp(xs:Xm (κ×Xf×Xf))(x:κ)(u v:Xf):(NK.i9 xs x u v).length<=xs.length+1:=by
 unfold NK.i9;split
 ·rw[QF]
  exact TX _
 ·rw[QC]
  exact QJ _
theorem rQ:∀(ps xs:Xm (κ×Xf×Xf)),(gf xs ps).length<=xs.length+ps.length
 |[],xs=>QJ _
 |p::r,xs=>by
  have a:=rQ r<|NK.i9 xs p.1 p.2.1 p.2.2;have e:=Fp xs p.1 p.2.1 p.2.2;show(gf (NK.i9 xs p.1 p.2.1 p.2.2) r).length<=_;grind
def Bv{xs:Xm (κ×Xf×Xf)}{x:κ}{u v:Xf}(h:(xs.map (·.1)).Nodup):((NK.i9 xs x u v).map (·.1)).Nodup:=by
 cases g:NK.uR xs x with
 |some e=>
  rw[NK.wg g,Tc];have:((λe:κ×Xf×Xf=>e.1) ∘ λe=>if e.1=x then(e.1,e.2.1,v) else e)=λe=>e.1:=funext λe=>by
   show(if e.1=x then(e.1,e.2.1,v) else e).1=e.1;split<;>rfl
  rw[this];exact h
 |none=>
  rw[NK.v5 g,Si];refine VJ.mpr ⟨h,Ts _ _,λa j b l e=>?_⟩;rw[QK.mp l]at e;obtain⟨f,i,rfl⟩:=Rk.mp j;have:=Vt.mp g f i;exact this<|dT0 e
theorem n8:∀(ps:Xm (κ×Xf×Xf)){xs:Xm (κ×Xf×Xf)},(xs.map (·.1)).Nodup->((gf xs ps).map (·.1)).Nodup
 |[],_,h=>h
 |p::r,_,h=>n8 r<|Bv h
def C0{e:κ×Xf×Xf}(h:e∈NK.i9 xs x u v):(∃f∈xs,e.1=f.1/\e.2.1=f.2.1)\/(e.1=x/\e.2.1=u):=by
 unfold NK.i9 at h;split at h
 ·grind
 ·grind
theorem qB:∀(ps xs:Xm (κ×Xf×Xf)) (e:κ×Xf×Xf),e∈gf xs ps->(∃f∈xs,e.1=f.1/\e.2.1=f.2.1)\/∃f∈ps,e.1=f.1/\e.2.1=f.2.1
 |[],xs,e,h=>.inl ⟨e,h,rfl,rfl⟩
 |p::r,xs,e,h=>by
  obtain ⟨f,i,l,m⟩|⟨f,i,q⟩:=qB r (NK.i9 xs p.1 p.2.1 p.2.2) e h
  ·obtain ⟨g,n,j,a⟩|⟨j,a⟩:=C0 i
   ·exact .inl ⟨g,n,l.trans j,m.trans a⟩
   ·exact .inr ⟨p,.head _,l.trans j,m.trans a⟩
  ·exact .inr ⟨f,.tail _ i,q⟩
end
section
variable [DecidableEq κ]{k:NK.gq prog w κ}{A:Xl}{R:Result->Xh->Prop}{I:Xg}{fp:Xm Xg}{wr:Xm Xg}{G:Array GenState->Array GenState->Prop}{n:Nat}{P:Nat->Xf->Prop}{St:Nat->Xh->Prop}
def AQ(W:WalksS prog w A.in1 I fp wr G n P St)(q8:k.qd<=8)(hu:k.room A.in1)(D:Xg)(N:D ∉ fp)(ps:Xm (κ×Xf×Xf))(T:Nat->Xg)(hn:ps.length=n)(F:n<=sizeLine)(hP:∀i v,P i v->v=.ref (T i))(h0:Heap)(off:∀b o,h0.get? b=some o->b≠D/\b ∉ wr)
  (Y:∀(i:Nat) q,ps[i]? =some q->IsTup h0 (T i) #[q.2.1,q.2.2]/\k.is h0 q.1 q.2.1/\NK.Sh q.2.1):
  ∀(m i:Nat) (s:Xh),n-i=m->i<=n->St i s->NK.vS k s.heap D (gf []<|ps.take i)->(∀b o,h0.get? b=some o->s.heap.get? b=some o)->
   (∀s',Moved (D::wr) G s s'->NK.vS k s'.heap D (gf [] ps)->R (.ok<|.ret .none) s')->
   codeAny (model prog w) A (.builtin "dict.update.loop" ⟨[.ref D,.ref I,rawInt i,.none],[]⟩) R s:=by
 have Q:=λh=>N<|W.sub _ h;have l:∀b∈wr,b∈D::wr:=λb F=>Ry _ F;have gh:∀{s s':Xh}{xs:Xm (κ×Xf×Xf)},Moved wr G s s'->NK.vS k s.heap D xs->NK.vS k s'.heap D xs:=λa ⟨o,es,ep,M,h2⟩=>⟨o,es,ep,a.heap D _ Q M,h2⟩;intro m
 induction m with
 |zero=>
  intro i s Yh hi H J Z U;obtain rfl:i=n:=by lia
  refine RT eV ?_;rw[RL cY _];refine Qz<|W.done s _ _ H λs' a=>?_;have E:=gh a J;rw[<-hn,RR]at E;exact Qz<|QA<|QA<|U s' (a.mono l) E
 |succ m ih=>
  intro i s Yh hi H J Z U;have p:i<n:=by lia
  obtain⟨q,hq⟩:∃q,ps[i]? =some q:=⟨_,QB<|by rw[hn];exact p⟩;refine RT eV ?_;rw[RL cY _];refine Qz<|W.item i s _ _ p H λv s' hv B a=>?_;cases hP i v hv;have g:=(λa h b o e=>a.heap b o (off b o e).2<|h b o e) a Z;obtain⟨⟨o,M,hc,c,hd⟩,r,S⟩:=Y i q hq;have z:=g _ _ M;refine Qz<|Rh<|Qz<|wpAny_tryCatch ?_;unfold Builtin.Dict.pairItems;refine Qz<|Uq ⟨_,z,hc⟩ ?_;rw[QI<|by decide];refine Qz<|Ur z hd<|QA ?_;have hl:(gf []<|ps.take i).length<=sizeLine:=by
   have:=rQ (ps.take i) [];grind
  refine Rh<|NK.Ae q8 S hu (k.keep g r) (gh a J) (λe he=>?_) (n8 _ Uz) hl λh' C O=>?_
  ·obtain ⟨f,L,_⟩|⟨f,L,e1,e2⟩:=qB _ _ _ he
   ·cases L
   ·obtain⟨j,hj⟩:=QZ (SI L)
    rw[e1,e2];exact k.keep g (Y j f hj).2.1
  rw[<-wB [] ps i q hq]at C;have X:((i:Int)+1)=((i+1:Nat):Int):=by push_cast;rfl
  refine QA ⟨SE cY _,?_⟩;rw[X];refine ih (i+1) _ (by lia) p (W.frame _ s' _ _ B (TY _ _) λb F o e=>?_) C (λb o e=>(O.2 b (off b o e).1).trans<|g b o e) λK y x=>?_
  ·rw[O.2 b<|by grind]
   exact e
  ·refine U K (Wl W.gtrans ((a.mono l).then_heap (TY _ _) λb o F e=>?_) y) x
   rw[O.2 b<|by grind];exact e
end
section
variable {w:Xj}{κ:Type} [DecidableEq κ]{k:NK.gq prog w κ}{A:Xl}{E:Xo}{s:Xh}
def yS (ps:Xm (κ×Xf×Xf)) (T:Nat->Xg) (q8:k.qd<=8) (W:k.room A.in1.in1) (L:A.handled=none) (M:s.heap.get? l=some o) (H:o.cls=.type "list") (I:o.data=.seq items c) (hd:o.dict=none) (Z:ps.length=items.size) (hb:ps.length<=sizeLine)
  (X:∀(i:Nat)(v:Xf),items[i]? =some v->v=.ref (T i))(O:∀(i:Nat) q,ps[i]? =some q->IsTup s.heap (T i) #[q.2.1,q.2.2]/\k.is s.heap q.1 q.2.1/\NK.Sh q.2.1)
  (h:∀h' J,NK.vS k h' s.heap.objs.size (gf [] ps)->(∀b o,s.heap.get? b=some o->h'.get? b=some o)->Q (.ref s.heap.objs.size) { s with heap:=h',toks:=J }):
  wpAny (model prog w) A (call (.type "dict") [.ref l]) Q E s:=by
 refine W5 (Q₁:=λx m=>x=.ref s.heap.objs.size/\m={ s with heap:=s.heap.push { cls:=.type "dict",data:=.dict #[] } }) WD (V5 _) Wo (kt_code_dict_new _ ⟨rfl,rfl⟩) ?_;rintro x m ⟨rfl,rfl⟩;have j:=Vm (knd:=cL prog w) s.heap;have n:=QE { cls:=.type "dict",data:=.dict #[] } M;refine⟨j.typeIs,Wg _ _,?_⟩;unfold Builtin.«dict.__init__»;refine Qz ?_;unfold Builtin.Dict.selfAndRest;refine Qz<|SX j.typeIs ?_;refine QA ?_;show wpAny _ _ (Builtin.Dict.updateFrom "dict.__init__" s.heap.objs.size (.ref l) [] .none) _ _ _;unfold Builtin.Dict.updateFrom;refine Qz<|Uq ⟨_,n,H⟩ ?_;rw[QI<|by decide];refine Qz<|kF n H I hd L λy J f=>?_;rw[QI<|show Option.isNone (none:Xk Xf)=true from rfl];refine Qz<|RW ?_;have p:y.IsList l items:=⟨o,f _ _ n,H,c,I⟩;have r:∀b u,s.heap.get? b=some u->y.get? b=some u:=λb u e=>f _ _<|QE _ e;have K:=QY<|f _ _<|QN _ rfl;refine Qz<|Td p ?_;refine QA ⟨SE cY _,?_⟩;have B:=QY M;have G:∀(a:Xg) (o:Obj),s.heap.get? a=some o->a≠s.heap.objs.size/\a ∉ [y.objs.size]:=λa o e=>by
  have lt:=QY e;grind
 refine AQ ((Vg (show A.in1.in1.handled=none by simp[L]) y.objs.size l (QU<|U4 B K) items).toS) q8 W s.heap.objs.size (by grind) ps T Z (by lia) X s.heap G O (items.size-0) 0 _ (by lia) (RF _) ⟨⟨_,QN _ rfl,rfl,rfl⟩,p.push _⟩ ⟨_,#[],0,QE _<|f _ _<|QN _ rfl,⟨rfl,rfl,rfl⟩,rfl,rfl⟩ (λb u e=>QE _<|r b u e) ?_;intro N z D;obtain⟨g,R,U,F,C⟩:=N;have P:R=s.gens:=z.gens;have Y:U=s.drawn:=z.drawn;have S:C=s.os:=z.os;subst P Y S;refine⟨rfl,h g F D λb u e=>?_⟩;have lt:=QY e;refine z.heap b u ?_ (QE _<|r _ _ e);simp only[mem_cons,not_mem_nil,or_false,not_or];exact⟨QU lt,QU<|U4 lt K⟩
end
section
variable [DecidableEq κ]
def eD(Xu ps:Xm (κ×V×V)):Xm (κ×V×V):=ps.foldl (λa q=>fE a q.1 q.2.1 q.2.2) Xu
def BP{more:Xm (κ×V×V)}{rs:Xm (κ×Xf×Xf)}(r:Paired gO more rs):∀{Xu:Xm (κ×V×V)}{xs:Xm (κ×Xf×Xf)},Paired gO Xu xs->Paired gO (eD Xu more) (gf xs rs):=by
 induction r with
 |nil=>exact λq=>q
 | @cons p q ps qs h t ih=>
  intro Xu xs a;have e:Paired gO (fE Xu p.1 p.2.1 p.2.2) (NK.i9 xs q.1 q.2.1 q.2.2):=by
   have:=zg (x:=p.1) h.2.1 h.2.2 a;rw[<-h.1];exact this
  exact ih e
end
section
variable {X:Cx} [DecidableEq κ]{kk:KK X.prog X.w κ}
inductive CZ(K:Frag){P:Xi}{w:Xj}(f:KK P w κ)(vs:Xm V)(H:Hp)(Q:VK):Prop
 |mk(p:Xg)(xs:Xm V)(Xu:Xm (κ×V×V))(e:vs=[.ref p])(s:cN K H p xs)(l:xs.length=Xu.length)(t:∀(i:Nat) x kv,xs[i]? =some x->Xu[i]? =some kv->∃a,x=.ref a/\H a=some (.tup [kv.2.1,kv.2.2])/\f.rel H kv.1 kv.2.1)(q:∀d,H d=none->(d==sysModules)=false->Q (.ref d) (upd H d (.ext (Dφ f d (eD [] Xu)))))
def j9(Z:kk.k.room X.A.in1.in1)(hc:X.calm=true):eK X (.type "dict") (λvs H Q=>CZ X.K kk vs H Q):=by
 intro Xs s σ H vs us Q I r h;obtain⟨p,xs,j,rfl,Y,ll,S,q⟩:=h;obtain⟨u,rfl,rx⟩:=vals1 r;cases rx;obtain⟨w,J,⟨o,c,ho,F,N,O⟩,hz⟩:=I.list Y;have hl:=J.length;have E:∀i:Nat,∃t:Xg×Xf×Xf,i<w.length->w[i]? =some (.ref t.1)/\∀g,j[i]? =some g->IsTup s.heap t.1 #[t.2.1,t.2.2]/\kk.rel H g.1 g.2.1/\RelV g.2.1 t.2.1/\RelV g.2.2 t.2.2:=λi=>by
  by_cases hi:i<w.length
  ·obtain⟨g,y⟩:∃g,j[i]? =some g:=⟨_,QB<|by lia⟩
   obtain⟨x,L⟩:∃x,xs[i]? =some x:=⟨_,QB<|by lia⟩;obtain⟨a,rfl,ha,T⟩:=S i x g L y;obtain⟨u,eu,ru⟩:=J.get L;cases ru;obtain⟨ab,rj,tp,_⟩:=I.tuple<|fh.of (K:=X.K) ha;cases rj with
   |cons R rest=>
    cases rest with
    |cons r2 n=>
     cases n;exact⟨(a,_,_),λ_=>⟨eu,λac e=>by rw[y]at e;cases e;exact⟨tp,T,R,r2⟩⟩⟩
  ·exact⟨(0,.none,.none),λh=>absurd h hi⟩
 obtain⟨f,B⟩:=UT E;have z:∀(i:Nat) q,(j.mapIdx λi g=>(g.1,(f i).2.1,(f i).2.2))[i]? =some q->∃g,j[i]? =some g/\q=(g.1,(f i).2.1,(f i).2.2):=λi q e=>by
  rw[W6]at e;obtain⟨g,l,rfl⟩:=Rt.mp e;exact⟨g,l,rfl⟩
 have m:∀{i:Nat}{g:κ×V×V},j[i]? =some g->i<w.length:=λe=>by
  have:=(gI0.mp e).1;lia
 have D:(j.mapIdx λi g=>(g.1,(f i).2.1,(f i).2.2)).length=j.length:=List.length_mapIdx;refine yS (k:=kk.k) (j.mapIdx λi g=>(g.1,(f i).2.1,(f i).2.2)) (λi=>(f i).1) kk.q8 Z (I.ok.hd hc) ho F O N (by rw[D,Rl];lia) (by rw[D];lia) (λi v e=>?_) (λi q e=>?_) λh' W U P=>?_
 ·have G:w[i]? =some v:=by simpa using e
  have:=(B i (gI0.mp G).1).1;rw[G]at this;exact Ri this
 ·obtain⟨g,l,rfl⟩:=z i q e
  have:=(B i<|m l).2 g l;exact⟨this.1,kk.is I.hok this.2.1 this.2.2.1,kk.sh this.2.1 this.2.2.1⟩
 ·have C:Paired gO j (j.mapIdx λi g=>(g.1,(f i).2.1,(f i).2.2)):=jh D.symm λi p q l e2=>by
   obtain⟨g,M,rfl⟩:=z i q e2;rw[l]at M;cases M;exact⟨rfl,((B i<|m l).2 _ l).2.2.1,((B i<|m l).2 _ l).2.2.2⟩
  have hn:=I.hok.fresh<|QJ s.heap.objs.size;exact⟨.ref _,_,I.laid (a:=s.heap.objs.size) (o:=.ext<|Dφ kk s.heap.objs.size<|eD [] j) (t':=W) P (QJ _)<|dφ_ok (BP C .nil) U,rfl,q _ hn<|R3.mpr<|Tf<|QU I.big⟩
end
inductive An(x y:V)(H:Hp)(Q:Bool->Prop):Prop
 |txt (a b:Xn)(ex:x=.str a)(e:y=.str b)(q:Q (decide (a=b)))
 |tup (p:Xg)(xs:Xm V)(b:Xn)(ex:x=.ref p)(h:H p=some (.tup xs))(e:y=.str b)(q:Q false)
def vG:decide (V.str a=V.str b)=decide (a=b):=VQ.mpr ⟨λe=>by injection e,λe=>by rw[e]⟩
def vb(r:X.A.units<cLine):jk X (compareOp .Eq) (λx y H Q=>An x y H λb=>Q (.bl b) H):=by
 intro l s σ H x y v u Q I g i h;cases h with
 |txt a b e f q=>
  subst e f;exact IG l s σ H _ _ v u Q I g i ⟨rfl,by rw[vG];exact q⟩
 |tup p D b e h f q=>
  subst e f;cases (show v=Value.ref p from g);obtain⟨t,rfl⟩:=(show ∃t,u=Value.str b t from i);obtain⟨_,C,B,o,m,z,n,j⟩:=I.hok p _ h;exact SeqAt.RcAt.tuple_str b t ⟨o,m,z,n,j⟩ r X.prog X.w X.xe _ ⟨.bl false,H,I,rfl,q⟩
def u5(r:X.A.units<cLine):jk X (compareOp .NotEq) (λx y H Q=>An x y H λb=>Q (.bl<|!b) H):=by
 intro l s σ H x y v u Q I g i h;cases h with
 |txt a b e f q=>
  subst e f;exact Jk l s σ H _ _ v u Q I g i ⟨rfl,by rw[vG];exact q⟩
 |tup p D b e h f q=>
  subst e f;cases (show v=Value.ref p from g);obtain⟨t,rfl⟩:=(show ∃t,u=Value.str b t from i);obtain⟨_,C,B,o,m,z,n,j⟩:=I.hok p _ h;exact SeqAt.RcNeAt.tuple_str b t ⟨o,m,z,n,j⟩ r X.prog X.w X.xe _ ⟨.bl true,H,I,rfl,q⟩
end L2
namespace J
section
variable {X:Cx}{κ:Type} [DecidableEq κ]{kk:KK X.prog X.w κ}{o:Expr}{i:Expr}{e:Expr}{f:Expr}{value:Expr}{tg:Expr}{pos:Pos}{XI:Pos}{Xy:Pos}{Xx:Pos}{Yc:Pos}{td:TE}{ty:TE}{tv:TE}{tx:TE}
def Pe(f:X.A.units+3<cLine)(a:JE X o td)(j:JE X i ty)(h:dU i):JE X (.Subscript o i pos) (Av kk td ty):=⟨FW f a.out j.out λg e=>h.out g e⟩
def Ls(a:X.A.units+3<cLine)(e:JE X i ty)(f:JE X o td)(hm:behindInMarks .In o=false:=by rfl):JT X (.Compare i [.In] [o] pos) (tB<|FZ kk ty td):=⟨uU (Ju a e.out f.out) hm⟩
def Bi(a:X.A.units+3<cLine)(e:JE X i ty)(f:JE X o td)(hm:behindInMarks .NotIn o=false:=by rfl):JT X (.Compare i [.NotIn] [o] pos) (tB<|oK kk ty td):=⟨uU (Bp a e.out f.out) hm⟩
def ML(e:X.A.units+3<cLine)(g:JE X o td)(f:JE X i ty)(a:JE X value tv)(h:hV value=false:=by rfl):JS X (.Assign [.Subscript o i XI] value pos) (AF kk td ty tv):=⟨Fn e g.out f.out a.out<|jz h⟩
def OS{aa:V->V->Hp->VK->Prop}(m:X.A.units+3<cLine)(g:Dk X op aa)(h:JE X o td)(n:JE X i ty)(j:JE X value tv)(l:∀f e a,augStore i f e a=(do holding [a,f,e] (setItem f e a);release [a,f,e] [];pure .next)):JS X (.AugAssign (.Subscript o i Yc) op value pos) (CP kk td ty tv aa):=⟨GS m h.out n.out j.out g l⟩
def NR:JE X (.Dict [] [] pos) (zY kk):=⟨GK⟩
def q1(g:JE X e ty)(a:JE X f tv):JE X (.Dict [some e] [f] pos) (Qb X ty tv):=⟨Nu g.out a.out⟩
def ND(j:X.A.units+3<cLine)(i:JE X o td)(he:JE X e ty)(hf:JE X f tx)(h:iR o=true:=by rfl)(g:notStar e=true:=by rfl)(a:notStar f=true:=by rfl)(l:(Xy.endLine==Xx.line)=true:=by rfl):JE X (.Call (.Attribute o "get" Xy) [e,f] [] Xx) (xI kk td ty tx):=
 ⟨Dt j i.out he.out hf.out ⟨fQ h,by rw[BS g a];rfl,l,BS g a⟩⟩
def L8(j:X.A.units+3<cLine)(i:JE X o td)(he:JE X e ty)(hf:JE X f tx)(h:iR o=true:=by rfl)(g:notStar e=true:=by rfl)(a:notStar f=true:=by rfl)(l:(Xy.endLine==Xx.line)=true:=by rfl):JE X (.Call (.Attribute o "setdefault" Xy) [e,f] [] Xx) (xS kk td ty tx):=
 ⟨EJ j i.out he.out hf.out ⟨fQ h,by rw[BS g a];rfl,l,BS g a⟩⟩
def Gb(h:JE X e td):JI X tg e (iQ kk td):=⟨L2.Gb h.out⟩
def DN(a:JE X o td)(h:iR o=true:=by rfl)(e:(Xy.endLine==Xx.line)=true:=by rfl):JI X (.Tuple ts tn Yc) (.Call (.Attribute o "items" Xy) [] [] Xx) (Pb kk td):=⟨L2.DN a.out (fQ h) e⟩
def j9(a:kk.k.room X.A.in1.in1)(e:X.calm=true):JF X (.type "dict") (λvs H Q=>CZ X.K kk vs H Q):=⟨L2.j9 a e⟩
def vb(a:X.A.units<cLine):JC X .Eq (λx y H Q=>An x y H λb=>Q (.bl b) H):=⟨L2.vb a⟩
def u5(a:X.A.units<cLine):JC X .NotEq (λx y H Q=>An x y H λb=>Q (.bl<|!b) H):=⟨L2.u5 a⟩
end
end J
namespace L2
section
variable [DecidableEq κ]
inductive ON(a:KK P w κ)(H:Hp)(Q:Hp->Prop):Prop
 |mk(d:Xg)(o:Obj)(Xu:Xm (κ×V×V))(h:H d=some (.ext (Fz d o (Dφ a d Xu))))(q:Q (upd H d (.ext (Dφ a d Xu))))
def Ek(f:KK P w κ)(g:TS):TS:=λD σ H=>g { D with nx:=λa h=>ON f h λe=>D.nx a e } σ H
end
section
variable {X:Cx} [DecidableEq κ]{kk:KK X.prog X.w κ}{st:Stmt}{ts:TS}
def Fo(h:PS X st ts):PS X st (Ek kk ts):=by
 intro l s σ H D I q;refine RQ (h l s σ H _ I q) (λf g z=>?_) λ_ _ z=>z;cases f with
 |next=>
  obtain⟨a,r,i,d,o,j,e,q⟩:=z;obtain⟨⟨m,x,p,n⟩,_,_⟩:=(show cV X.prog X.w r g.heap d (.ext<|Fz d o<|Dφ kk d j) from i.hok d _ e);exact⟨a,_,i.write (t':=g.toks) (by rw[e];trivial) (.inl rfl) (λ_ _ _ e=>e) ⟨o,m⟩<|dφ_ok p n,q⟩
 |ret v=>exact z
 |brk=>exact z
 |cont=>exact z
end
def P0(d:Xg)(o:Obj)(Xu:Xm (Xm Key×V)):It:=⟨λi H=>H d=some (.frz o<|.dT Xu)/\i<Xu.length,λi H x e=>e=H/\∃a b,Xu[i]? =some a/\x=.ref b/\H b=some (.tup<|a.1.map kV),λi H=>H d=some (.frz o<|.dT Xu)/\Xu.length<=i⟩
theorem vE{α β:Type}{R:α->β->Prop}:∀{xs:Xm α}{ys:Xm β},Paired R xs ys->∀{i:Nat}{e:α},xs[i]? =some e->∃f,ys[i]? =some f/\R e f
 |_,_,.nil,_,_,h=>by cases h
 |_,_,.cons r t,0,_,h=>by
  cases h;exact⟨_,rfl,r⟩
 |_,_,.cons r t,i+1,_,h=>vE t (i:=i) h
def KC{K:Frag}{tg:Expr}(d it:Xg)(o:Obj)(es:Array DictEntry)(ep:Nat)(Xu:Xm (Xm Key×V))(hd:o.data=.dict es ep):Turn P w K tg (P0 d o Xu) [it] it (λi h=>h.IsKeyIter it d i Xu.length ep) where
 mem:=by simp
 obj:=λi h a b g=>by
  have e:b=it:=by simpa using g
  subst e;obtain⟨o,e,c,d⟩:=a;grind
 keep:=λi h y a k=>a.at λo e=>k it (by simp) o e
 item:=by
  intro X N F B T i Q s σ H E I r a v;subst N F B;obtain⟨z,R⟩:=v;obtain⟨m,hz,J,xs,p,o',XW,D,l,W,n,q,nd⟩:=(show cV X.prog X.w H s.heap d (.frz o<|.dT Xu) from I.hok d _ z);rw[m]at l;cases l;rw[hd]at n;cases n;have sz:es.size=Xu.length:=by rw[<-QS,q,QF,<-RU p]
  have j:i<es.size:=by lia
  obtain⟨e,S⟩:∃e,Xu[i]? =some e:=⟨_,QB R⟩;obtain⟨f,C,rf⟩:=vE p S;have Z:es[i].key=.ref f.2.1:=by
   have:es[i]? =some (entryOfKey (tupleKind<|cL X.prog X.w) f):=by rw[<-QW,q,QR,C];rfl
   rw[Rr j]at this;rw[Ri this];rfl
  obtain⟨x,A,f2,O,M,G⟩:=r it (by simp);refine NK.w4 (by rw[sz];exact a) m hd j λy L sb=>?_;rw[sz]at L;have Y:Inv X Q σ H { s with heap:=y }:=I.turned (t':=s.toks) (λb o g e=>(sb.2 b g).trans e) x A O M G;obtain⟨o2,e2,c2,U⟩:=id L;exact⟨_,rfl,rH e2 c2 U (by decide) ⟨.ref f.2.1,H,Y,by rw[Z];rfl,⟨rfl,e,f.2.1,S,rfl,rf.2.1⟩,L,λb g=>(r b g).1⟩⟩
 done:=by
  intro X N F B T i Q s σ H E I r a v;subst N F B;obtain⟨z,R⟩:=v;obtain⟨m,hz,J,xs,p,o',XW,D,l,W,n,q,nd⟩:=(show cV X.prog X.w H s.heap d (.frz o<|.dT Xu) from I.hok d _ z);rw[m]at l;cases l;rw[hd]at n;cases n;have sz:es.size=Xu.length:=by rw[<-QS,q,QF,<-RU p]
  obtain⟨x,A,f2,O,M,G⟩:=r it (by simp);exact NK.vT (I.ok.hd T) (by rw[sz];exact a) m hd (by lia) λy eb=>⟨rfl,I.turned (t':=s.toks) (λb o g e=>eb b o g e) x A O M G⟩
 self:=λ_ _ _ _ _ a h=>wpAny_pyIter_keyiter a h
inductive Qi(x:V)(H:Hp)(R:It->Hp->Prop):Prop
 |mk(d:Xg)(Xu:Xm (Xm Key×V))(e:x=.ref d)(h:H d=some (.dT Xu))(q:∀(o:Obj)(H':Hp),(∀b,b≠d->H' b=H b)->H' d=some (.frz o (.dT Xu))->R (P0 d o Xu) H')
def iT(a:TE):TI:=λσ H R=>a σ H λx H1=>Qi x H1 R
def CU{l:Expr}{B:TE}(N:PE X l B):PI X tg l (iT B):=by
 intro C s σ H R I h;refine cX (N C s σ H _ I h) λv a g=>?_;obtain⟨x,H1,D,K,d,i,e,r,q⟩:=g;subst e;cases K;obtain⟨M,f,O,p,o,A,E,j,J,m,G,nd⟩:=id<|(show cV X.prog X.w H1 a.heap d (.dT i) from D.hok d _ r);have sz:A.size=i.length:=by rw[<-QS,G,QF,<-RU p]
 have L:∀b F,H1 b=some (.tup F)->b≠d:=λb F e z=>by grind
 have y:Inv X C σ (upd H1 d<|.frz o<|.dT i) a:=D.write (t':=a.toks) (by rw[r];trivial) (.inl rfl) (λ_ _ _ e=>e) ⟨o,j⟩ ⟨j,M,f,O,Paired.C9 p λ_ _ z=>⟨z.1,(cG<|L _ _ z.2.1).trans z.2.1,z.2.2⟩,o,A,E,j,J,m,G,nd⟩;refine NK.wK f j J m ⟨a.heap.objs.size,[a.heap.objs.size],_,_,_,rfl,y.kept (t':=a.toks) λb o e=>QE _ e,KC d _ o A E i m,⟨_,QN _ rfl,rfl,by rw[sz];rfl⟩,λb n=>?_,q o _ (λb n=>cG n) cE⟩;have e:b=a.heap.objs.size:=by simpa using n
 subst e;exact y.ui (QJ _)<|y.hok.fresh<|QJ _
section
variable [DecidableEq κ]
def FU{x z:κ}{v:V}(Xu:Xm (κ×V×V)):jg (Xu.map λe=>if e.1=x then(e.1,e.2.1,v) else e) z=(jg Xu z).map λe=>if e.1=x then(e.1,e.2.1,v) else e:=by
 unfold jg;rw[List.find?_map]
 congr 2
 funext e
 show decide ((if e.1=x then(e.1,e.2.1,v) else e).1=z)=_;split<;>rfl
def oQ{Xu:Xm (κ×V×V)}{z:κ}{e:κ×V×V}(h:jg Xu z=some e):e.1=z/\e∈Xu:=
 ⟨QO<|List.find?_some (p:=λe:κ×V×V=>decide<|e.1=z) h,List.mem_of_find?_eq_some h⟩
def Gj(Xu:Xm (κ×V×V))(e:κ×V×V)(z:κ):jg (Xu++[e]) z=(jg Xu z).or (if e.1=z then some e else none):=by
 unfold jg;rw[List.find?_append,find?_cons];by_cases h:e.1=z
 ·rw[dT0 h,QI h]
 ·rw[QM h,QG h]
  rfl
def jF(Xu:Xm (κ×V×V))(z:κ):Xk V:=(jg Xu z).map (·.2.2)
def u7(Xu:Xm (κ×V×V))(x z:κ)(y v:V):jF (fE Xu x y v) z=if z=x then some v else jF Xu z:=by
 unfold jF fE;cases h:jg Xu x with
 |some a=>
  rw[QI<|show(some a).isSome=true from rfl,FU];by_cases q:z=x
  ·subst q
   rw[h,QI rfl];show some (if a.1=z then(a.1,a.2.1,v) else a).2.2=_;rw[QI (oQ h).1]
  ·rw[QG q]
   cases f:jg Xu z with
   |none=>rfl
   |some e=>
    show some (if e.1=x then(e.1,e.2.1,v) else e).2.2=_;rw[QG λw=>q<|(oQ f).1.symm.trans w];rfl
 |none=>
  rw[QG<|show ¬(none:Xk (κ×V×V)).isSome=true from bF0,Gj];by_cases q:z=x
  ·grind
  ·grind
def l5(Xu:Xm (κ×V×V))(x:κ)(y v:V):(fE Xu x y v).length<=Xu.length+1:=by
 unfold fE;split
 ·rw[QF]
  exact TX _
 ·rw[QC]
  exact QJ _
def wu{Xu:Xm (κ×V×V)}{x:κ}{y v:V}(h:(jF Xu x).isSome=true):fE Xu x y v=Xu.map λe=>if e.1=x then(e.1,e.2.1,v) else e:=by
 unfold jF at h;rw[TZ]at h;unfold fE;rw[QI h]
def qh{Xu:Xm (κ×V×V)}{x:κ}{y v:V}(h:jF Xu x=none):fE Xu x y v=Xu++[(x,y,v)]:=by
 unfold jF at h;rw[Option.map_eq_none_iff]at h;unfold fE;rw[h];rfl
def Hx{x:κ}{v:V}(Xu:Xm (κ×V×V)):(Xu.map λe=>if e.1=x then(e.1,e.2.1,v) else e).map (·.1)=Xu.map (·.1):=by
 rw[Tc];exact Xc λe _=>by grind
def iL{Xu:Xm (κ×V×V)}{z:κ}:(jF Xu z).isSome=true↔z∈Xu.map (·.1):=by
 unfold jF;rw[TZ];unfold jg;grind
def Et{Xu:Xm (κ×V×V)}{x:κ}{y v:V}(h:(Xu.map (·.1)).Nodup):((fE Xu x y v).map (·.1)).Nodup:=by
 cases q:jF Xu x with
 |some e=>rw[wu<|by rw[q];rfl,Hx];exact h
 |none=>
  rw[qh q,Si];refine VJ.mpr ⟨h,Ts _ _,λa f b g e=>?_⟩;rw[QK.mp g]at e;have:=iL.mpr f;grind
def ES{Xu:Xm (κ×V×V)}(nd:(Xu.map (·.1)).Nodup){e:κ×V×V}(m:e∈Xu):jg Xu e.1=some e:=by
 cases h:jg Xu e.1 with
 |none=>exact absurd (dT0 rfl)<|Vt.mp h e m
 |some f=>
  obtain⟨g,a⟩:=oQ h;obtain⟨i,n,rfl⟩:=VB m;obtain⟨j,l,rfl⟩:=VB a;have:j=i:=(TJ (h₀:=by rw[QF];lia) (h₁:=by rw[QF];lia) nd).mp (by rw[Ug,Ug,g]);subst this;rfl
def zo{Xu:Xm (κ×V×V)}{x:κ}{y v:V}{e:κ×V×V}(h:e∈fE Xu x y v):(∃f∈Xu,e.1=f.1/\e.2.1=f.2.1)\/(e.1=x/\e.2.1=y):=by
 unfold fE at h;split at h
 ·grind
 ·grind
end
section
variable [DecidableEq κ]{a:Xg}{Xu:Xm (κ×V×V)}
def DD.mono(D:DD kk H a Xu)(e:H' a=H a)(t:∀b xs,H b=some (.tup xs)->H' b=some (.tup xs)):DD kk H' a Xu:=
 ⟨by unfold Rx;rw[e];exact D.h,λe f=>kk.mono t<|D.r e f,D.nd,D.ns,D.l⟩
def DD.same(D:DD kk H a Xu)(s:∀b o,H b=some o->H' b=some o):DD kk H' a Xu:=by
 refine D.mono ?_ λb f e=>s _ _ e;obtain h|⟨o,h⟩:=D.h
 ·rw[h,s _ _ h]
 ·rw[h,s _ _ h]
def DD.put(D:DD kk H a Xu)(hm:H a=some (.ext<|Dφ kk a Xu)){x:κ}{y v:V}(r:kk.rel H x y)(l:Xu.length+1<sizeLine):DD kk (upd H a<|.ext<|Dφ kk a<|fE Xu x y v) a (fE Xu x y v):=by
 have t:∀b h,H b=some (.tup h)->upd H a (.ext<|Dφ kk a<|fE Xu x y v) b=some (.tup h):=λb h e=>by
  rw[cG λz=>by rw[z,hm]at e;cases e];exact e
 refine⟨.inl cE,λe m=>?_,Et D.nd,D.ns,UE (l5 _ _ _ _) l⟩;obtain ⟨f,j,g,i⟩|⟨g,i⟩:=zo m
 ·rw[g,i]
  exact kk.mono t<|D.r f j
 ·rw[g,i]
  exact kk.mono t r
end
def CF{P:Xi}{w:Xj}{A:Xl}{k:Nat}(hr:dP k A):(eT P w).k.room A.in1.in1:=by
 have h:=jc hr;show A.units+1+1<cLine;lia
end L2
namespace J
section
variable {X:Cx} [DecidableEq κ]{kk:KK X.prog X.w κ}{st:Stmt}{ts:TS}{tg:Expr}{e:Expr}{te:TE}
def OG(h:JS X st ts):JS X st (Ek kk ts):=⟨Fo h.out⟩
def CU(h:JE X e te):JI X tg e (iT te):=⟨L2.CU h.out⟩
def p5:MU X "list.pop" Ei:=⟨L2.p5⟩
def mP:MU X "list.extend" AL:=⟨L2.mP⟩
end
section
variable {Yc:Pos}{td:TE}{ty:TE}{tv:TE}{tx:TE}{st:Stmt}{ts:TS}
def _root_.bM(e:X.A.units+3<cLine)(g:JE X o td)(f:JE X i ty)(a:dU i):JE X (.Subscript o i pos) (Av (eT X.prog X.w) td ty):=Pe e g f a
def AB(a:X.A.units+3<cLine)(e:JE X i ty)(f:JE X o td)(hm:behindInMarks .In o=false:=by rfl):JT X (.Compare i [.In] [o] pos) (tB<|FZ (eT X.prog X.w) ty td):=Ls a e f hm
def yM(a:X.A.units+3<cLine)(e:JE X i ty)(f:JE X o td)(hm:behindInMarks .NotIn o=false:=by rfl):JT X (.Compare i [.NotIn] [o] pos) (tB<|oK (eT X.prog X.w) ty td):=Bi a e f hm
def Eo(e:X.A.units+3<cLine)(g:JE X o td)(f:JE X i ty)(a:JE X value tv)(h:hV value=false:=by rfl):JS X (.Assign [.Subscript o i XI] value pos) (AF (eT X.prog X.w) td ty tv):=ML e g f a h
def zy:JE X (.Dict [] [] pos) (zY<|eT X.prog X.w):=NR
def NX(h:JE X e td):JI X tg e (iQ (eT X.prog X.w) td):=Gb h
def ze(e:X.A.units+3<cLine)(g:JE X o td)(f:JE X i ty)(a:JE X value tv)(h:hV value=false:=by rfl):JS X (.Assign [.Subscript o i XI] value pos) (AF (nE X.prog X.w) td ty tv):=ML e g f a h
def Mr:JE X (.Dict [] [] pos) (zY<|nE X.prog X.w):=NR
def N5(h:JE X e td):JI X tg e (iQ (nE X.prog X.w) td):=Gb h
def Jn{op:Operator}{aa:V->V->Hp->VK->Prop}(m:X.A.units+3<cLine)(g:Dk X op aa)(h:JE X o td)(n:JE X i ty)(j:JE X value tv)(l:∀f e a,augStore i f e a=(do holding [a,f,e] (setItem f e a);release [a,f,e] [];pure .next)):JS X (.AugAssign (.Subscript o i Yc) op value pos) (CP (eT X.prog X.w) td ty tv aa):=OS m g h n j l
def Kn(j:X.A.units+3<cLine)(a:JE X o td)(he:JE X e ty)(hf:JE X f tx)(h:iR o=true:=by rfl)(i:notStar e=true:=by rfl)(g:notStar f=true:=by rfl)(l:(Xy.endLine==Xx.line)=true:=by rfl):JE X (.Call (.Attribute o "get" Xy) [e,f] [] Xx) (xI (eT X.prog X.w) td ty tx):=ND j a he hf h i g l
def Ea(j:X.A.units+3<cLine)(a:JE X o td)(he:JE X e ty)(hf:JE X f tx)(h:iR o=true:=by rfl)(i:notStar e=true:=by rfl)(g:notStar f=true:=by rfl)(l:(Xy.endLine==Xx.line)=true:=by rfl):JE X (.Call (.Attribute o "setdefault" Xy) [e,f] [] Xx) (xS (eT X.prog X.w) td ty tx):=L8 j a he hf h i g l
def Lx{es:Xm Expr}{a:Nat}(e:JE X o td)(h:iR o=true:=by rfl)(f:(Xy.endLine==Xx.line)=true:=by rfl):JI X (.Tuple es a Yc) (.Call (.Attribute o "items" Xy) [] [] Xx) (Pb (nE X.prog X.w) td):=DN e h f
def Mp(h:JS X st ts):JS X st (Ek (eT X.prog X.w) ts):=OG h
def vj{k:Nat}(hr:dP k X.A)(a:X.calm=true):JF X (.type "dict") (λvs H Q=>CZ X.K (eT X.prog X.w) vs H Q):=j9 (CF hr) a
end
def mR (B:Bt X "range") (g:JA X [a,b] t) (f:notStar a=true:=by rfl) (e:notStar b=true:=by rfl):JI X tg (.Call (.Name "range" p) [a,b] [] pos) (IK t):=⟨L2.mR B.gl B.nm g.out (by rw[cU f,cU e];rfl)<|by rw[cU e];rfl⟩
section
variable {i:Expr}{pos:Pos}{td:TE}{ty:TE}
def xC(e:X.A.units+3<cLine)(g:JE (du X N' scope cl fp s3 H3 C) o td)(f:JE (du X N' scope cl fp s3 H3 C) i ty)(a:dU i):JE (du X N' scope cl fp s3 H3 C) (.Subscript o i pos) (Av (eT X.prog X.w) td ty):=bM (X:=du X N' scope cl fp s3 H3 C) e g f a
def Fd(a:X.A.units+3<cLine)(e:JE (du X N' scope cl fp s3 H3 C) i ty)(f:JE (du X N' scope cl fp s3 H3 C) o td)(hm:behindInMarks .In o=false:=by rfl):JT (du X N' scope cl fp s3 H3 C) (.Compare i [.In] [o] pos) (tB<|FZ (eT X.prog X.w) ty td):=AB (X:=du X N' scope cl fp s3 H3 C) a e f hm
def oh(a:X.A.units+3<cLine)(e:JE (du X N' scope cl fp s3 H3 C) i ty)(f:JE (du X N' scope cl fp s3 H3 C) o td)(hm:behindInMarks .NotIn o=false:=by rfl):JT (du X N' scope cl fp s3 H3 C) (.Compare i [.NotIn] [o] pos) (tB<|oK (eT X.prog X.w) ty td):=yM (X:=du X N' scope cl fp s3 H3 C) a e f hm
end
end J
namespace FL
variable {α:Type} [DecidableEq α]
theorem sum_add{β:Type}(f g:β->Int):∀L:Xm β,(L.map λl=>f l+g l).sum=(L.map f).sum+(L.map g).sum
 |[]=>rfl
 |x::r=>by
  rw[RC,RC,RC,Tw,Tw,Tw,sum_add f g r];lia
theorem fR{β:Type}{f:β->Int}:∀{L:Xm β},(∀l∈L,f l=0)->(L.map f).sum=0
 |[],_=>rfl
 |x::r,h=>by
  rw[RC,Tw,h x<|.head _,fR λl a=>h l<|.tail _ a];rfl
theorem eG{β:Type}{f g:β->Int}:∀{L:Xm β},(∀l∈L,f l=g l)->(L.map f).sum=(L.map g).sum
 |[],_=>rfl
 |x::r,h=>by
  rw[RC,RC,Tw,Tw,h x<|.head _,eG λl a=>h l<|.tail _ a]
theorem o7{β:Type} [DecidableEq β]{c:Int}{x:β}:∀{L:Xm β},L.Nodup->x∈L->(L.map λl=>if l=x then c else 0).sum=c
 |[],_,h=>nomatch h
 |y::r,nd,h=>by
  rw[RC,Tw];obtain⟨a,f⟩:=Sw.mp nd;by_cases e:y=x
  ·rw[QI e,fR λl g=>QG λq=>a<|by grind]
   lia
  ·rw[QG e,o7 f<|(Rf.mp h).resolve_left λq=>e q.symm]
   lia
def ind(p:Prop) [Decidable p] (c:Int):Int:=if p then c else 0
def c9{p:Prop} [Decidable p]{c:Int}(h:p):ind p c=c:=QI h
def c8{p:Prop} [Decidable p]{c:Int}(h:¬p):ind p c=0:=QG h
def js(L:Xm (α×α))(f:α×α->Int)(x:α):Int:=(L.map λl=>ind (l.1=x) (f l)-ind (l.2=x) (f l)).sum
theorem tY(L:Xm (α×α))(f:α×α->Int):∀{S:Xm α},S.Nodup->(S.map<|js L f).sum=(L.map λl=>ind (l.1∈S) (f l)-ind (l.2∈S) (f l)).sum
 |[],_=>by
  rw[fR (L:=L) λl _=>by rw[c8 (λh=>nomatch h),c8 λh=>nomatch h];rfl];rfl
 |x::S,nd=>by
  obtain⟨a,g⟩:=Sw.mp nd;have step:∀(y:α) (c:Int),ind (y∈x::S) c=ind (y=x) c+ind (y∈S) c:=λy c=>by
   by_cases e:y=x
   ·rw[c9<|Rf.mpr<|.inl e,c9 e,c8<|by rw[e];exact a]
    lia
   ·by_cases m:y∈S
    ·rw[c9<|Rf.mpr<|.inr m,c8 e,c9 m]
     lia
    ·rw[c8 λh=>(Rf.mp h).elim e m,c8 e,c8 m]
     rfl
  rw[RC,Tw,tY L f g];unfold js;rw[<-sum_add];exact eG λl _=>by grind
def Eh{L:Xm (α×α)}{f g:α×α->Int}{u v:α}{c:Int}(nd:L.Nodup)(m:(u,v)∈L)(i:∀l∈L,g l=f l+ind (l=(u,v)) c)(x:α):js L g x=js L f x+(ind (u=x) c-ind (v=x) c):=by
 have e:(L.map λl=>if l=(u,v) then ind (u=x) c-ind (v=x) c else 0).sum=ind (u=x) c-ind (v=x) c:=o7 nd m;unfold js;rw[<-e,<-sum_add];refine eG λl h=>?_;rw[i l h];by_cases q:l=(u,v)
 ·rw[QI q,c9 q,q]
  by_cases a:u=x
  ·by_cases b:v=x
   ·grind
   ·rw[c9 a,c8 b,c9 a,c8 b,c9 a,c8 b];lia
  ·by_cases b:v=x
   ·rw[c8 a,c9 b,c8 a,c9 b,c8 a,c9 b];lia
   ·grind
 ·rw[QG q,c8 q]
  have z:f l+0=f l:=by lia
  rw[z];lia
structure Flow(L:Xm (α×α))(cap f:α×α->Int)(s t:α)(k:Int):Prop where
 lo:∀l∈L,0<=f l
 hi:∀l∈L,f l<=cap l
 ns:js L f s=k
 nt:js L f t= -k
 no:∀x,x≠s->x≠t->js L f x=0
def zM{S:Xm α}{g:α->Int}{s:α}{k:Int}(nd:S.Nodup)(m:s∈S)(a:g s=k)(no:∀x∈S,x≠s->g x=0):(S.map g).sum=k:=by
 rw[<-o7 (c:=k) nd m];refine eG λx f=>?_;by_cases e:x=s
 ·rw[QI e,e,a]
 ·rw[QG e,no x f e]
def cut{L:Xm (α×α)}{e f:α×α->Int}{s t:α}{k:Int}(F:Flow L e f s t k){S:Xm α}(nd:S.Nodup)(o:s∈S)(m:t ∉ S)(n:∀l∈L,l.1∈S->l.2 ∉ S->f l=e l)(back:∀l∈L,l.1 ∉ S->l.2∈S->f l=0):(L.map λl=>if l.1∈S/\l.2 ∉ S then e l else 0).sum=k:=by
 rw[<-zM (g:=js L f) nd o F.ns λx p j=>F.no x j λq=>m<|by rw[<-q];exact p,tY L f nd];refine eG λl i=>?_;by_cases a:l.1∈S
 ·by_cases b:l.2∈S
  ·rw[QG λh=>h.2 b,c9 a,c9 b];lia
  ·rw[QI ⟨a,b⟩,c9 a,c8 b,n l i a b];lia
 ·by_cases b:l.2∈S
  ·rw[QG λh=>a h.1,c8 a,c9 b,back l i a b];rfl
  ·rw[QG λh=>a h.1,c8 a,c8 b];rfl
theorem qe{β:Type}{f:β->Int}{x:β}:∀{L:Xm β},(∀l∈L,0<=f l)->x∈L->f x<=(L.map f).sum
 |[],_,h=>nomatch h
 |y::r,p,h=>by
  rw[RC,Tw];have g:∀{L:Xm β},(∀l∈L,0<=f l)->0<=(L.map f).sum:=λ{L} q=>by
   induction L with
   |nil=>grind
   |cons z t e=>grind
  obtain rfl|h:=Rf.mp h
  ·grind
  ·have:=qe (λl a=>p l<|.tail _ a) h
   have:=p y<|.head _;lia
def iY{β:Type} [DecidableEq β]{f:β->Int}{x:β}{L:Xm β}(nd:L.Nodup)(p:0<=f x)(h:∀l∈L,l≠x->f l=0):(L.map f).sum<=f x:=by
 by_cases m:x∈L
 ·have e:(L.map f).sum=(L.map λl=>if l=x then f x else 0).sum:=eG λl a=>by grind
  rw[e,o7 nd m];exact Uw _
 ·rw[fR λl a=>h l a λq=>m<|by rw[<-q];exact a]
  exact p
def rg(L:Xm (α×α))(f:α×α->Int)(x:α):Int:=(L.map λl=>ind (l.1=x)<|f l).sum
def Ik(L:Xm (α×α))(f:α×α->Int)(x:α):Int:=(L.map λl=>ind (l.2=x)<|f l).sum
def k7(L:Xm (α×α))(f:α×α->Int)(x:α):js L f x+Ik L f x=rg L f x:=by
 unfold js Ik rg;rw[<-sum_add];exact eG λl _=>by lia
def hU{p:Prop} [Decidable p]{c:Int}(h:0<=c):0<=ind p c:=by
 unfold ind;split
 ·exact h
 ·lia
def Flow.Ki(F:Flow L cap f s t k){l:α×α}(m:l∈L):f l<=rg L f l.1:=by
 have:=qe (f:=λq:α×α=>ind (q.1=l.1)<|f q) (λq a=>hU<|F.lo q a) m
 rwa [c9 rfl]at this
def Flow.Iq(F:Flow L cap f s t k){l:α×α}(m:l∈L):f l<=Ik L f l.2:=by
 have:=qe (f:=λq:α×α=>ind (q.2=l.2)<|f q) (λq a=>hU<|F.lo q a) m
 rwa [c9 rfl]at this
def Flow.into(F:Flow L cap f s t k)(nd:L.Nodup){l g:α×α}(m:l∈L)(a:g∈L)(e:l.2=g.1)(ns:g.1≠s)(o:g.1≠t)(one:∀q∈L,q.1=g.1->q=g):f l<=f g:=by
 have n:=F.Iq m;have i:=k7 L f g.1;rw[F.no _ ns o]at i;rw[e]at n;have p:rg L f g.1<=f g:=by
  have:=iY nd (hU<|F.lo g a) λq h j=>c8 λw=>j<|one q h w
  rwa [c9 rfl]at this
 lia
def Flow.vV(F:Flow L cap f s t k)(nd:L.Nodup){l g:α×α}(m:l∈L)(a:g∈L)(e:l.1=g.2)(ns:g.2≠s)(o:g.2≠t)(one:∀q∈L,q.2=g.2->q=g):f l<=f g:=by
 have n:=F.Ki m;have i:=k7 L f g.2;rw[F.no _ ns o]at i;rw[e]at n;have p:Ik L f g.2<=f g:=by
  have:=iY nd (hU<|F.lo g a) λq h j=>c8 λw=>j<|one q h w
  rwa [c9 rfl]at this
 lia
def Flow.on(F:Flow L cap f s t k){l:α×α}(m:l∈L)(p:0<f l)(ns:l.2≠s)(i:l.2≠t):∃g∈L,g.1=l.2/\0<f g:=by
 apply RJ;intro no;have j:=F.Iq m;have h:=k7 L f l.2;rw[F.no _ ns i]at h;have n:rg L f l.2=0:=fR λq a=>by
  by_cases e:q.1=l.2
  ·rw[c9 e]
   have:=F.lo q a;have:¬0<f q:=λz=>no ⟨q,a,e,z⟩;lia
  ·exact c8 e
 lia
def fl(R:α->α->Int):α×α->Int:=λl=>R l.2 l.1
def way(R:α->α->Int)(b a:α):α->α->Int:=λx y=>if x=b/\y=a then R x y-1 else if x=a/\y=b then R x y+1 else R x y
structure Net(L:Xm (α×α)):Prop where
 nd:L.Nodup
 ne:∀l∈L,l.1≠l.2
 one:∀l∈L,(l.2,l.1) ∉ L
def ua{R:α->α->Int}{b a:α}:way R b a b a=R b a-1:=QI ⟨rfl,rfl⟩
def tQ{R:α->α->Int}{b a:α}(ne:b≠a):way R b a a b=R a b+1:=by
 unfold way;rw[QG λh=>ne h.1.symm,QI ⟨rfl,rfl⟩]
def nN{R:α->α->Int}{b a x y:α}(e:¬(x=b/\y=a))(f:¬(x=a/\y=b)):way R b a x y=R x y:=by
 unfold way;rw[QG e,QG f]
def HL{L:Xm (α×α)}(N:Net L){R:α->α->Int}{b a:α}(m:(b,a)∈L\/(a,b)∈L)(x:α):js L (fl<|way R b a) x=js L (fl R) x+(ind (b=x) 1-ind (a=x) 1):=by
 obtain m|m:=m
 ·refine Eh N.nd m (λl e=>?_) x
  by_cases q:l=(b,a)
  ·rw[c9 q,q]
   exact tQ<|N.ne _ m
  ·rw[c8 q,WM]
   exact nN (λh=>N.one _ m<|by grind) λh=>q<|V7 h.2 h.1
 ·have:=Eh (c:= -1) (f:=fl R) (g:=fl<|way R b a) N.nd m (λl e=>?_) x
  ·rw[this]
   by_cases p:b=x
   ·by_cases q:a=x
    ·grind
    ·rw[c9 p,c8 q,c9 p,c8 q];lia
   ·by_cases q:a=x
    ·rw[c8 p,c9 q,c8 p,c9 q];lia
    ·grind
  ·by_cases q:l=(a,b)
   ·rw[c9 q,q]
    exact ua
   ·rw[c8 q,WM]
    exact nN (λh=>q<|V7 h.2 h.1) λh=>N.one _ m (by grind)
structure gS(L:Xm (α×α))(cap:α×α->Int)(R:α->α->Int):Prop where
 all:∀l∈L,R l.1 l.2+R l.2 l.1=cap l
 on:∀l∈L,0<=R l.1 l.2
 off:∀l∈L,0<=R l.2 l.1
def gS.way{L:Xm (α×α)}{f:α×α->Int}{R:α->α->Int}(N:Net L)(h:gS L f R){b a:α}(m:(b,a)∈L\/(a,b)∈L)(p:0<R b a):gS L f (way R b a):=by
 have o:b≠a:=m.elim (λm=>N.ne _ m) λm=>(N.ne _ m).symm;have key:∀l∈L,FL.way R b a l.1 l.2+FL.way R b a l.2 l.1=f l/\0<=FL.way R b a l.1 l.2/\0<=FL.way R b a l.2 l.1:=λl e=>by
  have j:=h.all l e;have i:=h.on l e;have n:=h.off l e;by_cases q:l.1=b/\l.2=a
  ·rw[q.1,q.2]at j i n ⊢
   rw[ua,tQ o];lia
  ·by_cases g:l.1=a/\l.2=b
   ·rw[g.1,g.2]at j i n ⊢
    rw[ua,tQ o];lia
   ·rw[nN q g,nN (λz=>g ⟨z.2,z.1⟩) λz=>q ⟨z.2,z.1⟩]
    exact⟨j,i,n⟩
 exact⟨λl e=>(key l e).1,λl e=>(key l e).2.1,λl e=>(key l e).2.2⟩
def gS.Pz{L:Xm (α×α)}{a:α×α->Int}{R:α->α->Int}{s t:α}{k:Int}(h:gS L a R)(ns:js L (fl R) s=k)(f:js L (fl R) t= -k)(no:∀x,x≠s->x≠t->js L (fl R) x=0):Flow L a (fl R) s t k:=
 ⟨λl e=>h.off l e,λl e=>by
  have:=h.all l e;have:=h.on l e;show R l.2 l.1<=a l;lia,ns,f,no⟩
structure Mw(L:Xm (α×α))(R:α->α->Int)(s:α)(S:Xm α)(bf:α->α)(rk:α->Nat):Prop where
 st:s∈S
 bfS:∀x∈S,x≠s->bf x∈S
 low:∀x∈S,x≠s->rk (bf x)<rk x
 room:∀x∈S,x≠s->0<R (bf x) x
 link:∀x∈S,x≠s->(bf x,x)∈L\/(x,bf x)∈L
structure tL(L:Xm (α×α))(cap:α×α->Int)(R R':α->α->Int)(s t:α)(S:Xm α)(bf:α->α)(rk:α->Nat)(p:α):Prop where
 pS:p∈S
 rm:gS L cap R'
 nt:∀x,js L (fl R') x=js L (fl R) x+(ind (p=x) 1-ind (t=x) 1)
 old:∀z∈S,rk z<=rk p->z≠s->R' (bf z) z=R (bf z) z
section
variable {S:Xm α}{bf:α->α}{rk:α->Nat}
def tL.first(h:gS L cap R)(m:t∈S):tL L cap R R s t S bf rk t:=⟨m,h,λx=>by lia,λ_ _ _ _=>rfl⟩
def tL.step(N:Net L)(C:Mw L R s S bf rk)(h:tL L cap R R' s t S bf rk p)(ne:p≠s):tL L cap R (way R' (bf p) p) s t S bf rk (bf p):=by
 have i:=C.low p h.pS ne;have e:=C.link p h.pS ne;refine⟨C.bfS p h.pS ne,h.rm.way N e<|by rw[h.old p h.pS (QJ _) ne];exact C.room p h.pS ne,λx=>?_,λz f le a=>?_⟩
 ·rw[HL N e,h.nt x]
  lia
 ·have g:=C.low z f a
  rw[nN (λq=>by rw[q.2]at le;lia) λq=>by rw[q.1]at g;lia];exact h.old z f (by lia) a
def tL.last{k:Int}(h:tL L cap R R' s t S bf rk s)(ne:s≠t)(F:Flow L cap (fl R) s t k):Flow L cap (fl R') s t (k+1):=by
 refine h.rm.Pz ?_ ?_ λx a e=>?_
 ·rw[h.nt,F.ns,c9 rfl,c8 ne.symm]
  lia
 ·rw[h.nt,F.nt,c8 ne,c9 rfl]
  lia
 ·rw[h.nt,F.no x a e,c8 a.symm,c8 e.symm]
  rfl
end
theorem lG{β:Type}{f g:β->Int}:∀{L:Xm β},(∀l∈L,f l<=g l)->(L.map f).sum<=(L.map g).sum
 |[],_=>Uw _
 |x::r,h=>by
  rw[RC,RC,Tw,Tw];have:=h x<|.head _;have:=lG λl a=>h l<|.tail _ a;lia
def LM{β:Type}{f:β->Int}{L:Xm β}(h:∀l∈L,0<=f l):0<=(L.map f).sum:=by
 have:=lG h
 rwa [fR λ_ _=>rfl]at this
def Flow.bound{L:Xm (α×α)}{a f:α×α->Int}{s t:α}{k:Int}(F:Flow L a f s t k):k<=(L.map λl=>ind (l.1=s)<|a l).sum:=by
 have g:=k7 L f s;rw[F.ns]at g;have h:0<=Ik L f s:=LM λl e=>hU<|F.lo l e;have i:rg L f s<=(L.map λl=>ind (l.1=s)<|a l).sum:=lG λl e=>by
  unfold ind;split
  ·exact F.hi l e
  ·lia
 lia
def Flow.zero{L:Xm (α×α)}{a:α×α->Int}{R:α->α->Int}{s t:α}(h:∀l∈L,R l.2 l.1=0)(c:∀l∈L,0<=a l):Flow L a (fl R) s t 0:=by
 have z:∀x,js L (fl R) x=0:=λx=>fR λl f=>by
  have e:fl R l=0:=h l f;rw[e];unfold ind;split<;>split<;>rfl
 refine⟨λl f=>?_,λl f=>?_,z s,z t,λx _ _=>z x⟩
 ·show 0<=R l.2 l.1
  rw[h l f];exact Uw _
 ·show R l.2 l.1<=a l
  rw[h l f];exact c l f
end FL
namespace SW
def Up(xs:Array Nat):Prop:=xs.toList.Pairwise (· < ·)
def Az{xs:Array Nat}(u:Up xs){a b d:Nat}(h:a<b)(e:b<xs.size):xs.getD a d<xs.getD b d:=by
 have:=UJ.mp u a b (by rw[QS];lia) (by rw[QS];lia) h
 simpa [Array.getD,e,lt_trans h e] using this
theorem EY{xs:Array Nat}{j:Nat}(u:Up xs):∀(f lo g:Nat),g-lo<=f->lo<=g->g<=xs.size->(∀i,i<lo->xs.getD i j<j)->(∀i,g<=i->i<xs.size->j<=xs.getD i j)->
  ∃p,SetTable.below.go xs j f lo g=p/\p<=xs.size/\(∀i,i<p->xs.getD i j<j)/\∀i,p<=i->i<xs.size->j<=xs.getD i j
 |0,lo,g,h0,h1,h2,a,b=>⟨lo,rfl,by lia,a,λi h=>b i<|by lia⟩
 |f+1,lo,g,h0,h1,h2,a,b=>by
  unfold SetTable.below.go;by_cases h:lo<g
  ·rw[QI h]
   dsimp only;have n:(lo+g) / 2<g:=by lia
   have l:lo<=(lo+g) / 2:=by lia
   generalize (lo+g) / 2=m at n l;by_cases q:xs.getD m j<j
   ·rw[QI q]
    refine EY u f _ _ (by lia) (by lia) h2 (λi g=>?_) b;by_cases e:i=m
    ·rw[e];exact q
    ·exact U4 (Az u (by lia)<|by lia) q
   ·rw[QG q]
    refine EY u f _ _ (by lia) l (by lia) a λi g o=>?_;by_cases e:m=i
    ·rw[<-e];lia
    ·have:=Az (d:=j) u (show m<i by lia) o
     lia
  ·rw[QG h]
   exact⟨lo,rfl,by lia,a,λi h=>b i<|by lia⟩
def l8{xs:Array Nat}(u:Up xs)(j:Nat):∃p,SetTable.below xs j=p/\p<=xs.size/\(∀i,i<p->xs.getD i j<j)/\∀i,p<=i->i<xs.size->j<=xs.getD i j:=
 EY u _ _ _ (QJ _) (RF _) (QJ _) (λi h=>absurd h<|V0 _) λi e a=>absurd a<|not_lt.mpr e
def getD_at{xs:Array Nat}{k d v:Nat}(h:xs[k]? =some v):xs.getD k d=v:=by
 rw[Array.getD_eq_getD_getElem?,h];rfl
def pK{xs:Array Nat}{k v:Nat}(h:xs[k]? =some v):k<xs.size:=(Tz.mp h).1
def below_at{xs:Array Nat}(u:Up xs){k v:Nat}(h:xs[k]? =some v):SetTable.below xs v=k:=by
 obtain⟨p,e,j,g,i⟩:=l8 u v;rw[e];have f:=pK h;obtain q|q|q:=Nat.lt_trichotomy p k
 ·have a:=i p (QJ _) (by lia)
  have b:=Az (d:=v) u q f;rw[getD_at h]at b;lia
 ·exact q
 ·have a:=g k q
  rw[getD_at h]at a;lia
def yQ{xs:Array Nat}(u:Up xs){k v:Nat}(h:xs[k]? =some v):SetTable.below xs (v+1)=k+1:=by
 obtain⟨p,e,j,g,i⟩:=l8 u<|v+1;rw[e];have f:=pK h;obtain q|q|q:=Nat.lt_trichotomy p (k+1)
 ·have a:=i k (by lia) f
  rw[getD_at h]at a;lia
 ·exact q
 ·have a:=g (k+1) q
  have b:=Az (d:=v+1) u (show k<k+1 by lia) (by lia);rw[getD_at h]at b;lia
def yX{xs:Array Nat}(u:Up xs):SetTable.below xs 0=0:=by
 obtain⟨p,e,f,a,g⟩:=l8 u 0;rw[e];cases p with
 |zero=>rfl
 |succ p=>exact absurd (a 0<|Vw _)<|V0 _
def Bo{xs:Array Nat}(u:Up xs){j:Nat}(n:j ∉ xs.toList):Up (SetTable.insertAt xs (SetTable.below xs j) j):=by
 obtain⟨p,e,v,r,s⟩:=l8 u j;rw[e];unfold Up;rw[SetTable.toList_insertAt];have o:∀y∈xs.toList.drop p,j<y:=λy g=>by
  obtain⟨i,f⟩:=QZ g;rw[TB,QW]at f;have a:=s (p+i) (TY _ _)<|pK f;rw[getD_at f]at a;have:j≠y:=λq=>n<|q ▸ Ut g;lia
 have lt:∀y∈xs.toList.take p,y<j:=λy g=>by
  obtain⟨i,f⟩:=QZ g;have l:i<p:=by
   have:=(gI0.mp f).1;rw[RK]at this;lia
  rw[Sl l,QW]at f;have a:=r i l
  rwa [getD_at f]at a
 refine UH.mpr ⟨To (VC _ _) u,VN.mpr ⟨o,To (List.drop_sublist _ _) u⟩,λa m b h=>?_⟩;obtain rfl|h:=Rf.mp h
 ·exact lt a m
 ·exact U4 (lt a m)<|o b h
def rN{t:SetTable}{j:Nat}(u:Up t.place)(h:∀i,t.slot j≠.live i):j ∉ t.place.toList:=λm=>by
 obtain⟨k,a⟩:=QZ m;rw[QW]at a;refine h k ?_;unfold SetTable.slot;dsimp only;rw[below_at u a,a,QI<|by simp]
theorem pU{t:SetTable}{g:Nat->Int}{h:Int}:∀(f:Nat) (p:SetTable.Probe),(∀d,p.dummy=some d->∀i,t.slot d≠.live i)->∀j a,SetTable.probe.go t g h f p=some (.empty j a)->(∀i,t.slot j≠.live i)/\∀d,a=some d->∀i,t.slot d≠.live i
 |0,p,hp,j,a,e=>by cases e
 |f+1,p,hp,j,a,e=>by
  have m:∀q:SetTable.Probe,(t.advance q).dummy=q.dummy:=λq=>by
   unfold SetTable.advance;split<;>rfl
  unfold SetTable.probe.go at e;cases l:t.slot p.j with
  |empty=>
   rw[l]at e;cases e;exact⟨λi=>(by rw[l];exact λz=>by cases z),hp⟩
  |dummy=>
   rw[l]at e;refine pU f _ (λd n=>?_) j a e;rw[m]at n;cases n;exact λi=>by rw[l];exact λz=>by cases z
  |live i=>
   rw[l]at e;dsimp only at e;split at e
   ·cases e
   ·exact pU f _ (λd n=>hp d<|by rwa [m]at n) j a e
def Fy{t:SetTable}{h:Int}{s:Nat}{b:Bool}(u:Up t.place)(e:t.freeSlot h=some (s,b)):s ∉ t.place.toList:=by
 unfold SetTable.freeSlot at e;split at e
 ·rename_i j a f
  cases e;obtain⟨l,i⟩:=pU _ _ (λd g=>by cases g) j a f;cases a with
  |none=>exact rN u l
  |some d=>exact rN u<|i d rfl
 ·cases e
def l6(n:Nat):Up (Array.range n):=by
 unfold Up;rw[Array.toList_range];exact UY
def EK{t:SetTable}{n:Nat}(u:Up t.place):(t.orStandIn n).led=t.led/\Up (t.orStandIn n).place:=by
 unfold SetTable.orStandIn;split
 ·exact⟨rfl,u⟩
 ·exact⟨rfl,l6 n⟩
def KR{t:SetTable}{es:Array (Int×Xf)}{h:Int}{x:Xf}(u:Up t.place):(layNew t es h x).2.1.led=t.led/\Up (layNew t es h x).2.1.place:=by
 unfold layNew;cases e:t.freeSlot h with
 |none=>exact⟨rfl,l6 _⟩
 |some a=>
  obtain⟨s,b⟩:=a;exact EK (t:=(t.put s).1)<|Bo u<|Fy u e
theorem uz{α:Type}(g:Nat->Xk α):∀l:Xm Nat,((l.filterMap λj=>(g j).map (j,·)).map (·.1))=l.filter λj=>(g j).isSome
 |[]=>rfl
 |a::r=>by
  rw[UP,R8];cases g a with
  |none=>exact uz g r
  |some v=>exact RH (a::·)<|uz g r
def Fc{t:SetTable}{es:Array (Int×Xf)}{n:Nat}(u:Up t.place):(relayAll t es n).2.1.led=t.led/\Up (relayAll t es n).2.1.place:=by
 unfold relayAll;cases e:t.relaid (es.map (·.1)) n with
 |none=>exact⟨rfl,l6 _⟩
 |some a=>
  obtain⟨f,order⟩:=a;dsimp only;split
  ·unfold SetTable.relaid SetTable.laid at e
   cases q:SetTable.layClean (SetTable.sizeAbove n-1) (es.map (·.1)) with
   |none=>rw[q]at e;cases e
   |some g=>
    rw[q]at e;cases e;refine⟨rfl,?_⟩;show(List.map _ _).Pairwise _;rw[uz];exact To Th UY
  ·exact⟨rfl,l6 _⟩
def fu(w:Xj):Bool:=w.params.followText "set-order"
def LY(es:Array (Int×Xf))(i:Int):Prop:=∃e∈es.toList,e.2.isInt i=true
structure mB(prog:Xi)(w:Xj)(h:Heap)(a:Xg)(es:Array (Int×Xf))(ep:Nat)(t:SetTable):Prop where
 ob:h.get? a=some { cls:=.type "set",dict:=none,data:=.set es ep t }
 el:ElemsOf (intKind prog w) es.toList
 bd:es.size<scanBound
 ft:t.fits es.size=true
 up:Up t.place
 ld:t.led=true\/fu w=true
section
variable {prog:Xi}{w:Xj}{A:Xl}{E:Xo}{s:Xh}
def C4{h:Heap}{a:Xg}{es e:Array (Int×Xf)}{ep:Nat}{t t':SetTable}(S:mB prog w h a es ep t)(g:ElemsOf (intKind prog w) e.toList)(bd:e.size<scanBound)(f:t'.fits e.size=true)(up:Up t'.place)(ld:t'.led=t.led):mB prog w (h.update a<|Obj.putSet e t') a e (ep+1) t':=
 ⟨Sj (Obj.putSet e t') S.ob rfl,g,bd,f,up,by rw[ld];exact S.ld⟩
def Jp{a:Xg}{es:Array (Int×Xf)}{ep:Nat}{t:SetTable}{x:Xf}{k:Int}{Q:Bool->Xh->Prop}(v:x.isInt k=true)(S:mB prog w s.heap a es ep t)(C:es.size+1<scanBound)
  (q:∀b h' H F t',Heap.SameBut a s.heap h'->mB prog w h' a H F t'->(∀i,LY H i↔LY es i\/i=k)->H.size<=es.size+1->Q b { s with heap:=h' }):wpAny (model prog w) A (setAddHashed a x<|hashInt k) Q E s:=by
 unfold setAddHashed setAddHashedIn;refine Rh<|Qz<|Sn S.ob rfl S.ft ?_;obtain⟨r,rfl⟩:=UZ v;dsimp only;rw[byScan_of (knd:=intKind prog w) rfl S.bd S.el];simp only[↓reduceIte];unfold setAddByScan;refine Qz<|Qz<|RW<|Qz<|wpAny_setScan_of (knd:=intKind prog w) v S.ob rfl S.ft S.el ?_;cases hr:List.findIdx? (λe=>(intKind prog w).is k e.2) es.toList with
 |some j=>
  obtain⟨W,I,_⟩:=SR.mp hr;exact QA<|QA<|q _ s.heap es ep t (Heap.SameBut.refl a s.heap) S (λi=>⟨.inl,λh=>h.elim id λe=>⟨es.toList[j],Ta W,e ▸ I⟩⟩)<|TX _
 |none=>
  have m:=layNew_perm t es (hashInt k)<|.int k r;have G:=layNew_fits t es (hashInt k)<|.int k r;obtain⟨K,B⟩:=KR (es:=es) (h:=hashInt k) (x:=.int k r) S.up;generalize layNew t es (hashInt k) (.int k r)=L at m G K B ⊢;obtain⟨f,y,wd,X⟩:=L;dsimp only at m G K B ⊢;rw[VG]at m;have P:∀(b:Bool){o:Xh}{R:Xp},R () o->wpAny (model prog w) A (match b with|true=>rule "set.scan.the-table-gave-way" |false=>pure ()) R E o:=λb _ _ h=>by
   cases b
   ·exact QA h
   ·exact RW h
  have T:ElemsOf (intKind prog w) f.toList:=(ElemsOf.push (knd:=intKind prog w) (k:=k) (x:=.int k r) S.el v rfl).perm m;have Z:f.size=es.size+1:=by rw[<-QS,m.length_eq,QC,QS];rfl
  have J:∀i,LY f i↔LY es i\/i=k:=λi=>⟨λ⟨e,l,h⟩=>by
   obtain l|l:=Rg.mp (m.mem_iff.mp l)
   ·exact .inl ⟨e,l,h⟩
   ·rw[QK.mp l]at h
    exact .inr<|Value.isInt_inj _ _ _ h v,λh=>h.elim (λ⟨e,l,h⟩=>⟨e,m.mem_iff.mpr<|Ra _ l,h⟩) λe=>⟨_,m.mem_iff.mpr<|QP _<|.head _,e ▸ v⟩⟩
  refine Qz<|P _ ?_;simp only[show hashByValue 8 (Value.int k r)=pure true from rfl,ite_self];refine Qz<|QA ?_;simp only[↓reduceIte];refine Qz (wpAny_storeSet_of S.ob rfl ?_ (Ux<|by lia));have N:=C4 S T (by lia) G B K;have O:=Rb s.heap a<|Obj.putSet f y;split
  ·have g:=relayAll_perm y f (SetTable.grown f.size)
   have p:=relayAll_fits y f<|SetTable.grown f.size;obtain⟨M,D⟩:=Fc (es:=f) (n:=SetTable.grown f.size) B;generalize relayAll y f (SetTable.grown f.size)=L at g p M D ⊢;obtain⟨z,U,Y⟩:=L;dsimp only at g p M D ⊢;have n2:z.size=f.size:=by rw[<-QS,g.length_eq,QS]
   refine Qz (P _<|Qz<|wpAny_storeSet_of N.ob rfl ?_ (Ux<|by lia));exact QA (QA<|q _ _ z _ U (O.trans<|Rb _ a _) (C4 N (T.perm g) (by lia) p D M) (λi=>⟨λ⟨e,l,h⟩=>(J i).mp ⟨e,g.mem_iff.mp l,h⟩,λh=>let ⟨e,l,h⟩:=(J i).mpr h;⟨e,g.mem_iff.mpr l,h⟩⟩)<|by lia)
  ·exact QA (QA<|q _ _ f _ y O N J<|by lia)
end
section
variable {prog:Xi}{w:Xj}{A:Xl}{R:Result->Xh->Prop}{I:Xg}{fp wr:Xm Xg}{G:Array GenState->Array GenState->Prop}{n:Nat}{P:Nat->Xf->Prop}{St:Nat->Xh->Prop}
inductive xg(prog:Xi)(w:Xj)(h:Heap)(S:Xg)(M:Int->Prop)(n:Nat):Prop
 |mk(es:Array (Int×Xf))(ep:Nat)(t:SetTable)(s:mB prog w h S es ep t)(m:∀i,LY es i↔M i)(l:es.size<=n)
def xg.keep{h h':Heap}{S:Xg}{M:Int->Prop}{n:Nat}(x:xg prog w h S M n)(k:∀o,h.get? S=some o->h'.get? S=some o):xg prog w h' S M n:=
 let ⟨e,a,t,s,m,l⟩:=x
 ⟨e,a,t,⟨k _ s.ob,s.el,s.bd,s.ft,s.up,s.ld⟩,m,l⟩
def L7(W:WalksS prog w A.in1 I fp wr G n P St)(S:Xg)(M:S ∉ fp)(key:Nat->Int)(m:∀i v,P i v->v.isInt (key i)=true)
  (f:n+1<scanBound):∀(k i:Nat) (s:Xh),n-i=k->i<=n->St i s->xg prog w s.heap S (λc=>∃j,j<i/\c=key j) i->
   (∀s',Moved (S::wr) G s s'->xg prog w s'.heap S (λc=>∃j,j<n/\c=key j) n->R (.ok<|.ret .none) s')->
   codeAny (model prog w) A (.builtin "set.update.loop" ⟨[.ref S,.ref I],[]⟩) R s:=by
 have B:S ∉ wr:=λh=>M<|W.sub _ h;have a:∀b∈wr,b∈S::wr:=λb f=>Ry _ f;intro k
 induction k with
 |zero=>
  intro i s Q X C K L;obtain rfl:i=n:=by lia
  refine RT SG ?_;rw[RL RN _];show wpAny _ A.in1 (pyNext (.ref I) >>= _) _ _ s;refine Qz<|W.done s _ _ C λs' y=>?_;show wpAny _ A.in1 (ret Value.none) _ _ s';exact QA<|L s' (y.mono a)<|K.keep λo e=>y.heap S o B e
 |succ k Y=>
  intro i s Q X C K L;have l:i<n:=by lia
  refine RT SG ?_;rw[RL RN _];show wpAny _ A.in1 (pyNext (.ref I) >>= _) _ _ s;refine Qz<|W.item i s _ _ l C λv s' Z z y=>?_;have r:=m i v Z;obtain⟨es,ep,t,F,U,l1⟩:=K.keep λo e=>y.heap S o B e;show wpAny _ A.in1 (holding [v] (setAdd S v) >>= _) _ _ s';refine Qz<|Rh ?_;unfold setAdd;refine Rh<|Qz<|(intKind prog w).pyHash (k:=key i) r ?_;refine Jp (s:={ s' with toks:=s'.toks+1 }) r F (by lia) λb g T D O q H N l2=>?_;refine QA ⟨SE RN _,Y (i+1) _ (by lia) l (W.frame _ s' _ _ z (TX _) λb f o e=>?_) ⟨T,D,O,H,λc=>?_,by lia⟩ λE x p=>?_⟩
  ·rw[q.2 b<|by rintro rfl;exact M f]
   exact e
  ·rw[N,U]
   exact⟨λh=>h.elim (λ⟨j,J,e⟩=>⟨j,SO J,e⟩) λe=>⟨i,Tn i,e⟩,λ⟨j,J,e⟩=>(Nat.lt_succ_iff_lt_or_eq.mp J).elim (λh=>.inl ⟨j,h,e⟩) λh=>.inr<|h ▸ e⟩
  ·refine L E (Wl W.gtrans ((y.mono a).then_heap (TX _) λb o f e=>?_) x) p
   rw[q.2 b<|by rintro rfl;exact f Ru];exact e
end
section
variable {prog:Xi}{w:Xj}{A:Xl}{E:Xo}{s:Xh}
def Lw (a:Xf){Q₁:Xo}(h:∀e:Bool,e=true\/fu w=true->Q₁ (.ref s.heap.objs.size) { s with heap:=s.heap.push { cls:=.type "set",dict:=none,data:=.set #[] 0 (.fresh 0 0 e) } }):
  codeAny (model prog w) A (.call (.builtin "set.__new__") ⟨[.type "set",a],[]⟩) (wants Q₁ E) s:=by
 refine Wz ?_;show wpAny _ A.in1 (do checkBuiltinCall "set.__new__" ⟨[.type "set",a],[]⟩;again (.builtin "set.__new__" ⟨[.type "set",a],[]⟩)) _ _ s;refine Qz<|U2 (F.newCall_set_1 a)<|QA ⟨SE WU _,RT PySem.F.entry_set_new ?_⟩;rw[RL WU _];unfold Builtin.«set.__new__» Builtin.Frozenset.newClass;have f:=sub_set_self;obtain⟨i,g,d,j,l⟩:=s;dsimp only
 wp_walk
 refine Sf<|QA ?_;dsimp only;simp only[newObj];refine Qz<|wpAny_alloc<|QA<|QA<|h _ ?_;show(!fu w)=true\/fu w=true;cases fu w
 ·exact .inl rfl
 ·exact .inr rfl
def iB{l:Xg}{items:Array Xf}{key:Nat->Int}{Q:Xo}(hh:A.handled=none)(hl:s.heap.IsList l items)(hv:∀(i:Nat)(v:Xf),items[i]? =some v->v.isInt (key i)=true)
  (H:items.size+1<scanBound)
  (h:∀(g:Heap)(I:Nat),xg prog w g s.heap.objs.size (λc=>∃j,j<items.size/\c=key j) items.size->(∀b o,b<s.heap.objs.size->s.heap.get? b=some o->g.get? b=some o)->Q (.ref s.heap.objs.size) { s with heap:=g,toks:=I }):
  wpAny (model prog w) A (call (.type "set") [.ref l]) Q E s:=by
 obtain⟨c,tl,Z⟩:=Sq.mro;have M:=Sq.made;have Y:=Sq.sub;refine VU<|Wz ?_;show wpAny _ _ (callAny (.type "set") _) _ _ _;refine QA ⟨Code.quiet_builtin _<|by decide+kernel,RT Wm ?_⟩;rw[Around.under_plain (weight_type_call_type "set" [.ref l] []) rfl];have f1:=Sq.notType;have f2:=Sq.canCreate;have f3:=WA<|.ref l
 repeat (any_goals (first|assumption|wp_step))
 refine Te (Lw (.ref l) (E:=E) (Q₁:=λB u=>∃a:Bool,(a=true\/fu w=true)/\B=.ref s.heap.objs.size/\u={ s with heap:=s.heap.push { cls:=.type "set",dict:=none,data:=.set #[] 0 (.fresh 0 0 a) } }) λa q=>⟨a,q,rfl,rfl⟩) λr u hr=>?_;cases r with
 |error e=>exact hr
 |ok fl=>
  cases fl with
  |ret B=>
   obtain⟨a,z,rfl,rfl⟩:=hr;have hS:(s.heap.push { cls:=.type "set",dict:=none,data:=.set #[] 0 (.fresh 0 0 a) }).get? s.heap.objs.size=some { cls:=.type "set",dict:=none,data:=.set #[] 0 (.fresh 0 0 a) }:=QN _ rfl;have hT:Shared.TypeIs { s with heap:=s.heap.push { cls:=.type "set",dict:=none,data:=.set #[] 0 (.fresh 0 0 a) } } (.ref s.heap.objs.size) "set" :=⟨_,hS,rfl⟩;have ac:=Sq.init.lookup;have ab:=Sq.init.bind<|.ref s.heap.objs.size
   repeat (any_goals (first|assumption|wp_step))
   refine Te (codeAny_call_builtin (R:=wants (λr u=>r=.none/\∃g I,u={ s with heap:=g,toks:=I }/\xg prog w g s.heap.objs.size (λc=>∃j,j<items.size/\c=key j) items.size/\(∀b o,b<s.heap.objs.size->s.heap.get? b=some o->g.get? b=some o)) E)
    Sq.init.plain WB (check_set_init_1 hT ?_)) λr2 u m=>?_
   ·obtain⟨⟨U,n,N,f⟩,X,F,W,C⟩:=hl
    simp only at F C;subst F;subst C;have D:(s.heap.push { cls:=.type "set",dict:=none,data:=.set #[] 0 (.fresh 0 0 a) }).get? l=some { cls:=.type "list",dict:=n,data:=.seq items W,slots:=f }:=QE _ X;have k1:=W3;have k2:=V3;have k3:(Value.type "list" == Value.type "dict")=false:=by decide
    have G:(s.heap.push { cls:=.type "set",dict:=none,data:=.set #[] 0 (.fresh 0 0 a) }).IsList l items:=⟨_,D,rfl,W,rfl⟩;unfold Builtin.«set.__init__» noKeywords Builtin.Frozenset.updateFrom;generalize O:pyIter=PI
    wp_walk
    subst O;refine Td G ?_;refine Qz<|W4 ?_;have x:l<s.heap.objs.size:=QY X;have y:l≠(s.heap.push { cls:=.type "set",dict:=none,data:=.set #[] 0 (.fresh 0 0 a) }).objs.size:=by
     rw[Ub];exact QU<|SO x
    have Yq:s.heap.objs.size ∉ [(s.heap.push { cls:=.type "set",dict:=none,data:=.set #[] 0 (.fresh 0 0 a) }).objs.size,l]:=by
     rw[Ub];simp only[mem_cons,not_mem_nil,or_false,not_or];exact⟨QU<|Tn _,UB x⟩
    refine L7 ((Vg (show A.in1.in1.in1.handled=none by simp[hh]) _ l y items).toS) s.heap.objs.size Yq key hv H (items.size-0) 0 _ (by lia) (RF _) ⟨⟨_,QN _ rfl,rfl,rfl⟩,G.push _⟩ ?_ ?_
    ·exact⟨#[],0,_,⟨QE _ hS,(λe T=>nomatch T),by decide,rfl,List.Pairwise.nil,z⟩,λi=>⟨(λ⟨e,T,_⟩=>nomatch T),λ⟨j,hj,_⟩=>absurd hj<|V0 _⟩,QJ _⟩
    ·intro s' J p
     obtain⟨g,g',d',P,L⟩:=s';have eg:g'=s.gens:=J.gens;have ed:d'=s.drawn:=J.drawn;have eo:L=s.os:=J.os;subst eg ed eo;show wpAny _ _ _ _ _ _;refine QA ?_;show wpAny _ _ (ret Value.none) _ _ _;refine QA ⟨rfl,g,P,rfl,p,λb o H e=>?_⟩;have S:b≠(s.heap.push { cls:=.type "set",dict:=none,data:=.set #[] 0 (.fresh 0 0 a) }).objs.size:=by
      rw[Ub];exact QU<|SO H
     exact J.heap b o (by simp only[mem_cons,not_mem_nil,or_false,not_or];exact⟨QU H,S⟩)<|QE _<|QE _ e
   ·cases r2 with
    |error e=>exact m
    |ok K=>
     cases K with
     |ret r=>
      obtain⟨rfl,g,I,rfl,p,Yh⟩:=m
      repeat (any_goals (first|assumption|wp_step))
      exact h _ _ p Yh
     |_=>exact m.elim
  |_=>exact hr.elim
end
def iH:Slot "set_iterator" "__next__" "set_iterator.__next__" :=.of (owner:= "set_iterator") (n:= "__next__") (by rw[UI,TF];kernel_rfl) (by decide+kernel) (by decide+kernel) (by decide+kernel) (by first|exact .inl (by decide+kernel)|exact .inr<|by decide+kernel) (by rw[VE];kernel_rfl)
def zd:entryFor table "set_iterator.__next__" =some Builtin.«set_iterator.__next__» :=entryFor_of_tree (by kernel_rfl)
def Au(a:Xf):argsOk "set_iterator.__next__" ⟨[a],[]⟩:=by
 unfold argsOk;kernel_rfl
def HN:entryFor table "set.__iter__" =some Builtin.«frozenset.__iter__» :=W9 (id':= "frozenset.__iter__") (by kernel_rfl) rfl (by decide+kernel) (by kernel_rfl)
def Jb(f:Xf)(k:Nat)(S:Xf)(n ep:Nat):Obj:={ cls:=.type "set_iterator",data:=.fields #[f,.int k 0,S,.int n 0,.int ep 0] }
inductive qH(w:Xj)(h:Heap)(I S T:Xg)(es:Array (Int×Xf))(ep:Nat)(t:SetTable)(vs:Xm Xf)(k:Nat):Prop
 |plain (nb:fu w=false)(nd:t.plain=true\/es.size<=1)(f:vs=es.toList.map (·.2))(j:Nat)(o:h.get? I=some (Jb (.int j 0) k (.ref S) es.size ep))(l:SetTable.below t.place j=k)
 |text (g:fu w=true)(f:vs=(pickOrder (w.params.setOrder S ep) es).toList.map (·.2))(o:h.get? I=some (Jb (.int 0 0) k (.ref S) es.size ep))
 |drawn (nb:fu w=false) (a:Xm Nat) (m:h.get? T=some (seqObj "tuple" (a.map λi=>rawInt (i:Nat)).toArray 0)) (f:∀k i:Nat,a[k]? =some i->∃e:Int×Xf,es[i]? =some e/\vs[k]? =some e.2) (ol:a.length=es.size) (n:vs.length=a.length) (o:h.get? I=some (Jb (.ref T) k (.ref S) es.size ep))
section
variable {prog:Xi}{w:Xj}{A:Xl}{E:Xo}{s:Xh}{I S T:Xg}{es:Array (Int×Xf)}{ep:Nat}{t:SetTable}{vs:Xm Xf}{k:Nat}
def qH.ob{h:Heap}(x:qH w h I S T es ep t vs k):∃f,h.get? I=some (Jb f k (.ref S) es.size ep):=by
 cases x with
 |plain _ _ _ j o _=>exact⟨_,o⟩
 |text _ _ o=>exact⟨_,o⟩
 |drawn _ _ _ _ _ _ o=>exact⟨_,o⟩
end
section
variable {prog:Xi}{w:Xj}{A:Xl}{E:Xo}{s:Xh}{I S T:Xg}{es:Array (Int×Xf)}{ep:Nat}{t:SetTable}{vs:Xm Xf}{k:Nat}
def CN{h:Heap}{f g:Xf}{k n ep:Nat}{S:Xf}(a:h.get? I=some (Jb f k S n ep)):(h.update I<|Obj.mapFields (·.setIfInBounds 0 g)).get? I=some (Jb g k S n ep):=(Sj _ a<|Vv<|UU rfl _).trans rfl
def Ky{h:Heap}{f:Xf}{k n ep:Nat}{S:Xf}(a:h.get? I=some (Jb f k S n ep)):(h.update I<|Obj.mapFields (·.setIfInBounds 1 (rawInt<|(k:Int)+1))).get? I=some (Jb f (k+1) S n ep):=(Sj _ a<|Vv<|UU rfl _).trans rfl
def HQ{Q:Xk Xf->Xh->Prop}{v:Xf}(G:qH w s.heap I S T es ep t vs k)(g:mB prog w s.heap S es ep t)(K:T≠I)(P:S≠I)(p:vs[k]? =some v)
  (q:∀h',qH w h' I S T es ep t vs (k+1)->Heap.SameBut I s.heap h'->Q (some v) { s with heap:=h' }):wpAny (model prog w) A (pyNext<|.ref I) Q E s:=by
 obtain⟨f,a⟩:=G.ob;unfold pyNext;refine Qz<|TC<|RX (name:=Str.ofString "__next__") ⟨_,a,rfl⟩ iH<|Rj iH ⟨_,a,rfl⟩ zd ?_ (Au _);unfold Builtin.«set_iterator.__next__» slotArgs;refine Qz<|QA<|Qz<|SH a rfl ?_;refine Qz<|VR g.ob rfl g.ft ?_;rw[QG<|by simp];cases G with
 |plain r nd n j o N=>
  rw[a]at o;cases o;subst n;rw[QR]at p;obtain⟨⟨J,x⟩,m,rfl⟩:=Rt.mp p;rw[QW]at m;unfold setNext setsByText;refine Qz<|Qz<|Sn g.ob rfl g.ft<|Qz<|Qz<|Sf<|QA ?_;rw[QG<|by rw[show(model prog w).w.params.followText "set-order" =false from r];decide];refine Sr (λh=>?_) λ_=>?_
  ·have h:(!t.plain&&decide (es.size > 1))=true:=h
   obtain nd|nd:=nd
   ·rw[nd]at h
    cases h
   ·rw[QM<|by lia,Su]at h
    cases h
  refine Qz ?_;show wpAny _ _ (if(!t.led && !es.isEmpty)=true then _ else pure ()) _ _ _;rw[QG<|by rw[g.ld.resolve_right<|by rw[r];decide];exact bF0];have L:((j:Int)).toNat=j:=rfl;rw[L,N];dsimp only;rw[m];have z:k<t.place.size:=by
   have:=(Tz.mp m).1;have:=g.ft;simp only[SetTable.fits,and_eq_true,beq_iff_eq]at this;lia
  have F:t.place[k]? =some t.place[k]:=Rr z;rw[F];refine QA<|QA ?_;show wpAny _ _ (setField (.ref I) 0 (rawInt ((t.place[k]+1:Nat):Int)) >>= λ_=>setField (.ref I) 1 (rawInt<|(k:Int)+1) >>= λ_=>ret x) _ _ s;refine Qz (Sb a rfl (by simp)<|Qz<|Sb (CN a) rfl (by simp)<|QA ⟨x,rfl,QA<|q _ (.plain r nd rfl (t.place[k]+1) (Ky<|CN a)<|yQ g.up F)<|(Rb ..).trans<|Rb ..⟩)
 |text y n o=>
  rw[a]at o;cases o;subst n;rw[QR]at p;obtain⟨⟨J,x⟩,m,rfl⟩:=Rt.mp p;rw[QW]at m;show wpAny _ _ (setNext S (0:Int).toNat (k:Int).toNat (ep:Int).toNat >>= _) _ _ s;unfold setNext setsByText setWalk;refine Qz<|Qz<|Sn g.ob rfl g.ft<|Qz<|Qz<|Sf<|QA ?_;rw[QI<|show(model prog w).w.params.followText "set-order" =true from y,QG<|by simp];refine Qz<|Qz<|Sn g.ob rfl g.ft<|Qz ?_;unfold setsByText;refine Qz<|Sf<|QA ?_;rw[QI<|show(model prog w).w.params.followText "set-order" =true from y];refine Qz<|Sf<|QA<|QA ?_;show wpAny _ _ (match Option.map (λe:Int×Xf=>(e.2,0)) (pickOrder (w.params.setOrder S ep) es)[k]? with|some (x,next)=>_|none=>_) _ _ s;rw[m];show wpAny _ _ (setField (.ref I) 0 (rawInt ((0:Nat):Int)) >>= λ_=>setField (.ref I) 1 (rawInt<|(k:Int)+1) >>= λ_=>ret x) _ _ s;refine Qz (Sb a rfl (by simp)<|Qz<|Sb (CN a) rfl (by simp)<|QA ⟨x,rfl,QA<|q _ (.text y rfl<|Ky<|CN a)<|(Rb ..).trans<|Rb ..⟩)
 |drawn r l C n O H o=>
  rw[a]at o;cases o;have z:k<l.length:=H ▸ (gI0.mp p).1;have B:l[k]? =some l[k]:=QB z;obtain⟨⟨J,x⟩,m,D⟩:=n k _ B;rw[p]at D;cases D;show wpAny _ _ (seqItems? (.ref T) >>= _) _ _ s;refine Qz<|Ur C rfl ?_;have M:(l.map λi=>rawInt (i:Nat)).toArray[((k:Int)).toNat]? =some (.int (l[k]:Nat) 0):=by
   rw[U6,QR,show((k:Int)).toNat=k from rfl,B];rfl
  show wpAny _ _ (match (l.map λi=>rawInt (i:Nat)).toArray[((k:Int)).toNat]? with|some (.int place _)=>_|some _=>_|none=>_) _ _ s;rw[M];show wpAny _ _ (setNextDrawn S (l[k]:Int).toNat (ep:Int).toNat >>= _) _ _ s;unfold setNextDrawn;refine Qz<|Qz<|Sn g.ob rfl g.ft ?_;dsimp only;rw[QG<|by simp];show wpAny _ _ (match es[((l[k]:Nat):Int).toNat]? with|some (_,x)=>_|_=>_) _ _ s;rw[show((l[k]:Nat):Int).toNat=l[k] from rfl,m];refine QA ?_;refine Qz (Sb a rfl (by simp)<|QA ⟨_,rfl,QA<|q _ (.drawn r l (by rw[(Rb ..).2 T K];exact C) n O H<|Ky a)<|Rb ..⟩)
end
section
variable {prog:Xi}{w:Xj}{A:Xl}{E:Xo}{s:Xh}{I S T:Xg}{es:Array (Int×Xf)}{ep:Nat}{t:SetTable}{vs:Xm Xf}{k:Nat}
def xF {Q:Fin->Xh->Prop}(f:A.handled=none) (q:∀h' e,(∀b o,s.heap.get? b=some o->h'.get? b=some o)->Shared.TypeIs { s with heap:=h' } e "StopIteration" ->E e { s with heap:=h' }):wpAny (model prog w) A (newExc (.type "StopIteration") [] >>= λe=>raiseNew e) Q E s:=by
 refine Qz ?_;simp only[newExc,newTuple];refine Qz (RM ?_ (by size_fits));refine Qz (m:=firstArgMember _ _) (U2 (a:=Value.none) (by first|rfl| (simp only[firstArgMember];rfl))<|RM ?_ (by size_fits));simp only[raiseNew];refine Qz<|wpAny_handled ?_;rw[f];refine Qz<|QA<|wpAny_throw<|q _ (.ref _) (λb o e=>QE _<|QE _ e) ⟨_,QN _ rfl,rfl⟩
theorem tS{α:Type}:∀{l:Xm α}{i:Nat}(h:i<l.length),(l[i]::l.eraseIdx i).Perm l
 |a::l,0,h=>.refl _
 |a::l,i+1,h=>(List.Perm.swap ..).trans<|(tS (l:=l)<|WH h).cons a
theorem rR{α:Type}(next:Nat->Nat):∀(f k:Nat) (left:Xm α) (out:Array α),left.length=f->(pickOrder.go next f k left out).toList.Perm (out.toList++left)
 |0,k,left,out,h=>by
  rw[Rc h,Rm];exact .refl _
 |f+1,k,left,out,h=>by
  unfold pickOrder.go;have a:next k%left.length<left.length:=Nat.mod_lt _ (by lia);rw[QB a];refine(rR next f _ _ _ (by rw[V8 a];lia)).trans ?_;rw[VG,QL];refine List.Perm.append_left _ ?_;exact(tS a)
def uT{α:Type}{next:Nat->Nat}{xs:Array α}:(pickOrder next xs).toList.Perm xs.toList:=by
 have:=rR next xs.size 0 xs.toList #[] rfl;exact this
def qH.len{h:Heap}(x:qH w h I S T es ep t vs k):vs.length=es.size:=by
 cases x with
 |plain _ _ a j o _=>rw[a,QF,QS]
 |text _ a o=>rw[a,QF,uT.length_eq,QS]
 |drawn _ _ _ _ f e o=>exact e.trans f
def HZ{Q:Xk Xf->Xh->Prop}(D:A.handled=none)(n:qH w s.heap I S T es ep t vs es.size)(g:mB prog w s.heap S es ep t)
  (q:∀h',Heap.ExtBut I s.heap h'->Q none { s with heap:=h' }):wpAny (model prog w) A (pyNext<|.ref I) Q E s:=by
 obtain⟨f,a⟩:=n.ob;have G:=n.len;unfold pyNext;refine Qz<|TC<|RX (name:=Str.ofString "__next__") ⟨_,a,rfl⟩ iH<|Rj iH ⟨_,a,rfl⟩ zd ?_ (Au _);unfold Builtin.«set_iterator.__next__» slotArgs;refine Qz<|QA<|Qz<|SH a rfl ?_;refine Qz<|VR g.ob rfl g.ft ?_;rw[QG<|by simp];have l:∀{v:Heap}{K:Fin->Xh->Prop},Heap.ExtBut I s.heap v->wpAny (model prog w) A.in1 (newExc (.type "StopIteration") [] >>= λe=>raiseNew e) K (λe z=>wpAny (model prog w) A (isInstance e (.type "StopIteration") >>= λb=>if b=true then pure none else throw e) Q E z) { s with heap:=v }:=λx=>xF D λh' e B ty=>
  Qz (Ti (T:= "StopIteration") (b:=true) ty W8<|QA<|q _ λb o m F=>B b o<|x b o m F)
 have H:es[es.size]? =none:=Vd<|QJ _;cases n with
 |plain m nd y j o L=>
  rw[a]at o;cases o;unfold setNext setsByText;refine Qz<|Qz<|Sn g.ob rfl g.ft<|Qz<|Qz<|Sf<|QA ?_;rw[QG<|by rw[show(model prog w).w.params.followText "set-order" =false from m];decide];refine Sr (λh=>?_) λ_=>?_
  ·have h:(!t.plain&&decide (es.size > 1))=true:=h
   obtain nd|nd:=nd
   ·rw[nd]at h
    cases h
   ·rw[QM<|by lia,Su]at h
    cases h
  refine Qz ?_;show wpAny _ _ (if(!t.led && !es.isEmpty)=true then _ else pure ()) _ _ _;rw[QG<|by rw[g.ld.resolve_right<|by rw[m];decide];exact bF0,show((j:Int)).toNat=j from rfl,L];dsimp only;rw[H];refine QA<|QA ?_;show wpAny _ _ (setField (.ref I) 2 .none >>= λ_=>newExc (.type "StopIteration") [] >>= λe=>raiseNew e) _ _ s;exact Qz (Sb a rfl (by simp)<|l (Rb ..).extBut)
 |text r y o=>
  rw[a]at o;cases o;show wpAny _ _ (setNext S (0:Int).toNat (es.size:Int).toNat (ep:Int).toNat >>= _) _ _ s;unfold setNext setsByText setWalk;refine Qz<|Qz<|Sn g.ob rfl g.ft<|Qz<|Qz<|Sf<|QA ?_;rw[QI<|show(model prog w).w.params.followText "set-order" =true from r,QG<|by simp];refine Qz<|Qz<|Sn g.ob rfl g.ft<|Qz ?_;unfold setsByText;refine Qz<|Sf<|QA ?_;rw[QI<|show(model prog w).w.params.followText "set-order" =true from r];refine Qz<|Sf<|QA<|QA ?_;show wpAny _ _ (match Option.map (λe:Int×Xf=>(e.2,0)) (pickOrder (w.params.setOrder S ep) es)[es.size]? with|some (x,next)=>_|none=>_) _ _ s;rw[Vd<|by rw[<-QS,uT.length_eq,QS];exact QJ _];show wpAny _ _ (setField (.ref I) 2 .none >>= λ_=>newExc (.type "StopIteration") [] >>= λe=>raiseNew e) _ _ s;exact Qz (Sb a rfl (by simp)<|l (Rb ..).extBut)
 |drawn m p C y M G o=>
  rw[a]at o;cases o;show wpAny _ _ (seqItems? (.ref T) >>= _) _ _ s;refine Qz<|Ur C rfl ?_;have J:(p.map λi=>rawInt (i:Nat)).toArray[((es.size:Int)).toNat]? =none:=by
   rw[U6,QR,show((es.size:Int)).toNat=es.size from rfl,Tp<|by lia];rfl
  show wpAny _ _ (match (p.map λi=>rawInt (i:Nat)).toArray[((es.size:Int)).toNat]? with|some (.int place _)=>_|some _=>_|none=>_) _ _ s;rw[J];show wpAny _ _ (setField (.ref I) 0 (rawInt 0) >>= λ_=>setField (.ref I) 2 .none >>= λ_=>newExc (.type "StopIteration") [] >>= λe=>raiseNew e) _ _ s;exact Qz (Sb a rfl (by simp)<|Qz<|Sb (CN a) rfl (by simp)<|l ((Rb ..).trans<|Rb ..).extBut)
end
def I0:Slot "set_iterator" "__iter__" "set_iterator.__iter__" :=.of (owner:= "set_iterator") (n:= "__iter__") (by rw[UI,TF];kernel_rfl) (by decide+kernel) (by decide+kernel) (by decide+kernel) (by first|exact .inl (by decide+kernel)|exact .inr<|by decide+kernel) (by rw[VE];kernel_rfl)
def N8:entryFor table "set_iterator.__iter__" =some Builtin.«dict_keyiterator.__iter__» :=W9 (id':= "dict_keyiterator.__iter__") (by kernel_rfl) rfl (by decide+kernel) (by kernel_rfl)
def MT(a:Xf):argsOk "set_iterator.__iter__" ⟨[a],[]⟩:=by
 unfold argsOk;kernel_rfl
section
variable {prog:Xi}{w:Xj}{A:Xl}{E:Xo}{s:Xh}{I S T:Xg}{es:Array (Int×Xf)}{ep:Nat}{t:SetTable}{vs:Xm Xf}{k:Nat}
def mB.keep{h h':Heap}(x:mB prog w h S es ep t)(k:∀o,h.get? S=some o->h'.get? S=some o):mB prog w h' S es ep t:=⟨k _ x.ob,x.el,x.bd,x.ft,x.up,x.ld⟩
def qH.keep{h h':Heap}(x:qH w h I S T es ep t vs k)(e:∀o,h.get? I=some o->h'.get? I=some o)(g:∀o,h.get? T=some o->h'.get? T=some o):qH w h' I S T es ep t vs k:=by
 cases x with
 |plain f nd a j o m=>exact .plain f nd a j (e _ o) m
 |text i a o=>exact .text i a<|e _ o
 |drawn f l n a q p o=>exact .drawn f l (g _ n) a q p<|e _ o
def walks(D:A.handled=none)(B:T≠I)(n:S≠I):WalksS prog w A I [I,S,T] [I] (λa b=>b=a) vs.length (λk v=>vs[k]? =some v) (λk s=>qH w s.heap I S T es ep t vs k/\mB prog w s.heap S es ep t) where
 sub:=λb h=>by
  rw[QK.mp h];exact .head _
 grefl:=λ_=>rfl
 gtrans:=λ_ _ _ C y=>y.trans C
 frame:=λi s l G g _ j=>⟨g.1.keep (j _<|.head _)<|j _<|.tail _<|.tail _<|.head _,g.2.keep<|j _<|.tail _<|.head _⟩
 item:=λi s Q E p g q=>HQ g.1 g.2 B n (QB p) λl F r=>q _ _ (QB p) ⟨F,g.2.keep λo e=>by rw[r.2 S n];exact e⟩ ⟨λb o h e=>by rw[show l.get? b=_ from r.2 b λz=>h<|z ▸ .head _];exact e,rfl,rfl,rfl,QJ _⟩
 done:=λs Q E g q=>HZ D (by have:=g.1;rwa [g.1.len]at this) g.2 λl x=>q _ ⟨λb o h e=>x b o (λz=>h<|z ▸ .head _) e,rfl,rfl,rfl,QJ _⟩
 self:=λi s Q E g q=>by
  obtain⟨f,m⟩:=g.1.ob;refine Uu ⟨_,m,rfl⟩ I0<|Rj I0 ⟨_,m,rfl⟩ N8 ?_ (MT _);exact QA ⟨_,rfl,"set_iterator",_,⟨_,m,rfl⟩,iH.lookup,q⟩
theorem Al{α:Type}{Q:Xm α->Xh->Prop}:∀(n:Nat) (xs:Xm α) (s:Xh),xs.length=n->(∀ys d,ys.Perm xs->Q ys { s with drawn:=d })->wpAny (model prog w) A (drawOrder n xs) Q E s
 |0,xs,s,h,q=>by
  rw[Rc h]at q ⊢;exact QA<|q [] s.drawn<|.refl _
 |n+1,[],s,h,q=>by cases h
 |n+1,a::r,s,h,q=>by
  unfold drawOrder;refine Qz ?_;intro Γ p g;refine⟨by rw[h];lia,?_⟩;have e:(model prog w).w.draws .order (s.drawn.get .order)%(a::r).length<(a::r).length:=Nat.mod_lt _ (by rw[h];lia);generalize (model prog w).w.draws .order (s.drawn.get .order)%(a::r).length=i at e;show wpAny (model prog w) A _ Q E { s with drawn:=s.drawn.bump .order };rw[QB e];exact Qz (Al n _ _ (by rw[V8 e,h];rfl) λys d f=>QA<|q _ d<|(f.cons _).trans<|tS e)
def GG{Q:Xo}(a:mB prog w s.heap S es ep t)(q:∀(I T:Xg)(h':Heap)(d:Drawn)(vs:Xm Xf),qH w h' I S T es ep t vs 0->vs.Perm (es.toList.map (·.2))->(∀b o,s.heap.get? b=some o->h'.get? b=some o)->s.heap.objs.size<=I->T≠I->T=S\/s.heap.objs.size<=T->Q (.ref I) { s with heap:=h',drawn:=d }):wpAny (model prog w) A (pyIter<|.ref S) Q E s:=by
 have n:s.TypeIs (.ref S) "set" :=⟨_,a.ob,rfl⟩;refine Uu n WV<|Rj WV n HN ?_ (PySem.F.args_set_iter_1 _);unfold Builtin.«frozenset.__iter__» Builtin.Frozenset.slot0 slotArgs Builtin.Frozenset.addrOf Builtin.Frozenset.sizeOf setDrawn setsByText;refine Qz<|Qz<|QA<|QA<|Qz<|Qz<|VR a.ob rfl a.ft<|QA ?_;refine Qz<|Qz<|Sn a.ob rfl a.ft<|Qz<|Qz<|Sf<|QA<|QA ?_;refine Sr (λh=>?_) λh=>?_
 ·have h:(!fu w&&(!t.plain&&decide (es.size > 1)))=true:=h
  have v:fu w=false:=by
   cases g:fu w with
   |false=>rfl
   |true=>rw[g]at h;cases h
  have D:=Ux a.bd;refine Qz (Al es.size (List.range es.size) s Sy λl d j=>Qz<|VI ?_ (by rw[QF,j.length_eq,Sy];exact D));have r:=a.keep (h':=s.heap.push { cls:=.type "tuple",data:=.seq (l.map λi=>rawInt (i:Nat)).toArray }) λo e=>QE _ e;refine Qz<|wpAny_setEpoch_of r.ob rfl r.ft<|Qz<|RM<|QA ⟨_,rfl,"set_iterator",_,⟨_,QN _ rfl,rfl⟩,iH.lookup,?_⟩;have x:∀i∈l,i<es.size:=λi B=>Sk.mp<|j.mem_iff.mp B;refine q _ s.heap.objs.size _ d (l.map λi=>(es[i]?.getD (0,.none)).2) (.drawn v l ?_ (λk i m=>?_) (j.length_eq.trans Sy) (QF _) (QN _ rfl)) ?_ (λb o e=>QE _<|QE _ e) ?_ ?_ (.inr<|QJ _)
  ·exact QE _<|QN _ rfl
  ·have f:=x i (QH m)
   refine⟨es[i],Rr f,?_⟩;rw[QR,m,Xb,Rr f];rfl
  ·refine(j.map _).trans (.of_eq ?_)
   refine UN λi=>?_;have C:es.toList[i]? =es[i]? :=by rw[QW]
   rw[QR,QR,C];by_cases f:i<es.size
   ·rw[List.getElem?_range f,Xb,Rr f]
    rfl
   ·rw[Tp<|by rw[Sy];lia,Vd<|by lia]
    rfl
  ·rw[Ub]
   exact TX _
  ·rw[Ub]
   exact QU<|Tn _
 ·have h:¬(!fu w&&(!t.plain&&decide (es.size > 1)))=true:=h
  refine Qz<|QA<|Qz<|wpAny_setEpoch_of a.ob rfl a.ft<|Qz<|RM<|QA ⟨_,rfl,"set_iterator",_,⟨_,QN _ rfl,rfl⟩,iH.lookup,?_⟩;have p:S≠s.heap.objs.size:=QU<|QY a.ob;cases g:fu w with
  |true=>exact q _ S _ s.drawn _ (.text g rfl<|QN _ rfl) (uT.map _) (λb o e=>QE _ e) (QJ _) p<|.inl rfl
  |false=>
   rw[g]at h;refine q _ S _ s.drawn _ (.plain g ?_ rfl 0 (QN _ rfl) (yX a.up)) (.refl _) (λb o e=>QE _ e) (QJ _) p<|.inl rfl;cases y:t.plain with
   |true=>exact .inl rfl
   |false=>
    rw[y]at h;refine .inr<|not_lt.mp λz=>h ?_;rw[dT0 z];rfl
end
section
variable {prog:Xi}{w:Xj}{A:Xl}{E:Xo}{s:Xh}{I S T:Xg}{es:Array (Int×Xf)}{ep:Nat}{t:SetTable}{vs:Xm Xf}{k:Nat}
def DU {Q:Bool->Xh->Prop}(f:s.TypeIs (.ref S) "set") (h:Q false s):wpAny (model prog w) A (Builtin.List.listLengthHint<|.ref S) Q E s:=by
 unfold Builtin.List.listLengthHint;refine Qz<|SY f PySem.F.slot_set_len.lookup ?_;generalize e:("set.__len__" :String)=g
 wp_delta
 rw[show splitId g=some ("set","__len__") from by subst e;decide+kernel];subst e;refine Qz (Ti (T:= "set") (b:=true) f (by rw[VE];kernel_rfl) ?_);refine Sr (λa=>absurd a<|by decide) (λ_=>Sr (λ_=>Qz<|Uq f<|QA h) λa=>absurd (by decide+kernel) a)
def Eg{vs:Xm Xf}{a:Array Xf}(h:ItemsOf (λk v=>vs[k]? =some v) a vs.length):a.toList=vs:=by
 refine UN λi=>?_;have f:a.toList[i]? =a[i]? :=by rw[QW]
 rw[f];by_cases e:i<a.size
 ·rw[Rr e,h.2 i _<|Rr e]
 ·rw[Vd<|by lia,Tp<|by rw[<-h.1];lia]
def vU{Q:Xm Xf->Xh->Prop}(hh:A.handled=none)(hS:mB prog w s.heap S es ep t)(q:∀h' d f (vs:Xm Xf),vs.Perm (es.toList.map (·.2))->(∀b o,s.heap.get? b=some o->h'.get? b=some o)->Q vs { s with heap:=h',drawn:=d,toks:=f }):wpAny (model prog w) A (collect<|.ref S) Q E s:=by
 unfold collect;refine Qz<|W4<|RT entry_proto_collect' ?_;rw[RL PySem.F.plain_proto_collect _];refine Qz<|RM ?_;refine QA ⟨SE Wu _,RT entry_list_iadd' ?_⟩;rw[RL Wu _];have P:(s.heap.push { cls:=.type "list",data:=.seq ([]:Xm Xf).toArray }).get? s.heap.objs.size=some { cls:=.type "list",data:=.seq #[] }:=QN _ rfl;have D:=hS.keep (h':=s.heap.push { cls:=.type "list",data:=.seq ([]:Xm Xf).toArray }) λo e=>QE _ e;have x:∀b o,s.heap.get? b=some o->(s.heap.push { cls:=.type "list",data:=.seq ([]:Xm Xf).toArray }).get? b=some o:=λb o e=>QE _ e;have p:s.heap.objs.size<(s.heap.push { cls:=.type "list",data:=.seq ([]:Xm Xf).toArray }).objs.size:=QY P;have j:S≠s.heap.objs.size:=QU<|QY hS.ob;show wpAny _ A.in1 (Builtin.List.listExtendWith (.ref s.heap.objs.size) (.ref S)<|.ref s.heap.objs.size) _ _ { s with heap:=s.heap.push { cls:=.type "list",data:=.seq ([]:Xm Xf).toArray } };generalize s.heap.push { cls:=.type "list",data:=.seq ([]:Xm Xf).toArray }=h1 at P D x p;unfold Builtin.List.listExtendWith;refine Qz<|Uq (T:= "set") ⟨_,D.ob,rfl⟩ ?_;have e1:Builtin.List.listSameRef (.ref s.heap.objs.size) (.ref S)=false:=by simp[Builtin.List.listSameRef,j.symm]
 simp only[e1,show(Value.type "set" == Value.type "list")=false from by decide,show(Value.type "set" == Value.type "tuple")=false from by decide,Bool.or_false,Xd,if_false];refine Qz<|GG (s:={ s with heap:=h1 }) D λI T K d vs it pm M G nT hT=>?_;have U:∀b o,s.heap.get? b=some o->K.get? b=some o:=λb o e=>M b o<|x b o e;have v:=M _ _ P;have W:=D.keep<|M S;have G:h1.objs.size<=I:=G;have Z:S≠I:=QU<|Rp (QY D.ob) G;have H:s.heap.objs.size≠I:=QU<|Rp p G;have y:s.heap.objs.size≠T:=hT.elim (λe=>e ▸ j.symm) λe=>QU<|Rp p e;have hf:s.heap.objs.size ∉ [I,S,T]:=λm=>by
  obtain e|m:=Rf.mp m
  ·exact H e
  obtain e|m:=Rf.mp m
  ·exact j e.symm
  ·exact y<|QK.mp m
 have vl:vs.length<=sizeLine:=by rw[it.len];exact Ux W.bd
 refine Qz<|Rh<|DU ⟨_,W.ob,rfl⟩ ?_;have key:∀(i:Heap) (c:Nat),(∀b o,b≠s.heap.objs.size->K.get? b=some o->i.get? b=some o)->i.get? s.heap.objs.size=some { cls:=.type "list",data:=.seq #[] c }->
   codeAny (model prog w) A (.builtin "list.extend.loop" ⟨[.ref s.heap.objs.size,.ref I,.ref s.heap.objs.size],[]⟩) (λr J=>∃h' f h,r=.ok (.ret<|.ref s.heap.objs.size)/\J={ s with heap:=h',drawn:=d,toks:=f }/\(∀b o,s.heap.get? b=some o->h'.get? b=some o)/\h'.get? s.heap.objs.size=some { cls:=.type "list",dict:=none,data:=.seq vs.toArray h,slots:= #[] }) { s with heap:=i,drawn:=d }:=λi c l n=>by
  refine codeAny_extend_loopS (walks (es:=es) (ep:=ep) (t:=t) (vs:=vs) hh nT Z) vl _ hf _ vs.length 0 _ #[] c rfl (RF _) ⟨it.keep (λo=>l I o H.symm) λo=>l T o y.symm,W.keep λo=>l S o j⟩ n (ItemsOf.nil _) λJ XC h L ab C=>?_;obtain⟨g,g',d',X,O⟩:=J;have eg:g'=s.gens:=L.gens;have ed:d'=d:=L.drawn;have eo:O=s.os:=L.os;subst eg ed eo;refine⟨g,X,h,rfl,rfl,λb o e=>L.heap b o (λm=>?_)<|l b o (QU<|QY e)<|U b o e,?_⟩
  ·obtain z|m:=Rf.mp m
   ·exact QU (QY e) z
   ·exact absurd (Rp (QY<|x b o e) G) (by rw[QK.mp m];exact Uy _)
  ·rw[show vs.toArray=XC from by rw[<-Eg C]]
   exact ab
 have last:∀(i:Heap) (c:Nat),(∀b o,b≠s.heap.objs.size->K.get? b=some o->i.get? b=some o)->i.get? s.heap.objs.size=some { cls:=.type "list",data:=.seq #[] c }->∀{R:Result->Xh->Prop},(∀h' f h,(∀b o,s.heap.get? b=some o->h'.get? b=some o)->h'.get? s.heap.objs.size=some { cls:=.type "list",dict:=none,data:=.seq vs.toArray h,slots:= #[] }->R (.ok<|.ret<|.ref s.heap.objs.size) { s with heap:=h',drawn:=d,toks:=f })->codeAny (model prog w) A (.builtin "list.extend.loop" ⟨[.ref s.heap.objs.size,.ref I,.ref s.heap.objs.size],[]⟩) R { s with heap:=i,drawn:=d }:=λi c k1 k2 R r=>Te (key i c k1 k2) λa J ⟨h',f,h,e1,e2,e3,e4⟩=>by
  subst e1 e2;exact r h' f h e3 e4
 have B:∀h' f h,(∀b o,s.heap.get? b=some o->h'.get? b=some o)->h'.get? s.heap.objs.size=some { cls:=.type "list",dict:=none,data:=.seq vs.toArray h,slots:= #[] }->wpAny (model prog w) A (load s.heap.objs.size >>= λo=>match o.data with|.seq xs _=>pure xs.toList|_=>unsupported "internal:collect") Q E { s with heap:=h',drawn:=d,toks:=f }:=λh' f h N hd=>Qz<|wpAny_load hd<|QA<|q h' d f vs pm N;refine Sr (λ_=>?_) λ_=>QA ⟨SE Wf _,last K _ (λb o _ e=>e) v B⟩;refine Qz<|RW ?_;refine Qz ?_;refine Qz<|WC v rfl ?_;have n:=Sj (Obj.mapSeq (·.push Value.none)) v rfl;refine WC (hz:=by seq_fits) n rfl ?_;have Y:=Sj (Obj.mapSeq (·.pop)) n rfl;refine QA ⟨SE Wf _,last _ _ (λb o hb e=>?_) Y B⟩;exact(Uo _ _<|Tf hb).trans ((Uo _ _<|Tf hb).trans e)
end
open TS
section
variable {prog:Xi}{w:Xj}{A:Xl}{E:Xo}{s:Xh}
def AU {a:Xg}{vs:Xm Xf}{n:Nat}{P:Fin->Xh->Prop}(m:s.heap.get? a=some (seqObj "list" vs.toArray n)) (H:∀v∈vs,∃i t,v=.int i t) (o:vs.length<=sizeLine)
  (fin:∀ys:Xm Xf,ys.Perm vs->ys.Pairwise (λa b=>numOf a<=numOf b)->P (.done<|.ret .none) { s with heap:=sortedHeap s.heap a vs ys.toArray }):wpAny (model prog w) A (Builtin.«list.sort» ⟨[.ref a],[]⟩) P E s:=by
 have R:a<s.heap.objs.size:=QY m;obtain⟨q,j⟩:∃q,(s.heap.update a<|Obj.mapSeq λ_=>(#[]:Array Xf)).get? a=some (seqObj "list" #[] q):=⟨_,VX m λ_=> #[]⟩;have S:(s.heap.update a<|Obj.mapSeq λ_=>(#[]:Array Xf)).objs.size=s.heap.objs.size:=size_update _ _ _;have h:(((s.heap.update a<|Obj.mapSeq λ_=> #[]).push<|seqObj "tuple" vs.toArray 0).push<|seqObj "list" #[] 0).get? a=some (seqObj "list" #[] q):=by
  rw[TH _ _ _<|by rw[WS,S];exact QU<|SO R,TH _ _ _<|by rw[S];exact QU R];exact j
 have sz:vs.toArray.size=vs.length:=Rl;rw[list_sort_plain];refine Qz<|listItems_at m rfl ?_;refine Qz (T6 m rfl ?_ (by rw[sz];exact o) (RF _));refine Qz<|Wb j rfl ?_;refine Qz<|VI ?_ o;refine Qz<|VT ?_ (RF _);refine Rh ?_;show wpAny (model prog w) A _ P E { s with heap:=((s.heap.update a<|Obj.mapSeq λ_=> #[]).push<|seqObj "tuple" vs.toArray 0).push (seqObj "list" #[] 0) };dsimp only;have r:(vs.toArray.zip vs.toArray).toList=vs.zip vs:=by rw[toList_zip]
 have ends:∀(f:SortSt),failedOf f=none->dD TS.intKind (arrOf f).toList->cQ TS.intKind (arrOf f).toList (vs.zip vs)->
   wpAny (model prog w) A (do
    let touched:=(<-seqEpoch a) != q
    Builtin.List.listUpdate (.ref a) λ_=>(arrOf f).map (·.2)
    if let some e:=failedOf f then rule "list.sort.comparison-raised";throw e
    if touched then rule "list.sort.modified";raiseError "ValueError" "list modified during sort"
    ret .none) P E { s with heap:=((s.heap.update a<|Obj.mapSeq λ_=> #[]).push<|seqObj "tuple" vs.toArray 0).push (seqObj "list" #[] 0) }:=λf W X L=>by
  have z:=L.perm.map λp:Keyed=>p.2;rw[List.map_snd_zip<|QJ _]at z;have I:(arrOf f).map (·.2)=((arrOf f).toList.map (·.2)).toArray:=by
   apply Array.toList_inj.mp;rw[Array.toList_map]
  refine Qz<|Wb h rfl ?_;rw[I];refine Qz (T6 h rfl ?_ (RF _) (by rw[Rl,z.length_eq];first|exact o|exact Nat.le_succ_of_le o));rw[W];simp only[bne_self_eq_false,false_eq_true,if_false];refine QA<|fin _ z ?_;rw[Vf];have N:∀p∈(arrOf f).toList,TS.key TS.intKind p=numOf p.2:=λp F=>by
   obtain⟨q1,Z⟩:=mem_zip_self<|L.mem.mp F;obtain⟨i,t,e⟩:=H _ Z;unfold TS.key;rw[<-q1,e];rfl
  refine UO (λ{x y} Y I G=>?_) X;have l:TS.intKind.blt (TS.key TS.intKind y) (TS.key TS.intKind x)=false:=G;rw[N x Y,N y I]at l;have l:decide (numOf y.2<numOf x.2)=false:=l;have:=of_decide_eq_false l;lia
 by_cases g:vs.toArray.size<2
 ·rw[QI g]
  refine Qz<|QA ?_;rw[QI g,StateT.run_pure];refine Qz<|QA ?_;refine ends _ rfl ?_ ?_
  ·show dD _ (vs.toArray.zip vs.toArray).toList
   rw[r];exact rL (by rw[WT,min_self,<-sz];exact g)
  ·show cQ _ (vs.toArray.zip vs.toArray).toList _
   rw[r];exact cQ.refl _
 ·rw[QG g]
  have B:rP vs.toArray=pure oneType':=by
   obtain⟨M,O,rest,e⟩:=D8 (vs:=vs) (by rw[<-sz];exact g);have:=intsAre_map vs H;rw[e]at this ⊢;exact keyKind_ints this
  refine Qz<|U2 B ?_;rw[QG g];refine Qz (RQ (jV (κ:=TS.intKind) vI (zt:=SortSt.mk' oneType' (vs.toArray.zip vs.toArray) #[] 7 none)
   (Q:=λ_ f=>failedOf f=none/\dD TS.intKind (arrOf f).toList/\cQ TS.intKind (arrOf f).toList (vs.zip vs)) rfl rfl rfl (λp F=>?_) λf D J K=>⟨D,J,by rw[<-r];exact K⟩) ?_ λ_ _ e=>e)
  ·have C:p∈vs.zip vs:=by rw[<-r];exact F
   obtain⟨T,t',U⟩:=H _ (mem_zip_self C).2;exact⟨T,by rw[U];rfl⟩
  ·rintro⟨⟨⟩,f⟩ s2 ⟨rfl,D,J,K⟩
   exact ends f D J K
end
end SW
namespace L2
def yZ(P:Xi)(w:Xj)(a:Xg)(ns:Xm Int):HO:=.ext λh=>SW.xg P w h a (λi=>i∈ns) ns.length
section
variable {X:Cx}
def iB(S:X.calm=true):eK X (.type "set") (λxs H Q=>∃(p:Xg) (ns:Xm Int),xs=[.ref p]/\cN X.K H p (ns.map V.int)/\ns.length<1000/\∀q,H q=none->Q (.ref q) (upd H q<|yZ X.prog X.w q ns)):=by
 intro U s σ H xs Z Q I r h;obtain⟨p,ns,rfl,G,Y,q⟩:=h;obtain⟨u,rfl,M⟩:=vals1 r;cases M;obtain⟨z,y,L,_⟩:=I.list G;have A:=y.length;rw[QF]at A;have f:z.toArray.size=ns.length:=by rw[Rl,A]
 refine SW.iB (key:=λi=>ns.getD i 0) (I.ok.hd S) L.isList (λi v e=>?_) (by rw[f];unfold scanBound;lia) λg F R D=>?_
 ·have n:z[i]? =some v:=by simpa using e
  have C:i<ns.length:=by
   have:=(gI0.mp n).1;lia
  obtain⟨u,P,t,rfl⟩:=y.get (show(ns.map V.int)[i]? =some (V.int ns[i]) by simp[C]);rw[P]at n;cases n;have J:ns.getD i 0=ns[i]:=by simp[List.getD,C]
  rw[J];simp[Value.isInt]
 ·have N:H s.heap.objs.size=none:=I.hok.fresh (QJ _)
  obtain⟨B,O,t,x,m,l⟩:=R;rw[f]at l;have E:∀i,SW.LY B i↔i∈ns:=λi=>by
   rw[m i,f];refine⟨λ⟨j,a,e⟩=>?_,λh=>?_⟩
   ·rw[e,show ns.getD j 0=ns[j] by simp[List.getD,a]]
    exact Ta a
   ·obtain⟨j,a,e⟩:=VB h
    exact⟨j,a,by simp[List.getD,a,e]⟩
  refine⟨.ref s.heap.objs.size,_,I.laid (t':=F) (o:=yZ X.prog X.w s.heap.objs.size ns) (λb o e=>D b o (QY e) e) (QJ _) ⟨⟨B,O,t,x,E,l⟩,⟨_,x.ob⟩,λW T p k=>p.keep k⟩,rfl,q _ N⟩
inductive Ml(P:Xi)(w:Xj)(xs:Xm V)(H:Hp)(Q:VK):Prop
 |mk(p:Xg)(ns:Xm Int)(e:xs=[.ref p])(h:H p=some (yZ P w p ns))(q:∀(l:Xg)(ms:Xm Int),H l=none->ms.Pairwise (· <=·)->(∀i,i∈ms↔i∈ns)->ms.length<=ns.length->Q (.ref l) (upd H l (.lst (ms.map V.int))))
def iK(R:X.calm=true):eK X (.builtin "sorted") (λxs H Q=>Ml X.prog X.w xs H Q):=by
 intro M s σ H xs W Q I r h;obtain⟨p,S,rfl,O,q⟩:=h;obtain⟨u,rfl,P⟩:=vals1 r;cases P;obtain⟨⟨L,U,t,C,m,l⟩,_,_⟩:=I.hok p _ O;refine WI kind_sorted plain_sorted entry_sorted (args_sorted1 _) ?_;unfold Builtin.«sorted»;refine Qz (m:=checkCount "sorted" 1 1 _)<|QA ?_;refine Qz<|SW.vU (I.ok.hd R) C λn d B x y G=>?_;have D:∀v∈x,∃e∈L.toList,e.2=v/\∃i t,v=.int i t:=λv f=>by
  obtain⟨e,a,rfl⟩:=Rk.mp<|y.mem_iff.mp f;obtain⟨⟨k,A,_⟩,_⟩:=C.el e a;obtain⟨t,N⟩:=UZ A;exact⟨e,a,rfl,k,t,N⟩
 have T:x.length=L.size:=by rw[y.length_eq,QF,QS]
 have Y:=Ux C.bd;have E:(n.push<|seqObj "list" x.toArray 0).get? n.objs.size=some (seqObj "list" x.toArray 0):=QN _ rfl;refine Qz (VT ?_ (by lia));refine Qz (Rh<|Rj slot_list_sort ⟨_,E,rfl⟩ entry_list_sort (SW.AU E (λv f=>let ⟨_,_,_,h⟩:=D v f;h) (by lia) λj g F=>?_)<|args_list_sort _);obtain⟨e,a⟩:=sortedHeap_at (out:=j.toArray) E;have K:Inv X M σ H { s with heap:=n,drawn:=d,toks:=B }:=I.call (g':=s.gens) (t':=B) (d':=d) (ch:=[]) (Un.kept G) (I.hok.kept G) I.bare λb z=>nomatch z;refine⟨_,rfl,QA ⟨_,rfl,.ref n.objs.size,_,K.laid (t':=B) (o:=.lst<|(j.map numOf).map V.int) (λb u J=>?_) (QJ _) ⟨by rw[QF,QF,g.length_eq];lia,j,e,mD (intsAre_map j λv f=>let ⟨_,_,_,h⟩:=D v<|g.mem_iff.mp f;h),a⟩,rfl,q _ (j.map numOf) (K.hok.fresh<|QJ _) (Vf.mpr F) (λi=>?_)<|by rw[QF,g.length_eq];lia⟩⟩
 ·have lt:=QY J
  exact(sortedHeap_old (QU lt)<|by rw[WS];exact SO lt).trans ((TH _ _ _<|QU lt).trans J)
 ·rw[<-m i]
  refine⟨λh=>?_,λ⟨e,a,A⟩=>?_⟩
  ·obtain⟨v,f,rfl⟩:=Rk.mp h
   obtain⟨e,a,rfl,i,t,q⟩:=D v<|g.mem_iff.mp f;exact⟨e,a,by rw[q];simp[Value.isInt,numOf]⟩
  ·obtain⟨t,q⟩:=UZ A
   exact Rk.mpr ⟨e.2,g.mem_iff.mpr<|y.mem_iff.mpr<|UQ a,by rw[q];rfl⟩
end
end L2
namespace J
def iB{X:Cx}(a:X.calm=true):JF X (.type "set") (λxs H Q=>∃(p:Xg) (ns:Xm Int),xs=[.ref p]/\cN X.K H p (ns.map V.int)/\ns.length<1000/\∀q,H q=none->Q (.ref q) (upd H q<|yZ X.prog X.w q ns)):=⟨L2.iB a⟩
def iK{X:Cx}(a:X.calm=true):JF X (.builtin "sorted") (λxs H Q=>Ml X.prog X.w xs H Q):=⟨L2.iK a⟩
end J
namespace L2
def y4{X:Cx}:eK X (.type "dict") (λxs H Q=>∃(a:Xg) (Xu:Xm (Key×V)),xs=[.ref a]/\Rd H a (.dK Xu)/\∀p,H p=none->Q (.ref p) (upd H p<|.dK Xu)):=by
 intro l s σ H xs j Q I r h;obtain⟨a,Xu,rfl,e,q⟩:=h;obtain⟨u,rfl,g⟩:=vals1 r;cases g;exact EZ I e λp i n f=>⟨.ref p,_,f,rfl,q p n⟩
end L2
def J.E5{X:Cx}:J.JF X (.type "dict") (λxs H Q=>∃(a:PySem.Addr) (Xu:Xm (Key×V)),xs=[.ref a]/\Rd H a (.dK Xu)/\∀p,H p=none->Q (.ref p) (upd H p<|.dK Xu)):=⟨y4⟩
namespace L2
def nx{H H1:Hp}{p:Xg}{o:HO}(n:H p=none)(e:upd H p o=H1):cH H H1/\H1 p=some o:=e ▸ ⟨cH.upd n,cE⟩
def Hd:0<=sizeLine:=by decide
def L1:1<=sizeLine:=by decide
def sZ:2<=sizeLine:=by decide
def uA:3<=sizeLine:=by decide
def MM:4<=sizeLine:=by decide
def kI {K:Frag}{T n:String}(e:T∈tys:=by decide) (a:n∈["int","bool","str","list","tuple"]:=by decide):kitOne K (.type T) (.type n)=some (DC T n):=fM e a
def iP{c A B:Prop} [Decidable c] (h:A)(a:c:=by decide+kernel):if c then A else B:=fH a h
def iN{c A B:Prop} [Decidable c] (h:B)(a:¬c:=by decide+kernel):if c then A else B:=gP a h
end L2
end
open L2
namespace K43
variable {P:Xi}{w:Xj}{K:Frag}{mg:Xr}{base:Heap}{kw C:Xg}{f:Xg}{fd:FuncData}
def kept:Xm Xn:=["person","talk","saw","knew","heard","told","not","nobody","never","by","from","to"]
def vY:V->Bool
 |.int i=>decide (0<=i)&&decide (i<=10^Int.toNat 18)
 |_=>false
def jE:V->Bool
 |.str w=> !decide (w.cps.toList<("a" :Xn).cps.toList) && !decide (("z" :Xn).cps.toList<w.cps.toList)
 |_=>false
def dZ(z:Xn):Bool:=decide (1<=(z.length:Int))&&(decide ((z.length:Int)<=12)&&(((signs z).map jE).all id && !IL (.str z) (kept.map V.str)))
def zH:V->Bool
 |.str z=>dZ z
 |_=>false
def zu(K:Frag):Sp:=λa H Q _=>∃x T,a=[x]/\gQ K H x (.type T)/\T∈tys/\Q (.bl<|T == "int") H
def mY(K:Frag):Sp:=λa H Q _=>∃x T,a=[x]/\gQ K H x (.type T)/\T∈tys/\Q (.bl<|vY x) H
def qw(K:Frag):Sp:=λe H Q _=>∃x T,e=[x]/\gQ K H x (.type T)/\T∈tys/\(∀z,x=.str z->z.length<=sizeLine)/\∀a,cH H a->Q (.bl<|zH x) a
def iJ(a b:Xn):(a++b).cps.toList=a.cps.toList++b.cps.toList:=by
 show(a.cps++b.cps).toList=_;grind
def vd(a b:Xn):(a++b).length=a.length+b.length:=Array.size_append
def lY(a:Xn):a.cps.toList.length=a.length:=QS
def Gx{a b:Xn}(h:a.cps.toList=b.cps.toList):a=b:=by
 obtain⟨x⟩:=a;obtain⟨y⟩:=b;have:x=y:=Array.ext' h;rw[this]
def KW{k:Nat}(a:k<=z.length):(mN z none<|some (k:Int)).cps.toList=z.cps.toList.take k:=by
 show((z.cps.toList.drop<|HT.iq z.length 0 none).take<|HT.iq z.length z.length (some (k:Int))-HT.iq z.length 0 none)=_;rw[HT.jK,HT.lT,Uc,WN,UC a]
def Li{k:Nat}(a:k<=z.length):(mN z (some (k:Int)) none).cps.toList=z.cps.toList.drop k:=by
 show((z.cps.toList.drop<|HT.iq z.length 0<|some (k:Int)).take<|HT.iq z.length z.length none-HT.iq z.length 0 (some (k:Int)))=_;rw[HT.jK,HT.lT,UC a];refine R7 ?_;rw[So,lY];lia
def sj(us:Xm Xn)(lo a:Xk Int):d6 (us.map V.str) lo a=(((us.drop<|HT.iq us.length 0 lo).take<|HT.iq us.length us.length a-HT.iq us.length 0 lo)).map V.str:=by
 unfold d6;rw[QF,List.map_take,List.map_drop]
def dv(h:Int):Prop:=0<=h/\h<=10^Int.toNat 18
def iu(k:dv h):vY (.int h)=true:=by
 show(decide (0<=h)&&decide (h<=10^Int.toNat 18))=true;rw[dT0 k.1,dT0 k.2];rfl
def EO(h:dZ z=true):z.length<=12:=by
 unfold dZ at h;grind
def Ba(h:dZ z=true):z.length<=sizeLine:=by
 have a:=EO h;have:sizeLine=16777216:=Q0;lia
def mM{z:Xn}(h:dZ z=true):∀y,V.str z=V.str y->y.length<=sizeLine:=λy e=>by
 cases e;exact Ba h
structure fU(ps:Xm Xn):Prop where
 lo:1<=ps.length
 hi:ps.length<=24
 nd:ps.Nodup
 nm:∀z∈ps,dZ z=true
inductive dQ  (ps:Xm Xn)(H:Hp)(v:V):Prop
 |mk(a:Xg)(z:Xn)(h:Int)(ta:Xg)(ws:Xm Xn)(h0:v=.ref a)(i:H a=some (.tup [.str z,.int h,.ref ta]))(f:z∈ps)(m:dv h)(g:H ta=some (.tup (ws.map V.str)))(l:1<=ws.length)(e:ws.length<=6)(j:∀x∈ws,dZ x=true)
inductive eW  (ps:Xm Xn)(H:Hp)(v:V):Prop
 |mk (a:Xg) (h:Int) (p q w:Xn) (h0:v=.ref a) (i:H a=some (.tup [.int h,.str p,.str q,.str w])) (f:dv h) (l:p∈ps) (g:q∈ps) (j:p≠q) (e:(w= "both" \/w= "one"))
inductive jo  (ps:Xm Xn)(H:Hp)(v:V):Prop
 |mk (a:Xg) (h0:v=.ref a) (e:((∃(p:Xn) (h:Int),H a=some (.tup [.str "knew",.str p,.int h])/\p∈ps/\dv h)\/    (∃(p:Xn) (b:V),H a=some (.tup [.str "unheard",.str p,b])/\p∈ps/\(b=.non\/∃h:Int,b=.int h/\dv h))\/    (∃(p:Xn) (h k:Int),H a=some (.tup [.str "silent",.str p,.int h,.int k])/\p∈ps/\dv h/\dv k/\h<=k)\/    (∃p q:Xn,H a=some (.tup [.str "barred",.str p,.str q])/\p∈ps/\q∈ps/\p≠q)))
def Tk(H H':Hp):Prop:=∀b a,H b=some (.tup a)->H' b=some (.tup a)
def Tk.of(s:cH H H'):Tk H H':=λb _ e=>s b _ e
def Tk.trans(a:Tk H H1)(b:Tk H1 H2):Tk H H2:=λc f e=>b c f<|a c f e
def Tk.upd(h:H l=some (.lst xs)):Tk H (upd H l<|.lst ys):=λb a e=>by
 rw[cG<|pG e h<|by intro z;cases z];exact e
def dQ.mono(s:Tk H H')(h:dQ ps H v):dQ ps H' v:=by
 obtain⟨a,z,h,n,g,e,j,p,l,o,m,f,i⟩:=h;exact⟨a,z,h,n,g,e,s _ _ j,p,l,s _ _ o,m,f,i⟩
def eW.mono(s:Tk H H')(h:eW ps H v):eW ps H' v:=by
 obtain⟨a,h,p,q,w,e,j,l,f,i,g,m⟩:=h;exact⟨a,h,p,q,w,e,s _ _ j,l,f,i,g,m⟩
def jo.mono(s:Tk H H')(h:jo ps H v):jo ps H' v:=by
 obtain⟨a,e,h⟩:=h;refine⟨a,e,?_⟩;obtain ⟨p,h,f,r⟩|⟨p,b,f,r⟩|⟨p,h,k,f,r⟩|⟨p,q,f,r⟩:=h
 ·exact .inl ⟨p,h,s _ _ f,r⟩
 ·exact .inr<|.inl ⟨p,b,s _ _ f,r⟩
 ·exact .inr<|.inr<|.inl ⟨p,h,k,s _ _ f,r⟩
 ·exact .inr<|.inr<|.inr ⟨p,q,s _ _ f,r⟩
def DI{ps:Xm Xn}(h:z∈ps):IL (.str z) (ps.map V.str)=true:=by
 show(ps.map V.str).any (λy=>vP y<|.str z)=true;rw[any_map,UX];exact⟨z,h,by exact RS z⟩
def AS(ps:Xm Xn):(ps.map V.str).all dO=true:=by
 rw[all_map,Se];intro z _;rfl
def all_true{f:α->Bool}{xs:Xm α}(h:∀x∈xs,f x=true):(xs.map f).all id=true:=by grind
def lh{xs:Xm V}(h:xs.length=n)(hm:(n:Int)≠m):¬decide (V.int (xs.length:Nat)=V.int m)=true:=by grind
def tK{xs:Xm V}(h:xs.length=n)(hm:(n:Int)=m):decide (V.int (xs.length:Nat)=V.int m)=true:=by grind
inductive BK  (vs:Xm V)(H:Hp)(Q:VK):Prop
 |mk(p:Xg)(xs:Xm V)(m:Int)(h0:vs=[.ref p,.int m])(a:H p=some (.lst xs))(e:(xs.length:Int)<=m)(f:Q (.bl true) H)
def iw  :Sp:=λa H Q _=>BK  a H Q
inductive CK  (vs:Xm V)(H:Hp)(Q:VK):Prop
 |mk(p:Xg)(xs:Xm V)(m:Int)(h0:vs=[.ref p,.int m])(a:H p=some (.tup xs))(e:(xs.length:Int)=m)(f:Q (.bl true) H)
def oM  :Sp:=λa H Q _=>CK  a H Q
inductive Bd  (vs:Xm V)(H:Hp)(Q:VK):Prop
 |mk(p:Xg)(ps:Xm Xn)(z:Xn)(h0:vs=[.ref p,.str z])(f:H p=some (.lst (ps.map V.str)))(a:fU ps)(g:z∈ps)(e:∀H',cH H H'->Q (.bl true) H')
def jB  :Sp:=λa H Q _=>Bd  a H Q
inductive BI  (vs:Xm V)(H:Hp)(Q:VK):Prop
 |mk(p:Xg)(ps:Xm Xn)(y z:Xn)(h0:vs=[.ref p,.str y,.str z])(g:H p=some (.lst (ps.map V.str)))(e:fU ps)(i:y∈ps)(f:z∈ps)(h:y≠z)(a:∀H',cH H H'->Q (.bl true) H')
def pI  :Sp:=λa H Q _=>BI  a H Q
inductive Gn  (vs:Xm V)(H:Hp)(Q:VK):Prop
 |mk(t:Xg)(ws:Xm Xn)(h0:vs=[.ref t])(f:H t=some (.tup (ws.map V.str)))(a:1<=ws.length)(h:ws.length<=6)(e:(∀x∈ws,dZ x=true))(g:∀H',cH H H'->Q (.bl true) H')
def DS  :Sp:=λa H Q _=>Gn  a H Q
inductive E3  (vs:Xm V)(H:Hp)(Q:VK):Prop
 |mk(p:Xg)(ps:Xm Xn)(v:V)(h0:vs=[.ref p,v])(f:H p=some (.lst (ps.map V.str)))(a:fU ps)(g:dQ ps H v)(e:∀H',cH H H'->Q (.bl true) H')
def zG  :Sp:=λa H Q _=>E3  a H Q
inductive Kx  (vs:Xm V)(H:Hp)(Q:VK):Prop
 |mk (w:Xn) (h0:vs=[.str w]) (a:(w= "both" \/w= "one")) (e:∀H',cH H H'->Q (.bl true) H')
def D4  :Sp:=λa H Q _=>Kx  a H Q
inductive GC  (vs:Xm V)(H:Hp)(Q:VK):Prop
 |mk(p:Xg)(ps:Xm Xn)(v:V)(h0:vs=[.ref p,v])(f:H p=some (.lst (ps.map V.str)))(a:fU ps)(g:eW ps H v)(e:∀H',cH H H'->Q (.bl true) H')
def CJ  :Sp:=λa H Q _=>GC  a H Q
inductive F5  (vs:Xm V)(H:Hp)(Q:VK):Prop
 |mk(h k:Int)(h0:vs=[.int h,.int k])(f:dv h)(a:dv k)(g:h<=k)(e:Q (.bl true) H)
def CH  :Sp:=λa H Q _=>F5  a H Q
inductive D7  (vs:Xm V)(H:Hp)(Q:VK):Prop
 |mk (p:Xg) (ps:Xm Xn) (a y:Xn) (b:V) (h0:vs=[.ref p,.str a,.str y,b]) (g:H p=some (.lst (ps.map V.str))) (e:fU ps) (j:y∈ps) (f:((a= "barred" /\∃z,b=.str z/\z∈ps/\y≠z)\/(a= "unheard" /\(b=.non\/∃h:Int,b=.int h/\dv h))\/(a= "knew" /\∃h:Int,b=.int h/\dv h))) (i:∀H',cH H H'->Q (.bl true) H')
def AJ  :Sp:=λa H Q _=>D7  a H Q
inductive BD  (vs:Xm V)(H:Hp)(Q:VK):Prop
 |mk(p:Xg)(ps:Xm Xn)(v:V)(h0:vs=[.ref p,v])(f:H p=some (.lst (ps.map V.str)))(a:fU ps)(g:jo ps H v)(e:∀H',cH H H'->Q (.bl true) H')
def xn  :Sp:=λa H Q _=>BD  a H Q
inductive yx  (vs:Xm V)(H:Hp)(Q:VK):Prop
 |mk(p:Xg)(ps:Xm Xn)(h0:vs=[.ref p])(e:H p=some (.lst (ps.map V.str)))(a:fU ps)(f:∀H',cH H H'->Q (.bl true) H')
def sR  :Sp:=λa H Q _=>yx  a H Q
inductive FD  (M:Xm Xn->Hp->V->Prop)(n:Nat)(vs:Xm V)(H:Hp)(Q:VK):Prop
 |mk(p q:Xg)(ps:Xm Xn)(xs:Xm V)(h0:vs=[.ref p,.ref q])(g:H p=some (.lst (ps.map V.str)))(e:fU ps)(i:H q=some (.lst xs))(f:xs.length<=n)(h:(∀v∈xs,M ps H v))(a:∀H',cH H H'->Q (.bl true) H')
def mz  (M:Xm Xn->Hp->V->Prop)(n:Nat):Sp:=λa H Q _=>FD M n a H Q
def oz(p s t y:Xg):Xm (Xn×V):=gB "kept_sayings" (.ref y) (gB "kept_talks" (.ref t) (gB "kept_sights" (.ref s) (gB "kept_persons" (.ref p) [])))
def Mm(p s t y:Xg):(oz p s t y).lookup ("kept_persons" :Xn)=some (.ref p):=by
 unfold oz;rw[cR,QG<|by decide+kernel,cR,QG<|by decide+kernel,cR,QG<|by decide+kernel,cR,QI rfl]
def MX(p s t y:Xg):(oz p s t y).lookup ("kept_sights" :Xn)=some (.ref s):=by
 unfold oz;rw[cR,QG<|by decide+kernel,cR,QG<|by decide+kernel,cR,QI rfl]
def IX(p s t y:Xg):(oz p s t y).lookup ("kept_talks" :Xn)=some (.ref t):=by
 unfold oz;rw[cR,QG<|by decide+kernel,cR,QI rfl]
def MH(p s t y:Xg):(oz p s t y).lookup ("kept_sayings" :Xn)=some (.ref y):=by
 unfold oz;rw[cR,QI rfl]
def fZ (p s t y:Xg){m:Xn}(a:¬m= "kept_sayings") (e:¬m= "kept_talks") (g:¬m= "kept_sights") (f:¬m= "kept_persons"):(oz p s t y).lookup m=none:=by
 unfold oz;rw[cR,QG a,cR,QG e,cR,QG g,cR,QG f];rfl
structure Parts(H:Hp)(ps:Xm Xn)(ss ts ys:Xm V):Prop where
 ok:fU ps
 sl:ss.length<=24
 sg:∀v∈ss,dQ ps H v
 tl:ts.length<=120
 tg:∀v∈ts,eW ps H v
 yl:ys.length<=60
 yg:∀v∈ys,jo ps H v
def Parts.mono(s:Tk H H')(g:Parts H ps ss ts ys):Parts H' ps ss ts ys:=
 ⟨g.ok,g.sl,λv h=>(g.sg v h).mono s,g.tl,λv h=>(g.tg v h).mono s,g.yl,λv h=>(g.yg v h).mono s⟩
structure Bk(C:Xg)(H:Hp)(x p s t y:Xg)(ps:Xm Xn)(ss ts ys:Xm V):Prop where
 ob:∃dx,H x=some (.ins C dx (oz p s t y))
 hp:H p=some (.lst (ps.map V.str))
 hs:H s=some (.lst ss)
 ht:H t=some (.lst ts)
 hy:H y=some (.lst ys)
def Bk.mono(m:cH H H')(b:Bk C H x p s t y ps ss ts ys):Bk C H' x p s t y ps ss ts ys:=by
 obtain⟨⟨h,e⟩,g,a,i,f⟩:=b;exact⟨⟨h,m _ _ e⟩,m _ _ g,m _ _ a,m _ _ i,m _ _ f⟩
inductive GR  (C:Xg)(vs:Xm V)(H:Hp)(Q:VK):Prop
 |mk(x h p a b c:Xg)(ps:Xm Xn)(ss e ys:Xm V)(h0:vs=[.ref x,.ref p,.ref a,.ref b,.ref c])(l:H x=some (.ins C h []))(i:H p=some (.lst (ps.map V.str)))(q:H a=some (.lst ss))(j:H b=some (.lst e))(n:H c=some (.lst ys))(r:Parts H ps ss e ys)(m:∀(g s' t' f:Xg)(H':Hp),H g=none->H s'=none->H t'=none->H f=none->Bk C H' x g s' t' f ps ss e ys->(∀d o,H d=some o->d≠x->H' d=some o)->Q .non H')
def CT  (C:Xg):Sp:=λa H Q _=>GR C a H Q
structure Txt(K:Frag)(mg:Xr)(kw C:Xg):Prop where
 b_isinstance:mg "isinstance" =none
 b_int:mg "int" =none
 b_bool:mg "bool" =none
 b_str:mg "str" =none
 b_len:mg "len" =none
 b_all:mg "all" =none
 b_range:mg "range" =none
 b_list:mg "list" =none
 b_tuple:mg "tuple" =none
 b_set:mg "set" =none
 b_zip:mg "zip" =none
 b_enumerate:mg "enumerate" =none
 b_min:mg "min" =none
 b_max:mg "max" =none
 b_any:mg "any" =none
 b_sorted:mg "sorted" =none
 b_dict:mg "dict" =none
 b_sum:mg "sum" =none
 b_reversed:mg "reversed" =none
 kwm:mg "KEPT_WORDS" =some (.ref kw)
 kwt:∃(o:Obj) (Xw:Array Xf) (n:Nat),K.lookup kw=some o/\o.cls=.type "tuple" /\o.data=.seq Xw n/\Xw.size<=sizeLine/\Vals (kept.map V.str) Xw.toList
 g_MOST_PERSONS:∃u,mg "MOST_PERSONS" =some u/\RelV (.int 24) u
 g_MOST_SIGHTS:∃u,mg "MOST_SIGHTS" =some u/\RelV (.int 24) u
 g_MOST_TALKS:∃u,mg "MOST_TALKS" =some u/\RelV (.int 120) u
 g_MOST_SAYINGS:∃u,mg "MOST_SAYINGS" =some u/\RelV (.int 60) u
 g_MOST_WORDS:∃u,mg "MOST_WORDS" =some u/\RelV (.int 6) u
 cl:Ac K C
 nP:ik K C "kept_persons"
 nS:ik K C "kept_sights"
 nT:ik K C "kept_talks"
 nY:ik K C "kept_sayings"
def Qr:cK ["thing"] ["thing"] (cI iX):={}
def DE (F:qS K "is_whole" "is_whole" iX f fd) (T:Txt K mg kw C):fq P w K mg base oF 1 f fd ["thing"] (zu K):=by
 refine F.ok Qr (λi H Q E h=>?_) λj A outer s H i Q E hr h=>?_
 ·obtain⟨x,t,rfl,_⟩:=h
  rfl
 ·obtain⟨x,t,rfl,ty,a,k⟩:=h
  refine⟨_,lN (pW (tH (iE lJ rfl T.b_isinstance df<|fL (pv 0)<|fL (oT (v:=.ty "int") rfl T.b_int DF rfl) kW)
   (ue<|Lu<|iE lJ rfl T.b_isinstance df<|fL (pv 0)<|fL (oT (v:=.ty "bool") rfl T.b_bool Gq rfl) kW))),?_⟩
  refine⟨_,rfl,_,_,_,_,rfl,ty,fM a<|by decide,_,rfl,dF (λg=>?_) λg=>?_⟩
  ·refine⟨_,rfl,_,_,_,_,rfl,ty,fM a<|by decide,_,rfl,?_⟩
   have e:(!DC t "bool")=(t == "int"):=by
    simp only[tys,mem_cons,not_mem_nil,or_false]at a;rcases a with rfl|rfl|rfl|rfl|rfl|rfl|rfl<;>first|rfl| (exfalso;revert g;decide)
   rw[e];exact k
  ·have e:(t == "int")=false:=by
    simp only[tys,mem_cons,not_mem_nil,or_false]at a;rcases a with rfl|rfl|rfl|rfl|rfl|rfl|rfl<;>first|rfl| (exfalso;revert g;decide)
   rw[<-e];exact k
def Qo:cK ["thing"] ["thing"] (cI mC):={}
def FO {f n:Xg}{fd g:FuncData}(F:qS K "is_hour" "is_hour" mC f fd) (j:Df K mg "is_whole" iX ["thing"] n g) (T:Txt K mg kw C):fq P w K mg base oF 2 f fd ["thing"] (mY K):=by
 have q:fq P w K mg base oF 1 n g ["thing"] (zu K):=DE j.fn T;refine F.ok Qo (λp H Q E h=>?_) λr A outer s H p Q E hr h=>?_
 ·obtain⟨x,t,rfl,_⟩:=h
  rfl
 ·obtain⟨x,t,rfl,ty,o,k⟩:=h
  refine⟨_,lN (pW (tH (zF q hr rfl j.nm j.fn.kp j.bi .nil Aa<|fL (pv 0) kW)
   (ue<|jT vp vp nO (pv 0)<|Ij nH nO nO))),?_⟩
  refine⟨_,rfl,x,t,rfl,ty,o,_,rfl,?_⟩;refine dF (λm=>?_) λm=>?_
  ·have e:t= "int" :=eq_of_beq m
   subst e;obtain⟨i,rfl⟩:=ty_int ty
   ·refine⟨_,rfl,_,_,rfl,rfl,_,rfl,?_⟩
    refine dF (λl=>?_) λl=>?_
    ·refine⟨_,_,rfl,rfl,⟨by decide,by decide,by decide⟩,_,_,rfl,rfl,?_⟩
     have a:vY (.int i)=decide (i<=10^Int.toNat 18):=by
      show(decide (0<=i)&&decide (i<=10^Int.toNat 18))=_;rw[l,R6]
     rw[a]at k;exact k
    ·have a:vY (.int i)=false:=by
      show(decide (0<=i)&&decide (i<=10^Int.toNat 18))=_;rw[RA.mpr l,SK]
     rw[a]at k;exact k
  ·have a:vY x=false:=by
    cases x with
    |int i=>exact absurd (Vq.mpr<|BW ty) m
    |_=>rfl
   rw[a]at k;exact k
def Qe:cK ["thing"] ["thing"] (cI kj):={}
def GF (F:qS K "is_name" "is_name" kj f fd) (T:Txt K mg kw C):fq P w K mg base oF 1 f fd ["thing"] (qw K):=by
 refine F.ok Qe (λq H Q E h=>?_) λJ A outer s H q Q E hr h=>?_
 ·obtain⟨x,t,rfl,_⟩:=h
  rfl
 ·obtain⟨x,t,rfl,ty,n,B,k⟩:=h
  refine⟨_,vA (Jj (PW.pt (IY (xN<|yI<|iE lJ rfl T.b_isinstance df<|fL (pv 0)<|fL (oT (v:=.ty "str") rfl T.b_str yc rfl) kW)
    (DO<|xN<|jW vp vp nO (iE gx rfl T.b_len di<|fL (pv 0) kW) nO))) (lN<|pW IV) zw)
   (lN (pW (tH (iE (sN rfl) rfl T.b_all mw (fL (Dh (sc:=cI kj) (N:=["thing"]) (is:=[]) (ns:=[]) rfl (Lv<|pv 0)
     {} (λ_ _ _ _ _=>jT sV sV yf (pv 0) yf)) kW))
    (ue<|Ao gr (pv 0) (oZ (v:=.ref kw) rfl T.kwm rfl)<|by with_unfolding_all rfl)))),?_⟩
  refine⟨_,rfl,_,_,_,_,rfl,ty,fM n<|by decide,_,rfl,?_⟩;by_cases m:t= "str"
  ·subst m
   obtain⟨z,rfl⟩:=ty_str ty
   ·have g:=B z rfl
    refine dH ?_;refine⟨_,rfl,z,rfl,g,_,_,rfl,rfl,_,rfl,?_⟩;by_cases j:1<=(z.length:Int)
    ·rw[dT0 j]
     refine fO ⟨_,_,rfl,rfl,_,rfl,?_⟩;by_cases i:(z.length:Int)<=12
     ·rw[dT0 i]
      refine dH ?_;refine⟨_,rfl,z,rfl,LP (λv=>.bl<|jE v) g (λv M L G I l=>?_) λD p=>?_⟩
      ·obtain⟨c,_,rfl⟩:=Rk.mp G
       refine⟨_,rfl,_,_,rfl,rfl,_,rfl,dF (λh=>⟨_,_,rfl,rfl,?_⟩) λh=>?_⟩
       ·have e:jE (.str ⟨#[c]⟩)= !decide (("z" :Xn).cps.toList<(⟨#[c]⟩:Xn).cps.toList):=by
         show(!decide ((⟨#[c]⟩:Xn).cps.toList<("a" :Xn).cps.toList)&&_)=_;rw[h,R6]
        rw[e]at l;exact l
       ·have e:jE (.str ⟨#[c]⟩)=false:=by
         show(!decide ((⟨#[c]⟩:Xn).cps.toList<("a" :Xn).cps.toList)&&_)=_;rw[RA.mpr h,SK]
        rw[e]at l;exact l
      ·refine⟨D,(signs z).map jE,rfl,cN.of<|cE.trans<|by rw[Tc];rfl,_,rfl,?_⟩
       have e:dZ z=(((signs z).map jE).all id && !IL (.str z) (kept.map V.str)):=by
        unfold dZ;rw[dT0 j,dT0 i,R6,R6]
       have r:=k _<|cH.upd (o:=.lst<|((signs z).map λv=>V.bl<|jE v)) p;have a:Q (.bl<|dZ z) _:=r;rw[e]at a;refine dF (λh=>?_) λh=>?_
       ·rw[h,R6]at a
        refine⟨_,rfl,kw,_,rfl,.inr<|.inr T.kwt,rfl,?_,a⟩
        decide+kernel
       ·rw[RA.mpr h,SK]at a
        exact a
     ·rw[QM i]
      refine fO ?_;have e:dZ z=false:=by
       unfold dZ;rw[QM i,SK,Su]
      have a:Q (.bl<|dZ z) H:=k H<|cH.refl H;rw[e]at a;exact a
    ·rw[QM j]
     refine dH ⟨_,rfl,fO ?_⟩;have e:dZ z=false:=by
      unfold dZ;rw[QM j,SK]
     have a:Q (.bl<|dZ z) H:=k H<|cH.refl H;rw[e]at a;exact a
  ·have e:DC t "str" =false:=by
    unfold DC;rw[R3.mpr m,Bool.false_or];exact Su _
   rw[e];refine fO<|fO ?_;have y:zH x=false:=by
    cases x with
    |str z=>exact absurd (Cd ty) m
    |_=>rfl
   have a:=k H<|cH.refl H;rw[y]at a;exact a
def rG(h0:0<=i)(e:i<xs.length):∃v,qQ xs i=some v/\v∈xs:=by
 have a:i.toNat<xs.length:=by lia
 refine⟨xs[i.toNat],?_,Ta a⟩;have:=dq (xs:=xs) (j:=i.toNat) (v:=xs[i.toNat]) (by simp[a]);grind
def nF:cK ["thing","most"] ["thing","most"] (cI gd):={}
def xH (D:Df K mg "is_list_up_to" gd ["thing","most"] f fd) (T:Txt K mg kw C):Gd P w K mg base 1 "is_list_up_to" iw:=by
 refine aG D nF λX H n Q E a h=>?_;obtain⟨p,j,m,rfl,e,l,k⟩:=h;obtain⟨g,i,_⟩:=a.fg [0,1];refine⟨_,ag<|aw<|aV (aJ (a.b T.b_isinstance) bZ df<|aB (aa g)<|J.ty (a.b T.b_list) eF)<|a8<|ba bG (aJ (a.b T.b_len) aY di<|aj<|aa g) (aa i)<|cM _,_,rfl,_,_,_,_,rfl,.lst e,kI,_,rfl,iP ?_⟩;refine⟨_,rfl,p,j,rfl,.inl<|cN.of e,_,rfl,_,_,rfl,rfl,?_⟩;grind
def pM:cK ["thing","length"] ["thing","length"] (cI ip):={}
def Bl (D:Df K mg "is_tuple_of" ip ["thing","length"] f fd) (T:Txt K mg kw C):Gd P w K mg base 1 "is_tuple_of" oM:=by
 refine aG D pM λX H n Q E a h=>?_;obtain⟨p,j,m,rfl,e,l,k⟩:=h;obtain⟨g,i,_⟩:=a.fg [0,1];refine⟨_,ag<|aw<|aV (aJ (a.b T.b_isinstance) bZ df<|aB (aa g)<|J.ty (a.b T.b_tuple) p8)<|a8<|ba aO (aJ (a.b T.b_len) aY di<|aj<|aa g) (aa i)<|cM _,_,rfl,_,_,_,_,rfl,.tup e,kI,_,rfl,iP ?_⟩;refine⟨_,rfl,p,j,rfl,.inr<|fh.of e,_,rfl,rfl,?_⟩;grind
def u6:cK ["persons","thing"] ["persons","thing"] (cI jJ):={}
def BM {fd:FuncData}(D:Df K mg "is_person" jJ ["persons","thing"] f fd) (a:Gd P w K mg base 1 "is_name" (qw K)):Gd P w K mg base 2 "is_person" jB:=by
 refine aG D u6 λX H r Q E e h=>?_;obtain⟨p,n,z,rfl,m,o,l,k⟩:=h;have j:=o.nm z l;obtain⟨q,g,_⟩:=e.fg [0,1];refine⟨_,ag<|aw<|aV (ak (e.gN a rfl (by lia)<|by decide)<|aj<|aa g)<|a8<|ba J.iC (aa g) (aa q) b6,_,rfl,.str z,"str",rfl,.str z,by decide,mM j,λH1 i=>⟨_,rfl,fH j ?_⟩⟩;refine⟨_,rfl,_,rfl,p,_,rfl,.inl<|cN.of<|i _ _ m,rfl,AS n,?_⟩;rw[DI l];exact k H1 i
def jq:cK ["persons","one","other"] ["persons","one","other"] (cI d8):={}
def AM (D:Df K mg "are_unlike_persons" d8 ["persons","one","other"] f fd) (e:Gd P w K mg base 2 "is_person" jB):Gd P w K mg base 3 "are_unlike_persons" pI:=by
 refine aG D jq λX H A Q E m h=>?_;obtain⟨p,i,y,z,rfl,l,o,v,s,B,k⟩:=h;have a:=m.gN e rfl (by lia) (by decide);obtain⟨g,q,j,_⟩:=m.fg [0,1,2];refine⟨_,ag<|aw<|aV (ak a<|aB (aa g)<|aa q)<|aV (ak a<|aB (aa g)<|aa j)<|a8<|ba b9 (aa q) (aa j)<|cM _,_,rfl,_,rfl,p,i,y,rfl,l,o,v,λH1 n=>⟨_,rfl,fO ?_⟩⟩;refine⟨_,rfl,_,rfl,p,i,z,rfl,n _ _ l,o,s,λx r=>⟨_,rfl,fO ?_⟩⟩;refine⟨_,rfl,_,rfl,rfl,?_⟩;rw[QM<|by grind];exact k x<|n.trans r
def yh:cK ["thing"] ["thing"] (cI nG):={}
def HU {fd:FuncData}(D:Df K mg "is_tale" nG ["thing"] f fd) (T:Txt K mg kw C) (j:Gd P w K mg base 1 "is_name" (qw K)):Gd P w K mg base 2 "is_tale" DS:=by
 refine aG D yh λX H I Q E a h=>?_;obtain⟨t,e,rfl,g,B,F,n,k⟩:=h;have L:(e.map V.str).length=e.length:=QF ..;have p:(e.map V.str).length<=sizeLine:=by
  have:sizeLine=16777216:=Q0;lia
 obtain⟨i,_⟩:=a.fg [0];refine⟨_,(af (aH (a7<|bS (bu<|bh<|aJ (a.b T.b_isinstance) bZ df<|aB (aa i)<|J.ty (a.b T.b_tuple) p8)<|b5<|bu<|J.jW bG bG ae (aJ (a.b T.b_len) aY di<|aj<|aa i) (cC a T.g_MOST_WORDS rfl<|by decide) kO)
 (ag<|aw bj)
 aI)
 (ag<|aw<|aJ (a.b T.b_all) (cu a.calm) mw<|aj<|cz (is:=[]) (ns:=[]) a.calm (J.xZ<|aa i) {} (λ_ _ _ _ _=>ak ((a.we j (by lia)<|by decide).lc rfl)<|aj<|cj rfl (by decide)<|by decide) a.hsc a.hN)),?_⟩
 refine⟨_,rfl,_,_,_,_,rfl,.tup g,kI,_,rfl,iN ?_⟩;refine⟨_,rfl,t,_,rfl,.inr<|fh.of g,_,_,rfl,rfl,_,rfl,fH (dT0<|by lia) ⟨_,_,rfl,rfl,_,rfl,?_⟩⟩;rw[dT0<|show((e.map V.str).length:Int)<=6 by lia];refine dH ⟨_,rfl,t,rfl,⟨_,fh.of g⟩,HF (λv=>.bl<|zH v) (fh.of g) p (λv N M y m A=>?_) λq z G m l=>?_⟩
 ·obtain⟨x,r,rfl⟩:=Rk.mp y
  exact⟨_,rfl,.str x,"str",rfl,.str x,by decide,mM<|n x r,λo s=>A o s⟩
 ·refine⟨q,e.map dZ,rfl,cN.of<|l.trans<|by rw[Tc,Tc];rfl,?_⟩
  rw[all_true n];exact k z m
def xm:cK ["persons","thing"] ["persons","thing"] (cI lE):={}
def EI (D:Df K mg "is_sight" lE ["persons","thing"] f fd) (n:Gd P w K mg base 1 "is_tuple_of" oM) (r:Gd P w K mg base 2 "is_person" jB)
  (l:Gd P w K mg base 2 "is_hour" (mY K)) (q:Gd P w K mg base 2 "is_tale" DS):Gd P w K mg base 3 "is_sight" zG:=by
 refine aG D xm λX H N Q E e h=>?_;obtain⟨p,A,v,rfl,I,M,⟨a,z,hr,C,F,rfl,i,G,m,o,s,y,J⟩,k⟩:=h;obtain⟨x,j,_⟩:=e.fg [0,1];refine⟨_,(af (aH (bu<|bh<|ak (e.gN n rfl (by lia)<|by decide)<|aB (aa j) ae)
 (ag<|aw bj)
 aI)
 (ag<|aw<|aV (ak (e.gN r rfl (by lia)<|by decide)<|aB (aa x)<|ai aE (aa j) ae ah)<|aV (ak (e.gN l rfl (by lia)<|by decide)<|aj<|ai aE (aa j) ae ah)<|a8<|ak (e.gN q rfl (by lia)<|by decide)<|aj<|ai aE (aa j) ae ah)),?_⟩
 refine⟨_,rfl,a,_,3,rfl,i,rfl,_,rfl,dH ?_⟩;refine⟨_,rfl,_,rfl,xT i rfl ⟨p,A,z,rfl,I,M,G,λH1 g=>⟨_,rfl,fO ?_⟩⟩⟩;refine⟨_,rfl,xT (g _ _ i) rfl ⟨.int hr,"int",rfl,.int hr,by decide,_,rfl,fH (iu m) ?_⟩⟩;exact⟨_,rfl,xT (g _ _ i) rfl ⟨C,F,rfl,g _ _ o,s,y,J,λL B=>k L<|g.trans B⟩⟩
def Ce:cK ["thing"] ["thing"] (cI pE):={}
def LN (D:Df K mg "is_way" pE ["thing"] f fd) (T:Txt K mg kw C):Gd P w K mg base 1 "is_way" D4:=by
 refine aG D Ce λX H l Q E a h=>?_;obtain⟨z,rfl,j,k⟩:=h;obtain⟨g,_⟩:=a.fg [0];refine⟨_,ag<|aw<|aV (aJ (a.b T.b_isinstance) bZ df<|aB (aa g)<|J.ty (a.b T.b_str) yc)<|a8<|ba J.iC (aa g) (aL<|aB ao ao) J.Dm,_,rfl,_,_,_,_,rfl,.str z,kI,_,rfl,iP ?_⟩;refine⟨_,rfl,by decide,λq i=>⟨q,_,rfl,.inr<|fh.of cE,rfl,by decide+kernel,?_⟩⟩;have e:IL (.str z) [.str "both",.str "one"]=true:=by
  rcases j with rfl|rfl<;>decide+kernel
 rw[e];exact k _<|cH.upd i
def xW:cK ["persons","thing"] ["persons","thing"] (cI mh):={}
def FC (D:Df K mg "is_talk" mh ["persons","thing"] f fd) (o:Gd P w K mg base 1 "is_tuple_of" oM) (n:Gd P w K mg base 3 "are_unlike_persons" pI)
  (j:Gd P w K mg base 2 "is_hour" (mY K)) (l:Gd P w K mg base 1 "is_way" D4):Gd P w K mg base 4 "is_talk" CJ:=by
 refine aG D xW λX H M Q E e h=>?_;obtain⟨p,x,v,rfl,F,L,⟨a,hr,y,z,r,rfl,g,m,I,C,B,G⟩,k⟩:=h;obtain⟨s,i,_⟩:=e.fg [0,1];refine⟨_,(af (aH (bu<|bh<|ak (e.gN o rfl (by lia)<|by decide)<|aB (aa i) ae)
 (ag<|aw bj)
 aI)
 (ag<|aw<|aV (ak (e.gN j rfl (by lia)<|by decide)<|aj<|ai aE (aa i) ae ah)<|aV (ak (e.gN n rfl (by lia)<|by decide)<|aP (aa s) (ai aE (aa i) ae ah)<|ai aE (aa i) ae ah)<|a8<|ak (e.gN l rfl (by lia)<|by decide)<|aj<|ai aE (aa i) ae ah)),?_⟩
 refine⟨_,rfl,a,_,4,rfl,g,rfl,_,rfl,dH ?_⟩;refine⟨_,rfl,xT g rfl ⟨.int hr,"int",rfl,.int hr,by decide,_,rfl,fH (iu m) ?_⟩⟩;refine⟨_,rfl,_,rfl,xT g rfl ⟨_,rfl,xT g rfl ⟨p,x,y,z,rfl,F,L,I,C,B,λH1 q=>⟨_,rfl,fO ?_⟩⟩⟩⟩;exact⟨_,rfl,xT (q _ _ g) rfl ⟨r,rfl,G,λJ A=>k J<|q.trans A⟩⟩
def yA:cK ["begin","end"] ["begin","end"] (cI nC):={}
def Fv (D:Df K mg "is_span" nC ["begin","end"] f fd) (g:Gd P w K mg base 2 "is_hour" (mY K)):Gd P w K mg base 3 "is_span" CH:=by
 refine aG D yA λX H o Q E i h=>?_;obtain⟨a,b,rfl,n,m,p,k⟩:=h;have e:=i.gN g rfl (by lia) (by decide);obtain⟨l,j,_⟩:=i.fg [0,1];refine⟨_,ag<|aw<|aV (ak e<|aj<|aa l)<|aV (ak e<|aj<|aa j)<|a8<|ba bG (aa l) (aa j)<|cM _,_,rfl,.int a,"int",rfl,.int a,by decide,_,rfl,fH (iu n) ?_⟩;refine⟨_,rfl,.int b,"int",rfl,.int b,by decide,_,rfl,fH (iu m) ?_⟩;refine⟨_,rfl,_,rfl,_,_,rfl,rfl,?_⟩;grind
def kR:cK ["persons","kind","person","behind"] ["persons","kind","person","behind"] (cI fm):={}
def Fb (D:Df K mg "is_short_saying" fm ["persons","kind","person","behind"] f fd) (n:Gd P w K mg base 3 "are_unlike_persons" pI)
  (v:Gd P w K mg base 2 "is_person" jB) (l:Gd P w K mg base 2 "is_hour" (mY K)):Gd P w K mg base 4 "is_short_saying" AJ:=by
 refine aG D kR λX H L Q E g h=>?_;obtain⟨p,m,I,y,b,rfl,o,r,q,C,k⟩:=h;have e:=g.gN l rfl (by lia) (by decide);obtain⟨x,s,A,j,_⟩:=g.fg [0,1,2,3];refine⟨_,(af (aH (aF aO (aa s) ao<|cM _)
 (ag<|aw<|ak (g.gN n rfl (by lia)<|by decide)<|aP (aa x) (aa A)<|aa j)
 aI)
 (af (aH (bu<|bh<|ak (g.gN v rfl (by lia)<|by decide)<|aB (aa x)<|aa A)
 (ag<|aw bj)
 aI)
 (af (aH (aF aO (aa s) ao<|cM _)
 (ag<|aw<|J.Af (ba J.ph (aa j) bL<|cM _)<|a8<|ak e<|aj<|aa j)
 aI)
 (ag<|aw<|aV (ba aO (aa s) ao<|cM _)<|a8<|ak e<|aj<|aa j)))),?_⟩
 refine⟨_,rfl,rfl,_,rfl,?_⟩;obtain ⟨rfl,z,rfl,G,F⟩|⟨rfl,B⟩|⟨rfl,h,rfl,a⟩:=C
 ·exact fH (dT0 rfl) ⟨_,rfl,_,rfl,_,rfl,p,m,y,z,rfl,o,r,q,G,F,k⟩
 ·refine iN ⟨_,rfl,_,rfl,p,m,y,rfl,o,r,q,λH1 i=>⟨_,rfl,dH ?_⟩⟩
  refine⟨_,rfl,rfl,_,rfl,fH (dT0 rfl) ?_⟩;obtain rfl|⟨h,rfl,a⟩:=B
  ·exact⟨_,rfl,rfl,_,rfl,fH (dT0 rfl)<|k H1 i⟩
  ·refine⟨_,rfl,rfl,_,rfl,gP (by grind) ?_⟩
   refine⟨_,rfl,.int h,"int",rfl,.int h,by decide,?_⟩;rw[iu a];exact k H1 i
 ·refine iN ⟨_,rfl,_,rfl,p,m,y,rfl,o,r,q,λH1 i=>⟨_,rfl,dH ?_⟩⟩
  refine⟨_,rfl,rfl,_,rfl,iN ?_⟩;refine⟨_,rfl,rfl,_,rfl,fH (dT0 rfl) ?_⟩;refine⟨_,rfl,.int h,"int",rfl,.int h,by decide,?_⟩;rw[iu a];exact k H1 i
def uX:cK ["persons","thing"] ["persons","thing"] (cI jN):={}
def BV {f:Xg}(D:Df K mg "is_saying" jN ["persons","thing"] f fd) (T:Txt K mg kw C) (G:Gd P w K mg base 2 "is_person" jB) (B:Gd P w K mg base 3 "is_span" CH)
  (A:Gd P w K mg base 4 "is_short_saying" AJ):Gd P w K mg base 5 "is_saying" xn:=by
 refine aG D uX λX H U Q E i h=>?_;obtain⟨p,r,v,rfl,s,x,⟨a,rfl,O⟩,k⟩:=h;obtain⟨L,g,_⟩:=i.fg [0,1];have o:=i.b T.b_isinstance;have l:=i.b T.b_len;refine⟨_,(af (aH (a7<|bS (bu<|bh<|aJ o bZ df<|aB (aa g)<|J.ty (i.b T.b_tuple) p8)<|bS (aF aO (aJ l aY di<|aj<|aa g) ae<|cM _)<|b5<|bu<|bh<|aJ o bZ df<|aB (ai aE (aa g) ae ah)<|J.ty (i.b T.b_str) yc)
 (ag<|aw bj)
 aI)
 (af (aH (aF aO (aJ l aY di<|aj<|aa g) ae<|cM _)
 (ag<|aw<|aV (ba aO (ai aE (aa g) ae ah) ao<|cM _)<|aV (ak (i.gN G rfl (by lia)<|by decide)<|aB (aa L)<|ai aE (aa g) ae ah)<|a8<|ak (i.gN B rfl (by lia)<|by decide)<|aB (ai aE (aa g) ae ah)<|ai aE (aa g) ae ah)
 aI)
 (ag<|aw<|aV (ba aO (aJ l aY di<|aj<|aa g) ae<|cM _)<|a8<|ak (i.gN A rfl (by lia)<|by decide)<|bQ (aa L) (ai aE (aa g) ae ah) (ai aE (aa g) ae ah)<|ai aE (aa g) ae ah))),?_⟩
 obtain ⟨y,h,e,m,j⟩|⟨y,b,e,m,N⟩|⟨y,h,M,e,m,j,q,I⟩|⟨y,z,e,m,S,R⟩:=O
 ·refine⟨_,rfl,_,_,_,_,rfl,.tup e,kI,_,rfl,iN ?_⟩
  refine⟨_,rfl,a,_,rfl,.inr<|fh.of e,rfl,_,rfl,gP (lh (n:=3) rfl<|by decide) ?_⟩;refine⟨_,rfl,xT e rfl ⟨_,_,_,_,rfl,.str _,kI,_,rfl,iN ?_⟩⟩;refine⟨_,rfl,a,_,rfl,.inr<|fh.of e,rfl,_,rfl,gP (lh (n:=3) rfl<|by decide) ?_⟩;refine⟨_,rfl,a,_,rfl,.inr<|fh.of e,rfl,_,rfl,fH (tK (n:=3) rfl<|by decide) ?_⟩;exact⟨_,rfl,_,rfl,xT e rfl ⟨_,rfl,xT e rfl ⟨_,rfl,xT e rfl ⟨p,r,_,y,_,rfl,s,x,m,.inr<|.inr ⟨rfl,h,rfl,j⟩,k⟩⟩⟩⟩
 ·refine⟨_,rfl,_,_,_,_,rfl,.tup e,fM (T:= "tuple") (by decide)<|by decide,_,rfl,iN ?_⟩
  refine⟨_,rfl,a,_,rfl,.inr<|fh.of e,rfl,_,rfl,gP (lh (n:=3) rfl<|by decide) ?_⟩;refine⟨_,rfl,xT e rfl ⟨_,_,_,_,rfl,.str _,fM (T:= "str") (by decide)<|by decide,_,rfl,iN ?_⟩⟩;refine⟨_,rfl,a,_,rfl,.inr<|fh.of e,rfl,_,rfl,gP (lh (n:=3) rfl<|by decide) ?_⟩;refine⟨_,rfl,a,_,rfl,.inr<|fh.of e,rfl,_,rfl,fH (tK (n:=3) rfl<|by decide) ?_⟩;exact⟨_,rfl,_,rfl,xT e rfl ⟨_,rfl,xT e rfl ⟨_,rfl,xT e rfl ⟨p,r,_,y,_,rfl,s,x,m,.inr<|.inl ⟨rfl,N⟩,k⟩⟩⟩⟩
 ·refine⟨_,rfl,_,_,_,_,rfl,.tup e,fM (T:= "tuple") (by decide)<|by decide,_,rfl,iN ?_⟩
  refine⟨_,rfl,a,_,rfl,.inr<|fh.of e,rfl,_,rfl,gP (lh (n:=4) rfl<|by decide) ?_⟩;refine⟨_,rfl,xT e rfl ⟨_,_,_,_,rfl,.str _,fM (T:= "str") (by decide)<|by decide,_,rfl,iN ?_⟩⟩;refine⟨_,rfl,a,_,rfl,.inr<|fh.of e,rfl,_,rfl,fH (tK (n:=4) rfl<|by decide) ?_⟩;refine⟨_,rfl,xT e rfl ⟨rfl,_,rfl,iP ?_⟩⟩;refine⟨_,rfl,_,rfl,xT e rfl ⟨p,r,y,rfl,s,x,m,λH1 F=>⟨_,rfl,fO ?_⟩⟩⟩;exact⟨_,rfl,xT (F _ _ e) rfl ⟨_,rfl,xT (F _ _ e) rfl ⟨h,M,rfl,j,q,I,k H1 F⟩⟩⟩
 ·refine⟨_,rfl,_,_,_,_,rfl,.tup e,fM (T:= "tuple") (by decide)<|by decide,_,rfl,iN ?_⟩
  refine⟨_,rfl,a,_,rfl,.inr<|fh.of e,rfl,_,rfl,gP (lh (n:=3) rfl<|by decide) ?_⟩;refine⟨_,rfl,xT e rfl ⟨_,_,_,_,rfl,.str _,fM (T:= "str") (by decide)<|by decide,_,rfl,iN ?_⟩⟩;refine⟨_,rfl,a,_,rfl,.inr<|fh.of e,rfl,_,rfl,gP (lh (n:=3) rfl<|by decide) ?_⟩;refine⟨_,rfl,a,_,rfl,.inr<|fh.of e,rfl,_,rfl,fH (tK (n:=3) rfl<|by decide) ?_⟩;exact⟨_,rfl,_,rfl,xT e rfl ⟨_,rfl,xT e rfl ⟨_,rfl,xT e rfl ⟨p,r,_,y,_,rfl,s,x,m,.inl ⟨rfl,z,rfl,S,R⟩,k⟩⟩⟩⟩
def ql:cK ["thing"] ["thing"] (cI ig):={}
def y6 {fd:FuncData}(D:Df K mg "are_persons" ig ["thing"] f fd) (T:Txt K mg kw C) (r:Gd P w K mg base 1 "is_list_up_to" iw) (o:Gd P w K mg base 1 "is_name" (qw K)):Gd P w K mg base 2 "are_persons" sR:=by
 refine aG D ql λX H R Q E a h=>?_;obtain⟨p,i,rfl,j,m,k⟩:=h;have B:(i.map V.str).length=i.length:=QF ..;have F:=m.hi;have S:=m.lo;have A:(i.map V.str).length<=sizeLine:=by
  have:sizeLine=16777216:=Q0;lia
 obtain⟨l,_⟩:=a.fg [0];have g:=a.b T.b_len;refine⟨_,(af (aH (a7<|bS (bu<|bh<|ak (a.gN r rfl (by lia)<|by decide)<|aB (aa l)<|cC a T.g_MOST_PERSONS rfl<|by decide)<|b5<|aF aO (aJ g aY di<|aj<|aa l) ae<|cM _)
 (ag<|aw bj)
 aI)
 (ag<|aw<|aV (aJ (a.b T.b_all) (cu a.calm) mw<|aj<|cz (is:=[]) (ns:=[]) a.calm (aQ<|aa l) {} (λ_ _ _ _ _=>ak ((a.we o (by lia)<|by decide).lc rfl)<|aj<|cj rfl (by decide)<|by decide) a.hsc a.hN)<|a8<|ba aO (aJ g J.hZ di<|aj<|bo (a.b T.b_set) (J.mX a.calm) CD<|aj<|aa l) (aJ g aY di<|aj<|aa l)<|cM _)),?_⟩
 refine⟨_,rfl,p,_,24,rfl,j,by lia,_,rfl,dH ?_⟩;refine⟨_,rfl,p,_,rfl,.inl<|cN.of j,rfl,_,rfl,gP ?_ ?_⟩
 ·rw[Ro]
  intro e;injection e with e
  lia
 ·refine⟨_,rfl,p,rfl,⟨_,cN.of j⟩,lF (λv=>.bl<|zH v) (cN.of j) A (λv W U M n N=>?_) λG Y O n s=>?_⟩
  ·obtain⟨x,I,rfl⟩:=Rk.mp M
   exact⟨_,rfl,.str x,"str",rfl,.str x,by decide,mM<|m.nm x I,λz L=>N z L⟩
  ·refine⟨G,i.map dZ,rfl,cN.of<|s.trans<|by rw[Tc,Tc];rfl,_,rfl,fH (all_true m.nm) ?_⟩
   refine⟨_,rfl,p,i,rfl,cN.of<|n _ _ j,m.nd,by lia,λq y=>?_⟩;refine⟨q,i.length,rfl,cE,_,rfl,p,_,rfl,.inl<|cN.of<|(cH.upd y) _ _<|n _ _ j,rfl,?_⟩;rw[B,dT0 rfl];exact k _<|n.trans<|cH.upd y
def qZ:cK ["persons","thing"] ["persons","thing"] (cI iI):={}
def qV (D:Df K mg "are_sights" iI ["persons","thing"] f fd) (T:Txt K mg kw C) (l:Gd P w K mg base 1 "is_list_up_to" iw) (j:Gd P w K mg base 3 "is_sight" zG):Gd P w K mg base 4 "are_sights" (mz dQ 24):=by
 refine aG D qZ λX H N Q E a h=>?_;obtain⟨p,q,x,n,rfl,z,G,g,O,r,k⟩:=h;have y:n.length<=sizeLine:=by
  have:sizeLine=16777216:=Q0;lia
 obtain⟨L,o,_⟩:=a.fg [0,1];refine⟨_,ag<|aw<|aV (ak (a.gN l rfl (by lia)<|by decide)<|aB (aa o)<|cC a T.g_MOST_SIGHTS rfl<|by decide)<|a8<|aJ (a.b T.b_all) (cu a.calm) mw<|aj<|cz (is:=[0]) (ns:=["persons"]) a.calm (aQ<|aa o) {} (λ_ _ _ _ _=>ak ((a.we j (by lia)<|by decide).lc rfl)<|aB (J.Pc (i:=0) rfl rfl (by decide)<|by decide)<|cj rfl (by decide)<|by decide) a.hsc a.hN,?_⟩;refine⟨_,rfl,q,_,24,rfl,g,by lia,_,rfl,fO ?_⟩;refine⟨_,rfl,q,rfl,⟨_,cN.of g⟩,lF (λ_=>.bl true) (cN.of g) y (λv S R F e I=>?_) λA U M e m=>?_⟩
 ·exact⟨_,rfl,_,rfl,p,x,v,rfl,e _ _ z,G,(r v F).mono<|Tk.of e,λs B=>I s B⟩
 ·refine⟨A,n.map λ_=>true,rfl,cN.of<|m.trans<|by simp_all,?_⟩
  grind
def uO:cK ["persons","thing"] ["persons","thing"] (cI jU):={}
def uN (D:Df K mg "are_talks" jU ["persons","thing"] f fd) (T:Txt K mg kw C) (l:Gd P w K mg base 1 "is_list_up_to" iw) (j:Gd P w K mg base 4 "is_talk" CJ):Gd P w K mg base 5 "are_talks" (mz eW 120):=by
 refine aG D uO λX H N Q E a h=>?_;obtain⟨p,q,x,n,rfl,z,G,g,O,r,k⟩:=h;have y:n.length<=sizeLine:=by
  have:sizeLine=16777216:=Q0;lia
 obtain⟨L,o,_⟩:=a.fg [0,1];refine⟨_,ag<|aw<|aV (ak (a.gN l rfl (by lia)<|by decide)<|aB (aa o)<|cC a T.g_MOST_TALKS rfl<|by decide)<|a8<|aJ (a.b T.b_all) (cu a.calm) mw<|aj<|cz (is:=[0]) (ns:=["persons"]) a.calm (aQ<|aa o) {} (λ_ _ _ _ _=>ak ((a.we j (by lia)<|by decide).lc rfl)<|aB (J.Pc (i:=0) rfl rfl (by decide)<|by decide)<|cj rfl (by decide)<|by decide) a.hsc a.hN,?_⟩;refine⟨_,rfl,q,_,120,rfl,g,by lia,_,rfl,fO ?_⟩;refine⟨_,rfl,q,rfl,⟨_,cN.of g⟩,lF (λ_=>.bl true) (cN.of g) y (λv S R F e I=>?_) λA U M e m=>?_⟩
 ·exact⟨_,rfl,_,rfl,p,x,v,rfl,e _ _ z,G,(r v F).mono<|Tk.of e,λs B=>I s B⟩
 ·refine⟨A,n.map λ_=>true,rfl,cN.of<|m.trans<|by simp_all,?_⟩
  grind
def qi:cK ["persons","thing"] ["persons","thing"] (cI ic):={}
def p0 (D:Df K mg "are_sayings" ic ["persons","thing"] f fd) (T:Txt K mg kw C) (l:Gd P w K mg base 1 "is_list_up_to" iw) (j:Gd P w K mg base 5 "is_saying" xn):Gd P w K mg base 6 "are_sayings" (mz jo 60):=by
 refine aG D qi λX H N Q E a h=>?_;obtain⟨p,q,x,n,rfl,z,G,g,O,r,k⟩:=h;have y:n.length<=sizeLine:=by
  have:sizeLine=16777216:=Q0;lia
 obtain⟨L,o,_⟩:=a.fg [0,1];refine⟨_,ag<|aw<|aV (ak (a.gN l rfl (by lia)<|by decide)<|aB (aa o)<|cC a T.g_MOST_SAYINGS rfl<|by decide)<|a8<|aJ (a.b T.b_all) (cu a.calm) mw<|aj<|cz (is:=[0]) (ns:=["persons"]) a.calm (aQ<|aa o) {} (λ_ _ _ _ _=>ak ((a.we j (by lia)<|by decide).lc rfl)<|aB (J.Pc (i:=0) rfl rfl (by decide)<|by decide)<|cj rfl (by decide)<|by decide) a.hsc a.hN,?_⟩;refine⟨_,rfl,q,_,60,rfl,g,by lia,_,rfl,fO ?_⟩;refine⟨_,rfl,q,rfl,⟨_,cN.of g⟩,lF (λ_=>.bl true) (cN.of g) y (λv S R F e I=>?_) λA U M e m=>?_⟩
 ·exact⟨_,rfl,_,rfl,p,x,v,rfl,e _ _ z,G,(r v F).mono<|Tk.of e,λs B=>I s B⟩
 ·refine⟨A,n.map λ_=>true,rfl,cN.of<|m.trans<|by simp_all,?_⟩
  grind
def Cf:cK ["self","persons","sights","talks","sayings"] ["self","persons","sights","talks","sayings"] (cI iF):={}
def Fm (F:qS K "__init__" "Book.__init__" iF f fd) (mk:Mk K C f) (bi:Binds K fd ["self","persons","sights","talks","sayings"] []) (nm:mg "Book" =some (.ref C)) (T:Txt K mg kw C)
  (ar:Gd P w K mg base 2 "are_persons" sR) (aq:Gd P w K mg base 4 "are_sights" (mz dQ 24)) (ap:Gd P w K mg base 5 "are_talks" (mz eW 120)) (an:Gd P w K mg base 6 "are_sayings" (mz jo 60)):
  Kd P w K mg base 7 "Book" C (CT C):=by
 refine J.HP F mk bi nm Cf (λvs H Q E h=>?_) λX H vs Q E B h=>?_
 ·obtain⟨x,q,p,a,b,c,A,ss,ts,ys,rfl,_⟩:=h
  rfl
 ·obtain⟨x,q,p,a,b,c,A,ss,ts,ys,rfl,N,hp,ha,hb,hc,g,k⟩:=h
  obtain⟨hP,sl,sg,tl,tg,yl,yg⟩:=id g;obtain⟨S0,S1,S2,S3,S4,_⟩:=B.fg [0,1,2,3,4];have l:=B.b T.b_list;obtain rfl:=B.fK;refine⟨_,(af (aH (bu<|bh<|ak (B.gN ar rfl (by lia)<|by decide)<|aj<|aa S1)
 cB
 aI)
 (af (aH (bu<|bh<|ak (B.gN aq rfl (by lia)<|by decide)<|aB (aa S1)<|aa S2)
 cB
 aI)
 (af (aH (bu<|bh<|ak (B.gN ap rfl (by lia)<|by decide)<|aB (aa S1)<|aa S3)
 cB
 aI)
 (af (aH (bu<|bh<|ak (B.gN an rfl (by lia)<|by decide)<|aB (aa S1)<|aa S4)
 cB
 aI)
 (af (J.mG (aa S0)<|bo l bD eF<|aj<|aa S1)
 (af (J.mG (aa S0)<|bo l bD eF<|aj<|aa S2)
 (af (J.mG (aa S0)<|bo l bD eF<|aj<|aa S3)
 (ag<|J.mG (aa S0)<|bo l bD eF<|aj<|aa S4)))))))),?_⟩
  refine⟨_,rfl,p,A,rfl,hp,hP,λH1 s1=>⟨_,rfl,dH ?_⟩⟩;refine⟨_,rfl,_,rfl,p,a,A,ss,rfl,s1 _ _ hp,hP,s1 _ _ ha,sl,λv Z=>(sg v Z).mono<|Tk.of s1,λH2 am=>⟨_,rfl,dH ?_⟩⟩;have s2:=s1.trans am;refine⟨_,rfl,_,rfl,p,b,A,ts,rfl,s2 _ _ hp,hP,s2 _ _ hb,tl,λv Z=>(tg v Z).mono<|Tk.of s2,λH3 al=>⟨_,rfl,dH ?_⟩⟩;have s3:=s2.trans al;refine⟨_,rfl,_,rfl,p,c,A,ys,rfl,s3 _ _ hp,hP,s3 _ _ hc,yl,λv Z=>(yg v Z).mono<|Tk.of s3,λy as=>⟨_,rfl,dH ?_⟩⟩;have i:=s3.trans as;refine⟨_,rfl,p,_,rfl,.inl<|cN.of<|i _ _ hp,λm np=>⟨_,rfl,x,C,q,[],rfl,by rw[cG<|cF (i _ _ N) np];exact i _ _ N,T.cl,T.nP,by decide,?_⟩⟩;have j:=cF (i _ _ N) np;have k1:∀d o,y d=some o->d≠x->upd (upd y m<|.lst<|A.map V.str) x (.ins C q<|gB "kept_persons" (.ref m) []) d=some o:=λd o e n=>by
   rw[cG n,cG<|cF e np];exact e
  have ax:=pG (i _ _ ha) (i _ _ N) (by intro z;cases z);have bx:=pG (i _ _ hb) (i _ _ N) (by intro z;cases z);have cx:c≠x:=pG (i _ _ hc) (i _ _ N) (by intro z;cases z);refine⟨_,rfl,a,_,rfl,.inl<|cN.of<|k1 _ _ (i _ _ ha) ax,λs S=>⟨_,rfl,x,C,q,_,rfl,by rw[cG<|cF cE S];exact cE,T.cl,T.nS,by show 1<1000;decide,?_⟩⟩;have D:x≠s:=cF cE S;have r:m≠s:=cF (by rw[cG j.symm];exact cE) S;have U:y s=none:=by
   rw[cG D.symm,cG r.symm]at S;exact S
  have k2:∀d o,y d=some o->d≠x->upd (upd (upd (upd y m<|.lst<|A.map V.str) x<|.ins C q<|gB "kept_persons" (.ref m) []) s<|.lst ss) x (.ins C q<|gB "kept_sights" (.ref s) (gB "kept_persons" (.ref m) [])) d=some o:=λd o e n=>by
   rw[cG n,cG<|cF e U];exact k1 d o e n
  refine⟨_,rfl,b,_,rfl,.inl<|cN.of<|k2 _ _ (i _ _ hb) bx,λM O=>⟨_,rfl,x,C,q,_,rfl,by rw[cG<|cF cE O];exact cE,T.cl,T.nT,by show 2<1000;decide,?_⟩⟩;have W:x≠M:=cF cE O;have Xv:s≠M:=cF (by rw[cG D.symm];exact cE) O;have I:m≠M:=cF (by rw[cG j.symm,cG r,cG j.symm];exact cE) O;have G:y M=none:=by
   rw[cG W.symm,cG Xv.symm,cG W.symm,cG I.symm]at O;exact O
  refine⟨_,rfl,c,_,rfl,.inl<|cN.of<|by rw[cG cx,cG<|cF (i _ _ hc) G];exact k2 _ _ (i _ _ hc) cx,λR L=>⟨_,rfl,x,C,q,_,rfl,by rw[cG<|cF cE L];exact cE,T.cl,T.nY,by show 3<1000;decide,?_⟩⟩;have xy:x≠R:=cF cE L;have ac:M≠R:=cF (by rw[cG W.symm];exact cE) L;have Y:s≠R:=cF (by rw[cG D.symm,cG Xv,cG D.symm];exact cE) L;have ad:m≠R:=cF (by rw[cG j.symm,cG I,cG j.symm,cG r,cG j.symm];exact cE) L;have ab:y R=none:=by
   rw[cG xy.symm,cG ac.symm,cG xy.symm,cG Y.symm,cG xy.symm,cG ad.symm]at L;exact L
  refine k m s M R _ (i.free np) (i.free U) (i.free G) (i.free ab) ⟨⟨q,cE⟩,?_,?_,?_,?_⟩ λd o e n=>?_
  ·rw[cG j.symm,cG ad,cG j.symm,cG I,cG j.symm,cG r,cG j.symm]
   exact cE
  ·rw[cG D.symm,cG Y,cG D.symm,cG Xv,cG D.symm]
   exact cE
  ·rw[cG W.symm,cG ac,cG W.symm]
   exact cE
  ·rw[cG xy.symm]
   exact cE
  ·rw[cG n,cG<|cF (i _ _ e) ab,cG n,cG<|cF (i _ _ e) G]
   exact k2 d o (i _ _ e) n
end K43
namespace K43
variable {P:Xi}{w:Xj}{K:Frag}{mg:Xr}{base:Heap}{kw C:Xg}{f:Xg}{fd:FuncData}
abbrev TD:=Xn×Xn×Xn
def dR(k:Nat)(d:TD):Xm (Nat×Xn×Xn):=if d.2.2= "both" then [(k,d.1,d.2.1),(k,d.2.1,d.1)] else [(k,d.1,d.2.1)]
def fD(k:Nat):Xm TD->Xm (Nat×Xn×Xn)
 |[]=>[]
 |d::r=>dR k d++fD (k+1) r
theorem p7(d:TD):∀(l:Xm TD) (k:Nat),fD k (l++[d])=fD k l++dR (k+l.length) d
 |[],k=>by
  show dR k d++[]=[]++dR (k+0) d;grind
 |e::r,k=>by
  show dR k e++fD (k+1) (r++[d])=(dR k e++fD (k+1) r)++dR (k+(r.length+1)) d;rw[p7 d r<|k+1,QL,show k+1+r.length=k+(r.length+1) by lia]
def xX(k:Nat)(d:TD):(dR k d).length<=2:=by
 unfold dR;split
 ·exact QJ 2
 ·exact TX 1
theorem iZ:∀(l:Xm TD) (k:Nat),(fD k l).length<=2*l.length
 |[],_=>QJ 0
 |d::r,k=>by
  show(dR k d++fD (k+1) r).length<=2*(r.length+1);rw[QC];have:=xX k d;have:=iZ r<|k+1;lia
inductive NH  (H:Hp)(v:V)(d:TD):Prop
 |mk(a:Xg)(h:Int)(h0:v=.ref a)(e:H a=some (.tup [.int h,.str d.1,.str d.2.1,.str d.2.2]))
def MW(H:Hp)(a:Xm V)(e:Xm TD):Prop:=a.length=e.length/\∀(i:Nat) v d,a[i]? =some v->e[i]? =some d->NH H v d
def MW.mono(s:Tk H H')(h:MW H ts td):MW H' ts td:=⟨h.1,λi v d g f=>by
 obtain⟨a,t,e,j⟩:=h.2 i v d g f;exact⟨a,t,e,s _ _ j⟩⟩
inductive q9  (H:Hp)(v:V)(t:Nat×Xn×Xn):Prop
 |mk(a:Xg)(h0:v=.ref a)(e:H a=some (.tup [.int t.1,.str t.2.1,.str t.2.2]))
def dW(H:Hp)(us:Xm V)(a:Xm (Nat×Xn×Xn)):Prop:=us.length=a.length/\∀(i:Nat) u t,us[i]? =some u->a[i]? =some t->q9 H u t
def q9.mono(s:Tk H H')(h:q9 H v t):q9 H' v t:=by
 obtain⟨a,e,f⟩:=h;exact⟨a,e,s _ _ f⟩
def dW.mono(s:Tk H H')(h:dW H us ks):dW H' us ks:=⟨h.1,λi u t a e=>(h.2 i u t a e).mono s⟩
def dW.nil:dW H [] []:=⟨rfl,λi u t a=>by cases a⟩
def dW.snoc{H:Hp}{us:Xm V}{l:Xm (Nat×Xn×Xn)}{u:V}{t:Nat×Xn×Xn}(h:dW H us l)(n:q9 H u t):dW H (us++[u]) (l++[t]):=by
 refine⟨by rw[QC,QC,h.1];rfl,λi x e a f=>?_⟩;by_cases m:i<us.length
 ·rw[QX m]at a
  rw[QX<|by rw[<-h.1];exact m]at f;exact h.2 i x e a f
 ·rw[QQ<|by lia]at a
  rw[QQ<|by rw[<-h.1];lia,<-h.1]at f;cases g:i-us.length with
  |zero=>
   rw[g]at a f;cases a;cases f;exact n
  |succ j=>
   rw[g]at a;cases a
inductive xh  (C:Xg)(vs:Xm V)(H:Hp)(Q:VK):Prop
 |mk(x p s t y:Xg)(ps:Xm Xn)(ss a ys:Xm V)(e:Xm TD)(h0:vs=[.ref x])(h:Bk C H x p s t y ps ss a ys)(f:MW H a e)(i:a.length<=120)(g:∀(l:Xg)(us:Xm V)(H':Hp),cH H H'->H l=none->H' l=some (.lst us)->dW H' us (fD 0 e)->Q (.ref l) H')
def i5  (C:Xg):Sp:=λa H Q _=>xh C a H Q
inductive Nh(x l:Xg)(H:Hp)(f:Xm TD)(i:Nat)(σ:St)(a:Hp):Prop
 |mk(us:Xm V)(g h:Xk V)(e:σ=[some (.ref x),some (.ref l),g,h])(s:cH H a)(m:a l=some (.lst us))(j:dW a us (fD 0 (f.take i)))
def zh{a:Xm TD}{i:Nat}{d:TD}(hd:a[i]? =some d)(t:dW H us (fD 0<|a.take i)):
  (d.2.2= "both" ->∀u v,q9 H u (i,d.1,d.2.1)->q9 H v (i,d.2.1,d.1)->dW H ((us++[u])++[v]) (fD 0<|a.take<|i+1))/\(d.2.2≠ "both" ->∀u,q9 H u (i,d.1,d.2.1)->dW H (us++[u]) (fD 0<|a.take<|i+1)):=by
 have j:=(gI0.mp hd).1;have e:fD 0 (a.take<|i+1)=fD 0 (a.take i)++dR i d:=by
  rw[RE,hd];show fD 0 (a.take i++[d])=_;rw[p7,RK,T9,UC<|Vo j]
 rw[e];refine⟨λg u v f h=>?_,λg u f=>?_⟩
 ·rw[show dR i d=[(i,d.1,d.2.1)]++[(i,d.2.1,d.1)] by unfold dR;rw[QI g];rfl,<-QL]
  exact(t.snoc f).snoc h
 ·rw[show dR i d=[(i,d.1,d.2.1)] by unfold dR;rw[QG g]]
  exact t.snoc f
def qO:cK ["self","told","k","talk"] ["self"] (cI eI):={}
def wH {fd:FuncData}(F:qS K "tellings" "Book.tellings" eI f fd) (me:Meth K C "tellings" f) (bi:Binds K fd ["self"] []) (T:Txt K mg kw C):Md P w K mg base 1 C "tellings" (i5 C):=by
 refine cq F me bi T.cl qO (λvs H Q E h=>?_) λX H vs Q E B h=>?_
 ·obtain⟨x,p,s,t,y,ps,ss,ts,ys,S,rfl,_⟩:=h
  rfl
 ·obtain⟨x,p,s,t,y,ps,ss,ts,ys,S,rfl,bk,D,aq,k⟩:=h
  obtain⟨S0,S1,S2,O,_⟩:=B.fg [0,1,2,3];obtain rfl:=B.fK;have XH:=Q0;obtain⟨⟨dx,hx⟩,_,_,ht,_⟩:=id bk;refine⟨_,(af (au S1 B.nd<|a5 bz)
 (af (aZ B.own B.calm (J.oS (B.b T.b_enumerate)<|aj<|cb<|aa S0) (bO B.calm<|aT (aN S2 B.nd)<|aT (aN O B.nd) bH)
 (af (br<|bw RV Rq Rv bF (aa S1)<|aj<|aL<|aP (aa S2) (ai aE (aa O) ae ah)<|ai aE (aa O) ae ah)
 (ag (aH (aF aO (ai aE (aa O) ae ah) ao<|cM _)
 (ag<|br<|bw RV Rq Rv bF (aa S1)<|aj<|aL<|aP (aa S2) (ai aE (aa O) ae ah)<|ai aE (aa O) ae ah)
 aI))))
 (ag<|aw<|aa S1))),?_⟩
  refine⟨by decide,λl hl=>?_⟩;have s1:=cH.upd (o:=.lst []) hl;refine⟨_,rfl,x,C,dx,_,_,rfl,s1 _ _ hx,T.cl,T.nT,IX _ _ _ _,t,rfl,⟨_,cN.of<|s1 _ _ ht⟩,Dg (xs:=ts) (Nh x l H S)
   ⟨[],none,none,rfl,s1,cE,dW.nil⟩ ?_ ?_ ?_⟩
  ·rintro i σ H2 ⟨_,_,_,_,R,_⟩
   exact cN.of<|R _ _ ht
  ·rintro i v q σ H2 hv hq ⟨j,e1,e2,rfl,R,M,tl⟩
   have hi:=(gI0.mp hv).1;have hd:S[i]? =some (S[i]'(by rw[<-D.1];exact hi)):=QB _;generalize (S[i]'(by grind))=d at hd;obtain⟨a,h,rfl,ha⟩:=D.2 i v d hv hd;have ul:j.length<=240:=by
    have:=iZ (S.take i) 0;rw[RK]at this;have:=tl.1;have:=D.1;lia
   refine⟨q,_,rfl,fh.of cE,rfl,_,_,rfl,_,_,rfl,rfl,?_⟩;have s3:=cH.upd (o:=.tup [.int i,.ref a]) hq;have r:=s3 _ _<|R _ _ ha;have m:=s3 _ _ M;have Z:=tl.mono<|Tk.of s3;have ad:=R.trans s3;generalize upd H2 q (.tup [.int i,.ref a])=Y at r m Z ad;refine⟨_,rfl,.inl ⟨rfl,_,cN.of m⟩,_,rfl,_,rfl,xT r rfl ⟨_,rfl,xT r rfl ⟨uA,λg ab=>?_⟩⟩⟩;have W:=cH.upd (o:=.tup [.int i,.str d.1,.str d.2.1]) ab;refine⟨l,j,.ref g,rfl,rfl,W _ _ m,by lia,?_⟩;have al:=pG r m (by intro z;cases z);have am:=(cF m ab).symm;have A:upd (upd Y g<|.tup [.int i,.str d.1,.str d.2.1]) l (.lst<|j++[.ref g]) a=some (.tup [.int h,.str d.1,.str d.2.1,.str d.2.2]):=by
    rw[cG al];exact W _ _ r
   have G:q9 (upd (upd Y g<|.tup [.int i,.str d.1,.str d.2.1]) l<|.lst<|j++[.ref g]) (.ref g) (i,d.1,d.2.1):=⟨g,rfl,by rw[cG am];exact cE⟩;have an:=(Tk.of W).trans<|Tk.upd (W _ _ m) (ys:=j++[.ref g]);have N:=Z.mono an;have n:upd (upd Y g<|.tup [.int i,.str d.1,.str d.2.1]) l (.lst<|j++[.ref g]) l=some (.lst<|j++[.ref g]):=cE;have L:cH H (upd (upd Y g<|.tup [.int i,.str d.1,.str d.2.1]) l<|.lst<|j++[.ref g]):=λb o e=>by
    rw[cG<|cF e hl];exact W _ _<|ad _ _ e
   generalize upd (upd Y g<|.tup [.int i,.str d.1,.str d.2.1]) l (.lst<|j++[.ref g])=H5 at A G N n L;refine⟨_,rfl,xT A rfl ⟨rfl,_,rfl,dF (λhb=>?_) λhb=>?_⟩⟩
   ·have I:d.2.2= "both" :=V.str.inj (QO hb)
    refine⟨_,rfl,.inl ⟨rfl,_,cN.of n⟩,_,rfl,_,rfl,xT A rfl ⟨_,rfl,xT A rfl ⟨uA,λt2 ac=>?_⟩⟩⟩;have s6:=cH.upd (o:=.tup [.int i,.str d.2.1,.str d.1]) ac;refine⟨l,_,.ref t2,rfl,rfl,s6 _ _ n,by rw[QC];show j.length+1<_;lia,?_⟩;have ap:t2≠l:=(cF n ac).symm;have U:=(Tk.of s6).trans<|Tk.upd (s6 _ _ n) (ys:=(j++[.ref g])++[.ref t2]);refine⟨_,_,_,rfl,λb o e=>?_,cE,(zh hd<|N.mono U).1 I _ _ (G.mono U) ⟨t2,rfl,?_⟩⟩
    ·rw[cG<|cF e hl]
     exact s6 _ _<|L _ _ e
    ·rw[cG ap]
     exact cE
   ·have I:d.2.2≠ "both" :=λe=>hb (dT0<|RH V.str e)
    exact⟨_,_,_,rfl,L,n,(zh hd N).2 I _ G⟩
  ·rintro σ H2 ⟨j,e1,e2,rfl,R,M,tl⟩
   rw[D.1,RR]at tl;exact⟨_,rfl,k l j H2 R hl M tl⟩
inductive SD where
 |knew (p:Xn)(h:Int)
 |unh (p:Xn)(h:Xk Int)
 |sil (p:Xn)(b e:Int)
 |bar (p q:Xn)
def oV:Xk Int->V
 |none=>.non
 |some h=>.int h
def SD.tup:SD->Xm V
 |.knew p h=>[.str "knew",.str p,.int h]
 |.unh p h=>[.str "unheard",.str p,oV h]
 |.sil p b e=>[.str "silent",.str p,.int b,.int e]
 |.bar p q=>[.str "barred",.str p,.str q]
def HM(ps:Xm Xn):SD->Prop
 |.knew p h=>p∈ps/\dv h
 |.unh p h=>p∈ps/\∀i,h=some i->dv i
 |.sil p b e=>p∈ps/\dv b/\dv e/\b<=e
 |.bar p q=>p∈ps/\q∈ps/\p≠q
inductive By  (H:Hp)(v:V)(d:SD):Prop
 |mk(a:Xg)(h0:v=.ref a)(e:H a=some (.tup d.tup))
def Sys(H:Hp)(ys:Xm V)(sd:Xm SD):Prop:=ys.length=sd.length/\∀(i:Nat) v d,ys[i]? =some v->sd[i]? =some d->By H v d
def Sys.mono(s:Tk H H')(h:Sys H ys sd):Sys H' ys sd:=⟨h.1,λi v d g f=>by
 obtain⟨a,e,j⟩:=h.2 i v d g f;exact⟨a,e,s _ _ j⟩⟩
def Sys.nil:Sys H [] []:=⟨rfl,λi v d a=>by cases a⟩
def Sys.at{H:Hp}{ys:Xm V}{sd:Xm SD}{i:Nat}{v:V}(h:Sys H ys sd)(f:ys[i]? =some v):∃d a,sd[i]? =some d/\v=.ref a/\H a=some (.tup d.tup):=by
 have g:i<sd.length:=by
  rw[<-h.1];exact(gI0.mp f).1
 obtain⟨a,e,j⟩:=h.2 i v sd[i] f (QB g);exact⟨sd[i],a,QB g,e,j⟩
def E9(h:jo ps H v):∃d,By H v d/\HM ps d:=by
 obtain⟨a,e,h⟩:=h;obtain ⟨p,h,g,j,f⟩|⟨p,b,g,j,f⟩|⟨p,h,k,g,j,f,l,m⟩|⟨p,q,g,j,f,l⟩:=h
 ·exact⟨.knew p h,⟨a,e,g⟩,j,f⟩
 ·obtain rfl|⟨h,rfl,f⟩:=f
  ·exact⟨.unh p none,⟨a,e,g⟩,j,λi z=>by cases z⟩
  ·exact⟨.unh p<|some h,⟨a,e,g⟩,j,λi z=>by cases z;exact f⟩
 ·exact⟨.sil p h k,⟨a,e,g⟩,j,f,l,m⟩
 ·exact⟨.bar p q,⟨a,e,g⟩,j,f,l⟩
theorem sf{ps:Xm Xn}{H:Hp}:∀{ys:Xm V},(∀v∈ys,jo ps H v)->∃sd,Sys H ys sd/\∀d∈sd,HM ps d
 |[],_=>⟨[],Sys.nil,λd m=>by cases m⟩
 |v::r,h=>by
  obtain⟨sd,⟨l,g⟩,k⟩:=sf λu f=>h u<|Ry _ f;obtain⟨d,m,n⟩:=E9<|h v<|Ru ..;refine⟨d::sd,⟨by rw[Rz,Rz,l],λi u e f a=>?_⟩,λe a=>?_⟩
  ·cases i with
   |zero=>
    cases f;cases a;exact m
   |succ j=>exact g j u e f a
  ·obtain rfl|a:=Rf.mp a
   ·exact n
   ·exact k e a
def gA{l:Xm α}{i:Nat}{d:α}(h:l[i]? =some d):l.drop i=d::l.drop (i+1):=by
 obtain⟨a,rfl⟩:=gI0.mp h;exact UK a
def oe{α:Type}(l:Xm α)(p:α->Bool)(i:Nat):Bool:=match l[i]? with
 |some d=>p d
 |none=>false
def Jf{α:Type}(l:Xm α)(f:α->V)(i:Nat):V:=match l[i]? with
 |some d=>f d
 |none=>.non
def qD(h:l[i]? =some d):oe l p i=p d:=by
 unfold oe;rw[h]
def EN{f:α->V}(h:l[i]? =some d):Jf l f i=f d:=by
 unfold Jf;rw[h]
theorem pV{α:Type}(p:α->Bool)(f:α->V):∀l:Xm α,((List.range l.length).filter<|oe l p).map (Jf l f)=(l.filter p).map f
 |[]=>rfl
 |d::r=>by
  have g:=pV p f r;have a:(oe (d::r) p ∘ Nat.succ)=oe r p:=rfl;have h:(Jf (d::r) f ∘ Nat.succ)=Jf r f:=rfl;rw[Rz,UW,R8,VY,a];have e:oe (d::r) p 0=p d:=rfl;rw[e,R8];cases p d with
  |true=>
   rw[QI rfl,QI rfl,RC,RC,Tc,h,g];rfl
  |false=>grind
def wG(z:Xn):SD->Bool
 |.unh q _=>decide<|q=z
 |_=>false
def SD.hr:SD->Xk Int
 |.unh _ h=>h
 |_=>none
def ug(z:Xn)(sd:Xm SD):Xm (Xk Int):=(sd.filter<|wG z).map SD.hr
def ME(a:Int):Xm (Xk Int)->Xk Int
 |[]=>some a
 |none::_=>none
 |some h::r=>ME (if h > a then h else a) r
def floorOf(z:Xn)(sd:Xm SD):Xk Int:=ME (-1)<|ug z sd
def gR(h:wG z d=false):ug z (d::r)=ug z r:=by
 unfold ug;grind
def vv:ug z (.unh z h::r)=h::ug z r:=by
 unfold ug;rw[R8,QI<|show wG z (.unh z h)=true from dT0 rfl];rfl
inductive Ey  (C:Xg)(M:Xg->Xg->Xg->Xg->Xg)(vs:Xm V)(H:Hp)(Q:VK):Prop
 |mk(x p s t y:Xg)(xs:Xm V)(h0:vs=[.ref x])(f:(∃a,H x=some (.ins C a (oz p s t y))))(e:H (M p s t y)=some (.lst xs))(g:∀l,H l=none->Q (.ref l) (upd H l (.lst xs)))
def dC  (C:Xg)(M:Xg->Xg->Xg->Xg->Xg):Sp:=λa H Q _=>Ey C M a H Q
inductive J1(C:Xg)(vs:Xm V)(H:Hp)(Q:VK):Prop
 |mk(x p s t y:Xg)(ps:Xm Xn)(ss a ys:Xm V)(z:Xn)(sd:Xm SD)(e:vs=[.ref x,.str z])(bk:Bk C H x p s t y ps ss a ys)(f:Sys H ys sd)(l:ys.length<=60)(k:∀H',cH H H'->Q (oV (floorOf z sd)) H')
def Ay(C:Xg):Sp:=λa H Q _=>J1 C a H Q
def uI:cK ["self"] ["self"] (cI fb):={}
def uE (F:qS K "sayings" "Book.sayings" fb f fd) (m:Meth K C "sayings" f) (bi:Binds K fd ["self"] []) (T:Txt K mg kw C):Md P w K mg base 1 C "sayings" (dC C λ_ _ _ y=>y):=by
 refine cq F m bi T.cl uI (λe H Q E h=>?_) λX H e Q E a h=>?_
 ·obtain⟨x,p,s,t,y,i,rfl,_⟩:=h
  rfl
 ·obtain⟨x,p,s,t,y,i,rfl,⟨l,n⟩,g,k⟩:=h
  obtain⟨j,_⟩:=a.fg [0];obtain rfl:=a.fK;exact⟨_,ag<|aw<|bo (a.b T.b_list) bD eF<|aj<|cb<|aa j,_,rfl,x,C,l,_,_,rfl,n,T.cl,T.nY,MH _ _ _ _,_,_,rfl,.inl<|cN.of g,k⟩
def wQ:cK ["book","person","floor","saying"] ["book","person"] (cI lp):={}
def xo (D:Df K mg "floor_of" lp ["book","person"] f fd) (T:Txt K mg kw C) (R:Md P w K mg base 1 C "sayings" (dC C λ_ _ _ y=>y)):Gd P w K mg base 2 "floor_of" (Ay C):=by
 refine aG D wQ λX H vs Q E r h=>?_;obtain⟨x,p,s,t,y,ps,ss,ts,I,z,sd,rfl,bk,S,XO,k⟩:=h;obtain⟨⟨W,U⟩,hp,hs,ht,hy⟩:=id bk;obtain⟨Z,S1,M,L,_⟩:=r.fg [0,1,2,3];refine⟨_,(af (au M r.nd<|J.EG J.xV ae)
 (af (aZ r.own r.calm (aQ<|bE (r.met R<|by decide) (aa Z) rfl) (aN L r.nd)
 (ag (aH (a7<|bg (aF aO (ai aE (aa L) ae ah) ao<|cM _)<|bq<|aF aO (ai aE (aa L) ae ah) (aa S1)<|cM _)
 (af (aH (aF J.ph (ai aE (aa L) ae ah) bL<|cM _)
 (ag<|aw bL)
 aI)
 (ag<|au M r.nd<|aJ (r.b T.b_max) (J.mZ r.calm) JQ<|aB (aa M)<|ai aE (aa L) ae ah))
 aI)))
 (ag<|aw<|aa M))),?_⟩
 refine⟨_,rfl,_,rfl,x,W,_,rfl,U,fZ _ _ _ _ (by decide+kernel) (by decide+kernel) (by decide+kernel)<|by decide+kernel,x,p,s,t,y,I,rfl,⟨W,U⟩,hy,λl hl=>?_⟩;have N:=cH.upd (o:=.lst I) hl;have F:upd H l (.lst I) l=some (.lst I):=cE;generalize upd H l (.lst I)=H1 at N F;refine⟨l,rfl,⟨_,cN.of F⟩,c6 (xs:=I) (λi σ G=>∃(n:Int) (e:Xk V),σ=[some<|.ref x,some<|.str z,some<|.int n,e]/\cH H1 G/\ME n (ug z<|sd.drop i)=floorOf z sd)
  ⟨_,none,rfl,cH.refl _,rfl⟩ ?_ ?_ ?_⟩
 ·rintro i σ G hi ⟨n,e,rfl,m,j⟩
  exact cN.of<|m _ _ F
 ·rintro i v σ G hv ⟨n,e,rfl,m,j⟩
  obtain⟨d,a,Y,rfl,ha⟩:=S.at hv;have g:=m _ _<|N _ _ ha;rw[gA Y]at j;cases d with
  |knew q h=>
   rw[gR rfl]at j;exact⟨_,rfl,xT g rfl ⟨rfl,_,rfl,iN<|dH ⟨n,_,rfl,m,j⟩⟩⟩
  |sil q b e'=>
   rw[gR rfl]at j;exact⟨_,rfl,xT g rfl ⟨rfl,_,rfl,iN<|dH ⟨n,_,rfl,m,j⟩⟩⟩
  |bar q q'=>
   rw[gR rfl]at j;exact⟨_,rfl,xT g rfl ⟨rfl,_,rfl,iN<|dH ⟨n,_,rfl,m,j⟩⟩⟩
  |unh q h=>
   refine⟨_,rfl,xT g rfl ⟨rfl,_,rfl,iP ⟨_,rfl,xT g rfl ⟨_,rfl,rfl,_,rfl,dF (λO=>?_) λO=>?_⟩⟩⟩⟩
   ·have B:=V.str.inj (QO O)
    subst B;rw[vv]at j;cases h with
    |none=>
     refine⟨_,rfl,xT g rfl ⟨rfl,_,rfl,fH (dT0 rfl) ?_⟩⟩;have A:=j;have:=k G<|N.trans m
     rwa [<-A]at this
    |some h=>
     refine⟨_,rfl,xT g rfl ⟨rfl,_,rfl,gP (by rw[Ro];intro e;cases e) ?_⟩⟩;exact⟨_,rfl,_,rfl,xT g rfl ⟨n,h,rfl,_,_,rfl,m,j⟩⟩
   ·have B:wG z (.unh q h)=false:=QM λe=>O (dT0<|RH V.str e)
    rw[gR B]at j;exact⟨n,_,rfl,m,j⟩
 ·rintro σ G ⟨n,e,rfl,m,j⟩
  rw[S.1,List.drop_length]at j;have A:=j;have:=k G<|N.trans m;rw[<-A]at this;exact⟨_,rfl,this⟩
def eS(h:Int):Xk Int->Bool
 |none=>false
 |some m=>decide<|m<h
inductive Ks(vs:Xm V)(H:Hp)(Q:VK):Prop
 |mk(h:Int)(f:Xk Int)(e:vs=[.int h,oV f])(k:Q (.bl (eS h f)) H)
def o4:Sp:=λa H Q _=>Ks a H Q
def Oj(H:Hp)(d:Xg)(ps:Xm Xn)(sd:Xm SD):Prop:=∃a:Xm (Key×V),H d=some (.dK a)/\∀z∈ps,dS a (Sum.inr z)=some (oV<|floorOf z sd)
def Oj.mono(s:cH H H')(h:Oj H d ps sd):Oj H' d ps sd:=by
 obtain⟨a,e,k⟩:=h;exact⟨a,s _ _ e,k⟩
inductive Fx(C:Xg)(vs:Xm V)(H:Hp)(Q:VK):Prop
 |mk(x p s t y:Xg)(ps:Xm Xn)(ss a ys:Xm V)(sd:Xm SD)(e:vs=[.ref x])(bk:Bk C H x p s t y ps ss a ys)(f:ps.length<=24)(g:Sys H ys sd)(l:ys.length<=60)(k:∀d H',cH H H'->H d=none->Oj H' d ps sd->Q (.ref d) H')
def pX(C:Xg):Sp:=λa H Q _=>Fx C a H Q
def tT:cK ["self"] ["self"] (cI ff):={}
def uC (F:qS K "persons" "Book.persons" ff f fd) (m:Meth K C "persons" f) (bi:Binds K fd ["self"] []) (T:Txt K mg kw C):Md P w K mg base 1 C "persons" (dC C λp _ _ _=>p):=by
 refine cq F m bi T.cl tT (λe H Q E h=>?_) λX H e Q E a h=>?_
 ·obtain⟨x,p,s,t,y,i,rfl,_⟩:=h
  rfl
 ·obtain⟨x,p,s,t,y,i,rfl,⟨l,n⟩,g,k⟩:=h
  obtain⟨j,_⟩:=a.fg [0];obtain rfl:=a.fK;exact⟨_,ag<|aw<|bo (a.b T.b_list) bD eF<|aj<|cb<|aa j,_,rfl,x,C,l,_,_,rfl,n,T.cl,T.nP,Mm _ _ _ _,_,_,rfl,.inl<|cN.of g,k⟩
def vD:cK ["hour","floor"] ["hour","floor"] (cI kN):={}
def xq (D:Df K mg "is_above" kN ["hour","floor"] f fd):Gd P w K mg base 1 "is_above" o4:=by
 refine aG D vD λX H j Q E g h=>?_;obtain⟨h,f,rfl,k⟩:=h;obtain⟨i,a,_⟩:=g.fg [0,1];refine⟨_,ag<|aw<|aV (ba J.oR (aa a) bL<|cM _)<|a8<|ba bR (aa i) (aa a)<|cM _,?_⟩;cases f with
 |none=>exact⟨_,rfl,rfl,_,rfl,iN k⟩
 |some m=>exact⟨_,rfl,rfl,_,rfl,fH (by rw[UM,Wr];intro e;cases e) ⟨_,rfl,_,rfl,_,_,rfl,rfl,k⟩⟩
def nM:cK ["book","floors","person"] ["book"] (cI gb):={}
def AO (D:Df K mg "floors_of_all" gb ["book"] f fd) (T:Txt K mg kw C) (R:Md P w K mg base 1 C "persons" (dC C λp _ _ _=>p)) (O:Gd P w K mg base 2 "floor_of" (Ay C)):Gd P w K mg base 3 "floors_of_all" (pX C):=by
 refine aG D nM λX H vs Q E m h=>?_;obtain⟨x,p,s,t,y,A,ss,ts,ys,sd,rfl,bk,pl,sy,XO,k⟩:=h;have XH:=Q0;obtain⟨⟨dx,Z⟩,hp,hs,ht,hy⟩:=id bk;obtain⟨W,S,N,_⟩:=m.fg [0,1,2];refine⟨_,(af (au S m.nd J.ki)
 (af (aZ m.own m.calm (aQ<|bE (m.met R<|by decide) (aa W) rfl) (aN N m.nd)
 (ag<|bN (d5 m.room) (aa S) (aa N)<|ak (m.gN O rfl (by lia)<|by decide)<|aB (aa W)<|aa N))
 (ag<|aw<|aa S))),?_⟩
 refine λd q=>?_;have I:=cH.upd (o:=.dK []) q;have B:upd H d (.dK []) d=some (.dK []):=cE;refine⟨_,rfl,x,dx,_,rfl,I _ _ Z,fZ _ _ _ _ (by decide+kernel) (by decide+kernel) (by decide+kernel)<|by decide+kernel,x,p,s,t,y,_,rfl,⟨dx,I _ _ Z⟩,I _ _ hp,λl Y=>?_⟩;have M:=cH.upd (o:=.lst<|A.map V.str) Y;have ld:=(cF B Y).symm;refine⟨l,rfl,⟨_,cN.of cE⟩,c6 (xs:=A.map V.str) (λi σ r=>∃(j:Xm (Key×V)) (e:Xk V),σ=[some<|.ref x,some<|.ref d,e]/\cH H r/\r l=some (.lst<|A.map V.str)/\r d=some (.dK j)/\j.length<=i/\∀z∈A.take i,dS j (Sum.inr z)=some (oV<|floorOf z sd))
  ⟨[],none,rfl,I.trans M,cE,M _ _ B,QJ 0,λz G=>by cases G⟩ ?_ ?_ ?_⟩
 ·rintro i σ r hi ⟨j,e,rfl,M,a,_⟩
  exact cN.of a
 ·rintro i v σ r hv ⟨j,e,rfl,F,a,n,kl,L⟩
  rw[QR]at hv;obtain⟨z,G,rfl⟩:=Rt.mp hv;have hi:=(gI0.mp G).1;refine⟨_,rfl,_,rfl,x,p,s,t,y,A,ss,ts,ys,z,sd,rfl,bk.mono F,sy.mono<|Tk.of F,XO,λH5 U=>?_⟩;refine⟨_,rfl,_,rfl,d,_,rfl,j8.k (k:=Sum.inr z) (U _ _ n)<|by lia,_,_,rfl,λb o e=>?_,?_,cE,?_,λz' g=>?_⟩
  ·rw[cG<|cF e q]
   exact U _ _<|F _ _ e
  ·rw[cG ld]
   exact U _ _ a
  ·have:=dj j (Sum.inr z:Key) (oV<|floorOf z sd)
   lia
  ·rw[cP]
   by_cases c:(Sum.inr z':Key)=Sum.inr z
   ·grind
   ·rw[QG c]
    rw[RE,G,Rg]at g;obtain g|g:=g
    ·grind
    ·grind
 ·rintro σ r ⟨j,e,rfl,F,a,n,kl,L⟩
  rw[QF,RR]at L;exact⟨_,rfl,k d r F q ⟨j,n,L⟩⟩
def Lz{α:Type}(R:Hp->V->α->Prop)(H:Hp)(xs:Xm V)(ds:Xm α):Prop:=xs.length=ds.length/\∀(i:Nat) v d,xs[i]? =some v->ds[i]? =some d->R H v d
def Lz.mono(m:∀v d,R H v d->R H' v d)(h:Lz R H xs ds):Lz R H' xs ds:=⟨h.1,λi v d e a=>m v d<|h.2 i v d e a⟩
def Lz.at{i:Nat}{v:V}(h:Lz R H xs ds)(e:xs[i]? =some v):∃d,ds[i]? =some d/\R H v d:=by
 have a:i<ds.length:=by
  rw[<-h.1];grind
 exact⟨ds[i],QB a,h.2 i v ds[i] e (QB a)⟩
theorem tJ{α:Type}{R:Hp->V->α->Prop}{H:Hp}{Ok:α->Prop}:∀{xs:Xm V},(∀v∈xs,∃d,R H v d/\Ok d)->∃ds,Lz R H xs ds/\∀d∈ds,Ok d
 |[],_=>⟨[],⟨rfl,λi v d n=>by cases n⟩,λd m=>by cases m⟩
 |v::r,h=>by
  obtain⟨ds,⟨l,g⟩,k⟩:=tJ λu f=>h u<|Ry _ f;obtain⟨d,m,o⟩:=h v<|Ru ..;refine⟨d::ds,⟨by rw[Rz,Rz,l],λi u e f a=>?_⟩,λe a=>?_⟩
  ·cases i with
   |zero=>
    cases f;cases a;exact m
   |succ j=>exact g j u e f a
  ·obtain rfl|a:=Rf.mp a
   ·exact o
   ·exact k e a
abbrev GD:=Xn×Int
inductive dI  (H:Hp)(v:V)(d:GD):Prop
 |mk(a ta:Xg)(h0:v=.ref a)(e:H a=some (.tup [.str d.1,.int d.2,.ref ta]))
def dI.mono(s:Tk H H')(v:V)(d:GD)(h:dI H v d):dI H' v d:=by
 obtain⟨a,f,e,g⟩:=h;exact⟨a,f,e,s _ _ g⟩
def xB(h:∀v∈ss,dQ ps H v):∃f,Lz dI H ss f/\∀d∈f,d.1∈ps/\dv d.2:=
 tJ λv g=>by
  obtain⟨a,z,i,l,o,e,j,n,m,_⟩:=h v g;exact⟨(z,i),⟨a,l,e,j⟩,n,m⟩
def cS(sd:Xm SD)(d:GD):Bool:=eS d.2<|floorOf d.1 sd
def lq(a:Xm GD)(sd:Xm SD)(n:Nat):Xm V:=((List.range n).filter<|oe a<|cS sd).map λi=>V.int (i:Nat)
def y8(a:Xm GD)(sd:Xm SD)(n:Nat):(lq a sd n).length<=n:=by
 unfold lq;grind
inductive La(C:Xg)(vs:Xm V)(H:Hp)(Q:VK):Prop
 |mk(x p s t y:Xg)(ps:Xm Xn)(ss f ys:Xm V)(a:Xm GD)(sd:Xm SD)(e:vs=[.ref x])(bk:Bk C H x p s t y ps ss f ys)(h:ps.length<=24)(sl:ss.length<=24)(i:Lz dI H ss a)(g:∀d∈a,d.1∈ps)(j:Sys H ys sd)(l:ys.length<=60)
   (k:∀l H',cH H H'->H l=none->H' l=some (.lst (lq a sd a.length))->Q (.ref l) H')
def tZ(C:Xg):Sp:=λa H Q _=>La C a H Q
def wj:cK ["self"] ["self"] (cI fF):={}
def wm (F:qS K "sights" "Book.sights" fF f fd) (m:Meth K C "sights" f) (bi:Binds K fd ["self"] []) (T:Txt K mg kw C):Md P w K mg base 1 C "sights" (dC C λ_ s _ _=>s):=by
 refine cq F m bi T.cl wj (λe H Q E h=>?_) λX H e Q E a h=>?_
 ·obtain⟨x,p,s,t,y,i,rfl,_⟩:=h
  rfl
 ·obtain⟨x,p,s,t,y,i,rfl,⟨l,n⟩,g,k⟩:=h
  obtain⟨j,_⟩:=a.fg [0];obtain rfl:=a.fK;exact⟨_,ag<|aw<|bo (a.b T.b_list) bD eF<|aj<|cb<|aa j,_,rfl,x,C,l,_,_,rfl,n,T.cl,T.nS,MX _ _ _ _,_,_,rfl,.inl<|cN.of g,k⟩
def qG:cK ["book","floors"] ["book"] (cI gU):={}
def qp {fd:FuncData}(D:Df K mg "open_sights" gU ["book"] f fd) (T:Txt K mg kw C) (O:Md P w K mg base 1 C "sights" (dC C λ_ s _ _=>s)) (N:Gd P w K mg base 3 "floors_of_all" (pX C)) (M:Gd P w K mg base 1 "is_above" o4):Gd P w K mg base 4 "open_sights" (tZ C):=by
 refine aG D qG λX H vs Q E j h=>?_;obtain⟨x,p,s,t,y,ps,m,ts,ys,B,sd,rfl,bk,pl,sl,gs,gp,sy,XO,k⟩:=h;have XH:=Q0;obtain⟨Y,S1,_⟩:=j.fg [0,1];refine⟨_,(af (au S1 j.nd<|ak (j.gN N rfl (by lia)<|by decide)<|aj<|aa Y)
 (ag<|aw<|bB (is:=[1]) (xs:=["i","sight"]) (ns:=["floors"]) j.calm (J.oS (j.b T.b_enumerate)<|aj<|bE (j.met O<|by decide) (aa Y) rfl) {} (λ_ _ _ _ _=>J.uV (n:=2) j.calm<|aT (a6 (i:=0))<|aT (a6 (i:=1)) bH) (λ_ _ _ _ _=>bC<|bh<|ak ((j.we M (by lia)<|by decide).lg rfl)<|aB (ai bp (aM (i:=1)) ae ah)<|aK (d5 j.room) (aS (i:=2)) (ai bp (aM (i:=1)) ae ah) cv) (λ_ _ _ _ _=>aM (i:=0)) j.hsc j.hN)),?_⟩
 refine⟨_,rfl,x,p,s,t,y,ps,m,ts,ys,sd,rfl,bk,pl,sy,XO,λd H1 F dn fl=>?_⟩;obtain⟨⟨dx,hx⟩,hp,hs,ht,hy⟩:=bk.mono F;refine⟨_,rfl,x,dx,_,rfl,hx,fZ _ _ _ _ (by decide+kernel) (by decide+kernel) (by decide+kernel)<|by decide+kernel,x,p,s,t,y,m,rfl,⟨dx,hx⟩,hs,λl hl=>?_⟩;have L:=cH.upd (o:=.lst m) hl;refine⟨l,rfl,⟨_,cN.of cE⟩,CV (xs:=m) (oe B<|cS sd) (λi=>V.int (i:Nat)) (cN.of cE) (by lia) ?_ ?_⟩
 ·intro i os v q H2 K1 K2 hv R s3 hq W k2
  match os,R with
  |[o1,o2],_=>
   obtain⟨g,Z,a,ta,rfl,ha⟩:=gs.at hv;rw[qD Z]at W k2;have G:=cH.upd (o:=.tup [.int i,.ref a]) hq;have z:=(L.trans s3).trans G;have r:=z _ _<|F _ _ ha;obtain⟨Xu,S,hk⟩:=fl.mono z;have dg:dJ (upd H2 q<|.tup [.int i,.ref a]) d (.str g.1) (some<|oV<|floorOf g.1 sd):=by
    rw[<-hk g.1 (gp g<|QH Z)];exact dJ.k (k:=Sum.inr g.1) S
   refine⟨q,_,rfl,fh.of cE,rfl,_,_,rfl,_,_,rfl,rfl,⟨[_,_],rfl,rfl⟩,_,rfl,xT r rfl ⟨_,rfl,_,rfl,xT r rfl ⟨d,_,rfl,dg,g.2,floorOf g.1 sd,rfl,_,rfl,dF (λI=>⟨_,rfl,W I _ G⟩) λI=>k2 (UA I) _ G⟩⟩⟩
 ·intro D' H' U s' A
  have e:((List.range m.length).filter<|oe B<|cS sd).map (λi=>V.int (i:Nat))=lq B sd B.length:=by
   rw[gs.1];rfl
  rw[e]at A;exact k D' H' ((F.trans L).trans s') ((F.trans L).free U) A
def lS(z:Xn):SD->Bool
 |.sil q _ _=>decide<|q=z
 |_=>false
def oj(h:Int):SD->Bool
 |.sil _ b e=>if b<=h then decide (h<=e) else false
 |_=>false
def qz(z:Xn)(h:Int)(d:SD):Bool:=lS z d&&oj h d
def vQ(he a:Xn):SD->Bool
 |.bar p q=>decide (p=he)&&decide (q=a)
 |_=>false
theorem wV{α β:Type}{f:α->Bool}{g:β->Bool}:∀{xs:Xm α}{ds:Xm β},xs.length=ds.length->(∀(i:Nat) v d,xs[i]? =some v->ds[i]? =some d->f v=g d)->xs.any f=ds.any g
 |[],[],_,_=>rfl
 |[],_::_,h,_=>by cases h
 |_::_,[],h,_=>by cases h
 |x::xs,d::ds,h,k=>by
  rw[Tg,Tg,k 0 x d rfl rfl,wV (Ss h) λi v e a j=>k (i+1) v e a j]
theorem AG{α β:Type}:∀{xs:Xm α}{ds:Xm β}{i:Nat}{p:α×β},(xs.zip ds)[i]? =some p->xs[i]? =some p.1/\ds[i]? =some p.2
 |[],_,_,_,h=>by cases h
 |_::_,[],_,_,h=>by cases h
 |x::xs,d::ds,i,p,h=>by
  cases i with
  |zero=>
   cases h;exact⟨rfl,rfl⟩
  |succ j=>
   have a:(xs.zip ds)[j]? =some p:=h;exact AG (xs:=xs) (ds:=ds) (i:=j) a
theorem yk{α β:Type}:∀{xs:Xm α}{ds:Xm β}{i:Nat}{v:α}{d:β},xs[i]? =some v->ds[i]? =some d->(xs.zip ds)[i]? =some (v,d)
 |[],_,_,_,_,h,_=>by cases h
 |_::_,[],_,_,_,_,h=>by cases h
 |x::xs,e::ds,i,v,d,h,h'=>by
  cases i with
  |zero=>
   cases h;cases h';rfl
  |succ j=>exact yk (xs:=xs) (ds:=ds) (i:=j) h h'
theorem zp{α β:Type}(f:β->Bool):∀{xs:Xm α}{ds:Xm β},xs.length=ds.length->((xs.zip ds).any λp=>f p.2)=ds.any f
 |[],[],_=>rfl
 |[],_::_,h=>by cases h
 |_::_,[],h=>by cases h
 |x::xs,d::ds,h=>by
  show(f d||(xs.zip ds).any λp=>f p.2)=(f d||ds.any f);rw[zp f<|Ss h]
inductive OA(vs:Xm V)(H:Hp)(Q:VK):Prop
 |mk(y:Xg)(ys:Xm V)(z:Xn)(h:Int)(sd:Xm SD)(e:vs=[.ref y,.str z,.int h])(a:H y=some (.lst ys))(f:Sys H ys sd)(l:ys.length<=60)(k:∀H',cH H H'->Q (.bl (sd.any (qz z h))) H')
def zD:Sp:=λa H Q _=>OA a H Q
inductive OI(vs:Xm V)(H:Hp)(Q:VK):Prop
 |mk(y:Xg)(ys:Xm V)(he a:Xn)(sd:Xm SD)(e:vs=[.ref y,.str he,.str a])(f:H y=some (.lst ys))(g:Sys H ys sd)(k:∀H',cH H H'->Q (.bl (sd.any (vQ he a))) H')
def zj:Sp:=λa H Q _=>OI a H Q
def jv(d:SD):d.tup.all dO=true:=by
 cases d with
 |unh q h=>cases h<;>rfl
 |_=>rfl
def Ah(he a:Xn)(d:SD):Fh d.tup [.str "barred",.str he,.str a]=vQ he a d:=by
 cases d with
 |knew p h=>exact U7.mpr (λh=>absurd h (by
   rw[Se];intro k;exact absurd (k 0<|Sk.mpr<|lt_min.mpr ⟨Vw _,Vw _⟩)<|by show ¬(("knew" :Xn) == "barred")=true;decide+kernel))
 |unh p h=>exact U7.mpr (λh=>absurd h (by
   rw[Se];intro k;exact absurd (k 0<|Sk.mpr<|lt_min.mpr ⟨Vw _,Vw _⟩)<|by show ¬(("unheard" :Xn) == "barred")=true;decide+kernel))
 |sil p b e=>exact U7.mpr (λh=>absurd h (by
   rw[Se];intro k;exact absurd (k 0<|Sk.mpr<|lt_min.mpr ⟨Vw _,Vw _⟩)<|by show ¬(("silent" :Xn) == "barred")=true;decide+kernel))
 |bar p q=>
  show((("barred" :Xn) == "barred")&&((p==he)&&((q==a)&&true))&&true)=(decide (p=he)&&decide (q=a));rw[show(("barred" :Xn) == "barred")=true from RS _,R6,Ul,Ul]
  congr 1<;>exact beq_eq_decide _ _
def Gv(h:By H v d):Ov H xs v=Fh d.tup xs:=by
 obtain⟨a,rfl,e⟩:=h;show(match H a with|some (.tup zs)=>Fh zs xs|_=>false)=_;rw[e]
def ud:cK ["sayings","person","hour","own"] ["sayings","person","hour"] (cI jD):={}
def vi {fd:FuncData}(D:Df K mg "is_silent" jD ["sayings","person","hour"] f fd) (T:Txt K mg kw C):Gd P w K mg base 1 "is_silent" zD:=by
 refine aG D ud λX H vs Q E j h=>?_;obtain⟨y,m,z,h,sd,rfl,hy,L,XO,k⟩:=h;have XH:=Q0;obtain⟨S0,S1,S2,S3,_⟩:=j.fg [0,1,2,3];refine⟨_,(af (bY (is:=[1]) (xs:=["saying"]) (ns:=["person"]) S3 j.nd j.calm (aQ<|aa S0) {} (λ_ _ _ _ _=>a6 (i:=0)) (λ_ _ _ _ _=>bC<|a7<|bg (aF aO (ai bp (aM (i:=0)) ae ah) ao<|cM _)<|bq<|aF aO (ai bp (aM (i:=0)) ae ah) (aS (i:=1))<|cM _) (λ_ _ _ _ _=>aM (i:=0)) j.hsc j.hN (by decide+kernel))
 (ag<|aw<|aJ (j.b T.b_any) (J.mE j.calm) Km<|aj<|bB (is:=[2]) (xs:=["saying"]) (ns:=["hour"]) j.calm (aQ<|aa S3) {} (λ_ _ _ _ _=>a6 (i:=0)) (λ_ _ _ _ _=>bU) (λ_ _ _ _ _=>J.jT bG bG (ai bp (aM (i:=0)) ae ah) (aS (i:=1)) (ai bp (aM (i:=0)) ae ah) kO) j.hsc j.hN)),?_⟩
 have zl:(m.zip sd).length=m.length:=by
  rw[WT,<-L.1,min_self]
 refine⟨_,rfl,y,rfl,⟨_,cN.of hy⟩,wZ (xs:=m) (oe (m.zip sd) λp=>lS z p.2) (Jf (m.zip sd) λp=>p.1) (cN.of hy) (by lia) ?_ ?_⟩
 ·intro i O v n K1 K2 F A R x r
  match O,A with
  |[o],_=>
   obtain⟨d,a,Z,rfl,Y⟩:=L.at F;have g:=R _ _ Y;rw[qD<|yk F Z]at x r;rw[EN<|yk F Z]at x;refine⟨⟨[some<|.ref a],rfl,rfl⟩,?_⟩;cases d with
   |knew q h=>exact⟨_,rfl,xT g rfl ⟨rfl,_,rfl,iN<|dH<|r rfl n<|cH.refl _⟩⟩
   |unh q h=>exact⟨_,rfl,xT g rfl ⟨rfl,_,rfl,iN<|dH<|r rfl n<|cH.refl _⟩⟩
   |bar q q'=>exact⟨_,rfl,xT g rfl ⟨rfl,_,rfl,iN<|dH<|r rfl n<|cH.refl _⟩⟩
   |sil q b e=>
    refine⟨_,rfl,xT g rfl ⟨rfl,_,rfl,iP ⟨_,rfl,xT g rfl ⟨_,rfl,rfl,_,rfl,dF (λN=>?_) λN=>?_⟩⟩⟩⟩
    ·have W:=V.str.inj (QO N)
     exact⟨_,rfl,x (dT0 W) n<|cH.refl _⟩
    ·exact r (QM λe=>N<|dT0<|RH V.str e) n<|cH.refl _
 ·intro o H' ho s' s
  rw[<-zl,pV (λp=>lS z p.2) (λp=>p.1)<|m.zip sd]at s;have om:∀p∈(m.zip sd).filter λp=>lS z p.2,By H p.1 p.2/\lS z p.2=true:=λp I=>by
   obtain⟨M,S⟩:=QV.mp I;obtain⟨i,hi⟩:=QZ M;obtain⟨h1,h2⟩:=AG hi;exact⟨L.2 i _ _ h1 h2,S⟩
  have ol:((m.zip sd).filter λp=>lS z p.2).length<=60:=by grind
  have ev:(((m.zip sd).filter λp=>lS z p.2).any λp=>oj h p.2)=sd.any (qz z h):=by
   rw[List.any_filter];exact zp (λd=>lS z d&&oj h d) L.1
  generalize (m.zip sd).filter (λp=>lS z p.2)=l at s om ol ev;refine⟨_,rfl,o,rfl,⟨_,cN.of s⟩,wZ (xs:=l.map λp=>p.1) (oe l λ_=>true) (Jf l λp=>V.bl<|oj h p.2) (cN.of s) (by grind) ?_ ?_⟩
  ·intro i O v n K1 K2 F A R x r
   match O,A with
   |[o],_=>
    rw[QR]at F;obtain⟨p,I,rfl⟩:=Rt.mp F;obtain⟨⟨a,ea,Y⟩,U⟩:=om p<|QH I;have g:=R _ _<|s' _ _ Y;rw[qD I]at x;rw[EN I]at x;have kk:=x rfl;refine⟨⟨[some p.1],rfl,rfl⟩,fO (B:=K2 n) ?_⟩;obtain⟨v,d⟩:=p;subst ea;cases d with
    |sil q b e=>
     refine⟨_,rfl,xT g rfl ⟨_,rfl,_,_,rfl,rfl,_,rfl,?_⟩⟩;have r:K1 (V.bl<|if b<=h then decide (h<=e) else false) n:=kk n<|cH.refl _;refine dF (λhb=>?_) λhb=>?_
     ·rw[QI<|QO hb]at r
      exact⟨_,rfl,xT g rfl ⟨_,_,rfl,rfl,r⟩⟩
     ·grind
    |knew q h=>exact absurd U bF0
    |unh q h=>exact absurd U bF0
    |bar q q'=>exact absurd U bF0
  ·intro D2 H3 ab s3 G
   have e2:((List.range (l.map λp=>p.1).length).filter<|oe l λ_=>true).map (Jf l λp=>V.bl<|oj h p.2)=(l.map λp=>oj h p.2).map V.bl:=by
    rw[QF,pV (λ_=>true) (λp=>V.bl<|oj h p.2) l,Vj.mpr λ_ _=>rfl,Tc];rfl
   rw[e2]at G;refine⟨D2,_,rfl,cN.of G,?_⟩;have e3:(l.map λp=>oj h p.2).any id=sd.any (qz z h):=by simp_all
   rw[e3];exact k H3<|s'.trans s3
def tO:cK ["sayings","hearer","teller"] ["sayings","hearer","teller"] (cI jw):={}
def ub {fd:FuncData}(D:Df K mg "is_barred" jw ["sayings","hearer","teller"] f fd):Gd P w K mg base 1 "is_barred" zj:=by
 refine aG D tO λX H L Q E n h=>?_;obtain⟨y,F,p,m,sd,rfl,B,x,k⟩:=h;obtain⟨s,G,A,_⟩:=n.fg [0,1,2];refine⟨_,ag<|aw<|ba (J.lu<|d5 n.room) (aL<|aP ao (aa G)<|aa A) (aa s) b6,?_⟩;refine⟨_,rfl,_,rfl,uA,λq z=>?_⟩;have j:=cH.upd (o:=.tup [.str "barred",.str p,.str m]) z;have g:=x.mono<|Tk.of j;refine⟨_,rfl,q,y,_,F,rfl,rfl,cE,cN.of<|j _ _ B,rfl,λv l=>?_,?_⟩
 ·obtain⟨i,C⟩:=QZ l
  obtain⟨d,a,_,e,I⟩:=g.at C;exact⟨a,d.tup,e,I,jv d⟩
 ·rw[wV g.1 λi v d l r=>(Gv<|g.2 i v d l r).trans<|Ah p m d]
  exact k _ j
abbrev QD:=Int×Xn×Xn×Xn
inductive dz  (H:Hp)(v:V)(d:QD):Prop
 |mk(a:Xg)(h0:v=.ref a)(e:H a=some (.tup [.int d.1,.str d.2.1,.str d.2.2.1,.str d.2.2.2]))
def dz.mono(s:Tk H H')(v:V)(d:QD)(h:dz H v d):dz H' v d:=by
 obtain⟨a,e,f⟩:=h;exact⟨a,e,s _ _ f⟩
def lV(ps:Xm Xn)(d:QD):Prop:=dv d.1/\d.2.1∈ps/\d.2.2.1∈ps/\(d.2.2.2= "both" \/d.2.2.2= "one")
def Jy(h:∀v∈ts,eW ps H v):∃f,Lz dz H ts f/\∀d∈f,lV ps d:=
 tJ λv m=>by
  obtain⟨a,i,p,q,w,e,n,o,g,l,_,j⟩:=h v m;exact⟨(i,p,q,w),⟨a,e,n⟩,o,g,l,j⟩
def fA(a:Xm QD):Xm TD:=a.map λd=>d.2
def CB(h:Lz dz H ts qd):MW H ts (fA qd):=by
 refine⟨by rw[h.1];exact(QF ..).symm,λi v d j f=>?_⟩;unfold fA at f;rw[QR]at f;obtain⟨q,g,rfl⟩:=Rt.mp f;obtain⟨a,e,l⟩:=h.2 i v q j g;exact⟨a,q.1,e,l⟩
def cJ(a:Xm QD)(k:Nat):Int:=match a[k]? with
 |some d=>d.1
 |none=>0
def fe(h:qd[k]? =some d):cJ qd k=d.1:=by
 unfold cJ;rw[h]
abbrev TK:=Nat×Xn×Xn
def c4(a:Xm QD)(sd:Xm SD)(t:TK):Bool:=eS (cJ a t.1) (floorOf t.2.2 sd) && !(sd.any (qz t.2.1<|cJ a t.1)||sd.any (vQ t.2.2 t.2.1))
theorem lK{t:TK}:∀{l:Xm TD}{k:Nat},t∈fD k l->∃(j:Nat) (d:TD),l[j]? =some d/\t.1=k+j/\(t.2=(d.1,d.2.1)\/t.2=(d.2.1,d.1))
 |[],_,h=>by cases h
 |d::r,k,h=>by
  obtain h|h:=Rg.mp h
  ·refine⟨0,d,rfl,?_⟩
   unfold dR at h;split at h
   ·grind
   ·grind
  ·obtain⟨j,e,a,g,f⟩:=lK h
   exact⟨j+1,e,a,by lia,f⟩
def OF(ok:∀d∈qd,lV ps d)(h:t∈fD 0 (fA qd)):∃q,qd[t.1]? =some q/\t.2.2∈ps:=by
 obtain⟨j,d,e,g,a⟩:=lK h;unfold fA at e;rw[QR]at e;obtain⟨q,f,rfl⟩:=Rt.mp e;rw[T9]at g;have:=ok q<|QH f;refine⟨q,by rw[g];exact f,?_⟩;obtain a|a:=a
 ·rw[a]
  exact this.2.2.1
 ·rw[a]
  exact this.2.1
def HK(e f:Bool)(j:∀a:VK,(∀H',cH H H'->a (.bl e) H')->ta σ H a)(i:∀H1 (a:VK),cH H H1->(∀H',cH H1 H'->a (.bl f) H')->tb σ H1 a)(q:∀H',cH H H'->Q (.bl<|e||f) H'):Hc ta tb σ H Q:=by
 refine j _ λH1 g=>⟨_,rfl,?_⟩;cases e with
 |true=>grind
 |false=>exact dH<|i H1 _ g λH' h=>q H'<|g.trans h
def JM(e f:Bool)(h:∀a:VK,(∀H',cH H H'->a (.bl e) H')->ta (σ.set i<|some v) H a)(g:∀H1 (a:VK),cH H H1->(∀H',cH H1 H'->a (.bl f) H')->tb (σ.set i<|some v) H1 a)
  (q:∀H',cH H H'->u D ((σ.set i<|some v).set j<|some<|.bl<|e||f) H'):eU i v σ H (C8 (vN (Hc ta tb)<|eU j) u D):=HK e f h g q
inductive Ll(C:Xg)(vs:Xm V)(H:Hp)(Q:VK):Prop
 |mk(x p s t y:Xg)(ps:Xm Xn)(ss f ys:Xm V)(a:Xm QD)(sd:Xm SD)(e:vs=[.ref x])(bk:Bk C H x p s t y ps ss f ys)(j:ps.length<=24)(g:f.length<=120)(h:Lz dz H f a)(i:∀d∈a,lV ps d)(m:Sys H ys sd)(l:ys.length<=60)
   (k:∀l us H',cH H H'->H l=none->H' l=some (.lst us)->dW H' us ((fD 0 (fA a)).filter (c4 a sd))->Q (.ref l) H')
inductive Me(x tb g d f:Xg)(q:Hp)(j:Xm TK)(op:TK->Bool)(i:Nat)(σ:St)(a:Hp):Prop
 |mk(us:Xm V)(l p m n h:Xk V)(e:σ=[some (.ref x),some (.ref tb),some (.ref g),some (.ref d),some (.ref f),l,p,m,n,h])(r:∀b o,q b=some o->b≠f->a b=some o)(hf:a f=some (.lst us))(ul:us.length<=i)(s:dW a us ((j.take i).filter op))
def uP(C:Xg):Sp:=λa H Q _=>Ll C a H Q
def yd:cK ["self"] ["self"] (cI gF):={}
def yj (F:qS K "talks" "Book.talks" gF f fd) (m:Meth K C "talks" f) (bi:Binds K fd ["self"] []) (T:Txt K mg kw C):Md P w K mg base 1 C "talks" (dC C λ_ _ t _=>t):=by
 refine cq F m bi T.cl yd (λe H Q E h=>?_) λX H e Q E a h=>?_
 ·obtain⟨x,p,s,t,y,i,rfl,_⟩:=h
  rfl
 ·obtain⟨x,p,s,t,y,i,rfl,⟨l,n⟩,g,k⟩:=h
  obtain⟨j,_⟩:=a.fg [0];obtain rfl:=a.fK;exact⟨_,ag<|aw<|bo (a.b T.b_list) bD eF<|aj<|cb<|aa j,_,rfl,x,C,l,_,_,rfl,n,T.cl,T.nT,IX _ _ _ _,_,_,rfl,.inl<|cN.of g,k⟩
def mI:cK ["book","talks","sayings","floors","found","k","teller","hearer","hour","hushed"] ["book"] (cI fX):={}
def nK (D:Df K mg "open_tellings" fX ["book"] f fd) (T:Txt K mg kw C) (bd:Md P w K mg base 1 C "talks" (dC C λ_ _ t _=>t)) (be:Md P w K mg base 1 C "sayings" (dC C λ_ _ _ y=>y)) (bb:Md P w K mg base 1 C "tellings" (i5 C))
  (bm:Gd P w K mg base 3 "floors_of_all" (pX C)) (bx:Gd P w K mg base 1 "is_above" o4) (a3:Gd P w K mg base 1 "is_silent" zD) (b2:Gd P w K mg base 1 "is_barred" zj):Gd P w K mg base 4 "open_tellings" (uP C):=by
 refine aG D mI λX H vs Q E l h=>?_;obtain⟨x,p,s,t,y,ps,ss,S,O,A,sd,rfl,bk,pl,tl,qs,qk,sy,XO,k⟩:=h;have XH:=Q0;obtain⟨⟨dx,hx⟩,hp,hs,ht,hy⟩:=id bk;obtain⟨S0,S1,S2,S3,S4,S5,S6,S7,S8,S9,_⟩:=l.fg [0,1,2,3,4,5,6,7,8,9];refine⟨_,(af (au S1 l.nd<|bE (l.met bd<|by decide) (aa S0) rfl)
 (af (au S2 l.nd<|bE (l.met be<|by decide) (aa S0) rfl)
 (af (au S3 l.nd<|ak (l.gN bm rfl (by lia)<|by decide)<|aj<|aa S0)
 (af (au S4 l.nd<|a5 bz)
 (af (aZ l.own l.calm (aQ<|bE (l.met bb<|by decide) (aa S0) rfl) (bO l.calm<|aT (aN S5 l.nd)<|aT (aN S6 l.nd)<|aT (aN S7 l.nd) bH)
 (af (au S8 l.nd<|ai aE (ai aU (aa S1) (aa S5) aR) ae ah)
 (af (au S9 l.nd<|J.Af (ak (l.gN a3 rfl (by lia)<|by decide)<|aP (aa S2) (aa S6)<|aa S8)<|a8<|ak (l.gN b2 rfl (by lia)<|by decide)<|aP (aa S2) (aa S7)<|aa S6)
 (ag (aH (a7<|bg (bh<|ak (l.gN bx rfl (by lia)<|by decide)<|aB (aa S8)<|aK (d5 l.room) (aa S3) (aa S7) aR)<|bq<|bu<|J.Ap<|aa S9)
 (ag<|br<|bw RV Rq Rv bF (aa S4)<|aj<|aL<|aP (aa S5) (aa S6)<|aa S7)
 aI)))))
 (ag<|aw<|aa S4)))))),?_⟩
 refine⟨_,rfl,x,dx,_,rfl,hx,fZ _ _ _ _ (by decide+kernel) (by decide+kernel) (by decide+kernel)<|by decide+kernel,x,p,s,t,y,S,rfl,⟨dx,hx⟩,ht,λtb a9=>?_⟩;have s1:=cH.upd (o:=.lst S) a9;have I:upd H tb (.lst S) tb=some (.lst S):=cE;generalize upd H tb (.lst S)=H1 at s1 I;refine⟨_,rfl,x,dx,_,rfl,s1 _ _ hx,fZ _ _ _ _ (by decide+kernel) (by decide+kernel) (by decide+kernel)<|by decide+kernel,x,p,s,t,y,O,rfl,⟨dx,s1 _ _ hx⟩,s1 _ _ hy,λyb a4=>?_⟩;have s2:=cH.upd (o:=.lst O) a4;have M:upd H1 yb (.lst O) yb=some (.lst O):=cE;generalize upd H1 yb (.lst O)=H2 at s2 M;have al:=s1.trans s2;refine⟨_,rfl,x,p,s,t,y,ps,ss,S,O,sd,rfl,bk.mono al,pl,sy.mono<|Tk.of al,XO,λd H3 s3 dn fl=>?_⟩;have a2:=al.trans s3;refine⟨Hd,λG L=>?_⟩;have s4:=cH.upd (o:=.lst []) L;have B:=a2.trans s4;have r:upd H3 G (.lst []) G=some (.lst []):=cE;have ac:H G=none:=a2.free L;have as:=fl.mono s4;have W:=s4 _ _<|s3 _ _<|s2 _ _ I;have U:=s4 _ _<|s3 _ _ M;have ap:tb≠G:=cF (s3 _ _<|s2 _ _ I) L;have am:yb≠G:=cF (s3 _ _ M) L;have bn:d≠G:=by
  obtain⟨Xu,e,_⟩:=fl;exact cF e L
 generalize upd H3 G (.lst [])=H4 at s4 B r as W U;refine⟨_,rfl,x,dx,_,rfl,B _ _ hx,fZ _ _ _ _ (by decide+kernel) (by decide+kernel) (by decide+kernel)<|by decide+kernel,x,p,s,t,y,ps,ss,S,O,fA A,rfl,bk.mono B,(CB qs).mono<|Tk.of B,tl,λm vs H5 s5 mn hm tm=>?_⟩;have bi:m≠G:=(cF r mn).symm;have ml:vs.length<=240:=by
  have:=iZ (fA A) 0;have:=tm.1;have:=(CB qs).1;lia
 refine⟨m,rfl,⟨_,cN.of hm⟩,c6 (K:=X.K) (a:=m) (xs:=vs) (Me x tb yb d G H5 (fD 0<|fA A)<|c4 A sd)
  ⟨[],none,none,none,none,none,rfl,λb o e _=>e,s5 _ _ r,QJ 0,dW.nil⟩ ?_ ?_ ?_⟩
 ·rintro i σ H6 hi ⟨R,e1,e2,e3,e4,e5,rfl,N,_⟩
  exact cN.of<|N _ _ hm bi
 ·rintro i v σ H6 hv ⟨R,e1,e2,e3,e4,e5,rfl,N,ad,ul,tu⟩
  have hi:i<vs.length:=(gI0.mp hv).1;obtain⟨g,X4⟩:∃g,(fD 0<|fA A)[i]? =some g:=⟨_,QB<|by rw[<-tm.1];exact hi⟩;obtain⟨a,rfl,ha⟩:=tm.2 i v g hv X4;obtain⟨q,hq,bf⟩:=OF qk<|QH X4;have a0:∀b xs,H b=some (.tup xs)->H6 b=some (.tup xs):=λb xs e=>N b _ (s5 _ _<|B _ _ e)<|cF e ac;have bv:=N _ _ ha (pG ha (s5 _ _ r)<|by intro z;cases z);have ar:=N _ _ (s5 _ _ W) ap;have Y:=N _ _ (s5 _ _ U) am;obtain⟨Xu,Z,hk⟩:=as;have Z:=N _ _ (s5 _ _ Z) bn;obtain⟨vq,ay⟩:∃vq,S[g.1]? =some vq:=⟨_,QB<|by rw[qs.1];exact(gI0.mp hq).1⟩;obtain⟨aq,rfl,b0⟩:=qs.2 _ _ _ ay hq;have an:=a0 _ _ b0;have av:Sys H6 O sd:=sy.mono a0;refine⟨a,_,rfl,fh.of bv,rfl,_,_,rfl,_,_,rfl,_,_,rfl,rfl,?_⟩;refine⟨_,rfl,_,rfl,xL ar (dq ay)<|xT an rfl ?_⟩;rw[<-fe hq];refine JM (i:=8) (j:=9) (ta:=pY zD [] E0<|dG (je 2)<|dG (je 6)<|dG (je 8) kT) (tb:=pY zj [] E0<|dG (je 2)<|dG (je 7)<|dG (je 6) kT) (sd.any<|qz g.2.1<|cJ A g.1) (sd.any<|vQ g.2.2 g.2.1) (λQ' q'=>⟨_,rfl,_,rfl,_,rfl,yb,O,g.2.1,cJ A g.1,sd,rfl,Y,av,XO,q'⟩) (λH7 Q' s7 q'=>⟨_,rfl,_,rfl,_,rfl,yb,O,g.2.2,g.2.1,sd,rfl,s7 _ _ Y,av.mono<|Tk.of s7,q'⟩) λH7 s7=>?_;have dg:dJ H7 d (.str g.2.2) (some<|oV<|floorOf g.2.2 sd):=by
   rw[<-hk _ bf];exact dJ.k (k:=Sum.inr g.2.2)<|s7 _ _ Z
  have et:(fD 0<|fA A).take (i+1)=(fD 0<|fA A).take i++[g]:=by
   rw[RE,X4];rfl
  have F:=s7 _ _ ad;have ab:∀b o,H5 b=some o->b≠G->H7 b=some o:=λb o e n=>s7 _ _<|N b o e n;have bc:=tu.mono<|Tk.of s7;have no:c4 A sd g=false->dW H7 R (((fD 0<|fA A).take<|i+1).filter<|c4 A sd):=λh=>by grind
  refine⟨_,rfl,_,rfl,_,rfl,d,_,rfl,dg,cJ A g.1,floorOf g.2.2 sd,rfl,_,rfl,dF (λa1=>⟨_,rfl,_,rfl,dF (λhs=>?_) λhs=>?_⟩) λa1=>dH ?_⟩
  ·have ot:c4 A sd g=true:=by
    unfold c4;rw[a1,hs];rfl
   refine⟨_,rfl,.inl ⟨rfl,_,cN.of F⟩,_,rfl,_,rfl,_,rfl,uA,λt1 ax=>?_⟩;have s8:=cH.upd (o:=.tup [.int g.1,.str g.2.1,.str g.2.2]) ax;have b1:t1≠G:=(cF F ax).symm;refine⟨G,R,.ref t1,rfl,rfl,s8 _ _ F,by lia,R++[.ref t1],_,_,_,_,_,rfl,λb o e n=>?_,cE,by rw[QC];show R.length+1<=i+1;lia,?_⟩
   ·rw[cG n]
    exact s8 _ _<|ab b o e n
   ·rw[et,Sz,R8,QI ot,List.filter_nil]
    refine(bc.mono<|(Tk.of s8).trans<|Tk.upd<|s8 _ _ F).snoc ⟨t1,rfl,?_⟩;rw[cG b1];exact cE
  ·refine⟨R,_,_,_,_,_,rfl,ab,F,by lia,no ?_⟩
   unfold c4;rw[UA hs,Su]
  ·refine⟨R,_,_,_,_,_,rfl,ab,F,by lia,no ?_⟩
   unfold c4;grind
 ·rintro σ H6 ⟨R,e1,e2,e3,e4,e5,rfl,N,ad,ul,tu⟩
  rw[tm.1,RR]at tu;exact⟨_,rfl,k G R H6 (λb o e=>N b o (s5 _ _<|B _ _ e)<|cF e ac) ac ad tu⟩
end K43
namespace K43
variable {P:Xi}{w:Xj}{K:Frag}{mg:Xr}{base:Heap}{kw C:Xg}{f:Xg}{fd:FuncData}
def Oa{a:TE}{σ:St}{H:Hp}{e:VK}{g:Hp->Prop}(h:a σ H e):wI σ H λb f=>if b=true then a σ f e else g f:=h
def AK{J:It}{n:Nat}{is:Xm Nat}{g:TG}{M:TE}{σ:St}{H:Hp}{Q:VK}{N:Nat}(R:Nat->Hp->V->Prop)(mono:∀j v H H',Tk H H'->R j H v->R j H' v)(hz:N<=sizeLine)(W:∀i a,cH H a->i<N->J.go i a)(Y:∀a,cH H a->J.stop N a)
  (he:∀(i:Nat)(F:St) v a E (L:VK),i<N->F.length=n->cH H a->J.yld i a v E->(∀y x,cH a x->R i x y->L y x)->
   g v (F++ee is σ) E λf H4=>(∃s:St,s.length=n/\f=s++ee is σ)/\M f H4 L)
  (T:∀v σ H (P S:St->Hp->Prop),(∀f H',P f H'->S f H')->g v σ H P->g v σ H S)
  (q:∀D ys H',H D=none->cH H H'->H' D=some (.lst ys)->ys.length=N->(∀(j:Nat) v,ys[j]? =some v->R j H' v)->Q (.ref D) H'):eJ J n is g wI M σ H Q:=by
 intro D p;refine⟨λi m ys a=>m=N-i/\i<=N/\cH H a/\a D=some (.lst ys)/\ys.length=i/\∀(j:Nat) v,ys[j]? =some v->R j a v,⟨_,rfl,RF _,cH.upd p,cE,rfl,λj v h=>by cases h⟩,?_⟩;rintro i m ys a ⟨rfl,Z,r,A,rfl,I⟩;refine⟨A,?_⟩;by_cases l:ys.length<N
 ·refine .inr ⟨W _ a r l,λF v E G y=>?_⟩
  refine T _ _ _ _ _ (λf H' h=>⟨h.1,fO (B:=∃O,O<N-ys.length/\O=N-(ys.length+1)/\ys.length+1<=N/\cH H H'/\H' D=some (.lst ys)/\ys.length=ys.length+1/\∀(j:Nat) v,ys[j]? =some v->R j H' v) h.2⟩) (he _ F v a E _ l G r y λz x C U=>⟨C _ _ A,by lia,N-(ys.length+1),by lia,rfl,l,λb o e=>?_,cE,by rw[QC];rfl,λj u w=>?_⟩)
  ·rw[cG<|cF e p]
   exact C _ _<|r _ _ e
  ·have K:=Tk.upd (C _ _ A) (ys:=ys++[z])
   by_cases X:j<ys.length
   ·rw[QX X]at w
    exact mono _ _ _ _ ((Tk.of C).trans K)<|I j u w
   ·have e:j=ys.length:=by
     have:=(gI0.mp w).1;rw[QC]at this;have:j<ys.length+1:=this;lia
    subst e;rw[QQ<|QJ _,WG]at w;cases w;exact mono _ _ _ _ K U
 ·have e:ys.length=N:=by lia
  exact .inl ⟨by rw[e];exact Y a r,q D ys a p r A e I⟩
def wL{K:Frag}{is:Xm Nat}{p:TE}{σ:St}{H:Hp}{Q:VK}{a:Xg}{xs:Xm V}(R:Nat->Hp->V->Prop)(mono:∀j v H H',Tk H H'->R j H v->R j H' v)(m:cN K H a xs)(hz:xs.length<=sizeLine)
  (he:∀(i:Nat) v f (g:VK),xs[i]? =some v->cH H f->(∀y l,cH f l->R i l y->g y l)->p ([some v]++ee is σ) f g)
  (q:∀D ys H',H D=none->cH H H'->H' D=some (.lst ys)->ys.length=xs.length->(∀(j:Nat) v,ys[j]? =some v->R j H' v)->Q (.ref D) H'):eJ (FR K a) 1 is (eU 0) wI p σ H Q:=
 AK R mono hz (λi f e r=>⟨xs,xs[i],e.seq m,by simp[r]⟩) (λf e=>⟨xs,e.seq m,QJ _⟩) (λi w v f x g r n e y s=>by
  obtain⟨rfl,y⟩:=y
  match w,n with
  |[o],_=>exact⟨⟨[some v],rfl,rfl⟩,he i v _ g (y xs<|e.seq m) e s⟩) (λ_ _ _ _ _ h k=>h _ _ k) q
def Cg{is:Xm Nat}{m:TE}{σ:St}{H:Hp}{Q:VK}{lo:Int}{N:Nat}(R:Nat->Hp->V->Prop)(mono:∀j v H H',Tk H H'->R j H v->R j H' v)(hz:N<=sizeLine)
  (he:∀(i:Nat) a (e:VK),i<N->cH H a->(∀y f,cH a f->R i f y->e y f)->m ([some<|.int<|lo+i]++ee is σ) a e)
  (q:∀D ys H',H D=none->cH H H'->H' D=some (.lst ys)->ys.length=N->(∀(j:Nat) v,ys[j]? =some v->R j H' v)->Q (.ref D) H'):eJ (qH lo N) 1 is (eU 0) wI m σ H Q:=
 AK R mono hz (λi a _ g=>g) (λa _=>QJ N) (λi r v a s e g l p y n=>by
  obtain⟨rfl,rfl⟩:=y
  match r,l with
  |[o],_=>exact⟨⟨[some _],rfl,rfl⟩,he i _ e g p n⟩) (λ_ _ _ _ _ h k=>h _ _ k) q
def Gr{i:Nat}{v:V}{h:TT}{u e:TS}{D:Ends}{σ:St}{H:Hp}(R:St->Hp->Prop)(g:∀a H',R a H'->e D a H')(b:Bool)(n:∀Q:Bool->Hp->Prop,Q b H->h (σ.set i<|some v) H Q)(m:b=true->(∀a H',R a H'->e D a H')->u { D with nx:=e D } (σ.set i<|some v) H)(l:b=false->R (σ.set i<|some v) H):
  eU i v σ H (λf j=>C8 (HJ h u zL) e D f j):=by
 refine n _ ?_;cases b with
 |true=>exact fO<|m rfl g
 |false=>exact dH<|g _ _<|l rfl
def DQ{K:Frag}{is:Xm Nat}{A:TT}{C:TE}{σ:St}{H:Hp}{Q:VK}{a:Xg}{xs:Xm V}(s:cN K H a xs)(hz:xs.length<=sizeLine)
  (he:∀(i:Nat) v f (B:VK)(z:Hp->Prop),xs[i]? =some v->cH H f->(∀r,cH f r->B v r)->(∀n,cH f n->z n)->A ([some v]++ee is σ) f λb n=>if b=true then C ([some v]++ee is σ) n B else z n)
  (q:∀D ys H',H D=none->cH H H'->H' D=some (.lst ys)->ys.length<=xs.length->(∀v∈ys,v∈xs)->Q (.ref D) H'):eJ (FR K a) 1 is (eU 0) A C σ H Q:=by
 intro D l;refine⟨λi m ys f=>m=xs.length-i/\i<=xs.length/\cH H f/\f D=some (.lst ys)/\ys.length<=i/\∀v∈ys,v∈xs,⟨_,rfl,RF _,cH.upd l,cE,QJ 0,λv h=>by cases h⟩,?_⟩;rintro i m ys f ⟨rfl,N,j,p,I,E⟩;refine⟨p,?_⟩;by_cases g:i<xs.length
 ·refine .inr ⟨⟨xs,xs[i],j.seq s,by simp[g]⟩,λG v L w y=>?_⟩
  obtain⟨rfl,y⟩:=y;have J:=y xs<|j.seq s
  match G,w with
  |[o],_=>
   refine⟨⟨[some v],rfl,rfl⟩,he i v _ _ _ J j (λr x=>⟨x _ _ p,by lia,xs.length-(i+1),by lia,rfl,g,λb o e=>?_,cE,?_,λu M=>?_⟩) λn F=>⟨xs.length-(i+1),by lia,rfl,g,j.trans F,F _ _ p,by lia,E⟩⟩
   ·rw[cG<|cF e l]
    exact x _ _<|j _ _ e
   ·grind
   ·grind
 ·have e:i=xs.length:=by lia
  subst e;exact .inl ⟨⟨xs,j.seq s,QJ _⟩,q D ys f l j p I E⟩
def BB(us:Xm Int)(lo a:Xk Int):d6 (us.map V.int) lo a=(((us.drop<|HT.iq us.length 0 lo).take<|HT.iq us.length us.length a-HT.iq us.length 0 lo)).map V.int:=by
 unfold d6;rw[QF,List.map_take,List.map_drop]
def Cy(us:Xm Int){k:Int}(h0:0<=k):∃vs:Xm Int,d6 (us.map V.int) none (some k)=vs.map V.int/\vs.length<=k.toNat:=by
 refine⟨_,BB ..,?_⟩;have e:HT.iq us.length us.length (some k)=min k.toNat us.length:=by
  show(if k<0 then(k+(us.length:Int)).toNat else min k.toNat us.length)=_;rw[QG<|Int.not_lt.mpr h0]
 rw[RK,So,HT.jK,e];exact Rn (VW _ _)<|Rn (sub_le _ _)<|VW _ _
def J4{ps:Xm Xn}{H:Hp}{v:V}{d:SD}(h:By H v d)(k:HM ps d):jo ps H v:=by
 obtain⟨a,e,f⟩:=h;refine⟨a,e,?_⟩;cases d with
 |knew p h=>exact .inl ⟨p,h,f,k.1,k.2⟩
 |unh p h=>
  refine .inr<|.inl ⟨p,oV h,f,k.1,?_⟩;cases h with
  |none=>exact .inl rfl
  |some i=>exact .inr ⟨i,rfl,k.2 i rfl⟩
 |sil p b e=>exact .inr<|.inr<|.inl ⟨p,b,e,f,k.1,k.2.1,k.2.2.1,k.2.2.2⟩
 |bar p q=>exact .inr<|.inr<|.inr ⟨p,q,f,k.1,k.2.1,k.2.2⟩
def zT{ps:Xm Xn}{i:Int}(h0:0<=i)(f:i<ps.length):∃z,qQ (ps.map V.str) i=some (.str z)/\z∈ps:=by
 have a:i.toNat<ps.length:=by lia
 have e:((i.toNat:Nat):Int)=i:=Sg h0;have:=dq (xs:=ps.map V.str) (j:=i.toNat) (v:=V.str ps[i.toNat]) (by rw[QR,QB a];rfl);rw[e]at this;exact⟨_,this,Ta a⟩
def CI{α:Type}{l:Xm α}{p:α->Bool}{i:Nat}{d:α}(h:l[i]? =some d):oe l p i=p d:=by
 unfold oe;rw[h]
def Lz.snoc{α:Type}{R:Hp->V->α->Prop}{H:Hp}{xs:Xm V}{ds:Xm α}{v:V}{d:α}(h:Lz R H xs ds)(j:R H v d):Lz R H (xs++[v]) (ds++[d]):=by
 refine⟨by rw[QC,QC,h.1];rfl,λi u e a f=>?_⟩;by_cases g:i<xs.length
 ·rw[QX g]at a
  rw[QX<|by rw[<-h.1];exact g]at f;exact h.2 i u e a f
 ·rw[QQ<|by lia]at a
  rw[QQ<|by rw[<-h.1];lia,<-h.1]at f;obtain⟨l,n⟩:=gI0.mp a;have m:i-xs.length=0:=by
   have:i-xs.length<1:=l;lia
  rw[m]at a f;cases a;cases f;exact j
def pP{ps:Xm Xn}{g:Xm QD}(n:∀d∈g,lV ps d){e:TK}(h:e∈fD 0 (fA g)):∃q,g[e.1]? =some q/\e.2.1∈ps/\e.2.2∈ps:=by
 obtain⟨j,o,i,l,a⟩:=lK h;unfold fA at i;rw[QR]at i;obtain⟨q,m,rfl⟩:=Rt.mp i;have f:=n q<|QH m;rw[T9]at l;refine⟨q,by rw[l];exact m,?_⟩;obtain a|a:=a
 ·rw[a]
  exact⟨f.2.1,f.2.2.1⟩
 ·rw[a]
  exact⟨f.2.2.1,f.2.1⟩
def BX{α:Type}{l:Xm α}{i:Nat}{x y:α}(h:l[i]? =some x)(m:y∈l.take (i+1)):y∈l.take i\/y=x:=by
 rw[RE,h,Rg]at m;obtain m|m:=m
 ·exact .inl m
 ·exact .inr<|QK.mp m
abbrev FH:=Xn->Xk Int
def dN(F:FH)(g:GD):FH:=λy=>if y=g.1 then some (match F g.1 with
 |none=>g.2
 |some j=>if j<g.2 then j else g.2) else F y
def dB(a:Xm GD):FH:=a.foldl dN λ_=>none
def pF(a:Xm GD)(g:GD):dB (a++[g])=dN (dB a) g:=by
 unfold dB;rw[VF];rfl
structure jO(Xu:Xm (Key×V))(F:FH):Prop where
 get:∀z,dS Xu (Sum.inr z)=(F z).map V.int
def jO.put{Xu:Xm (Key×V)}{F:FH}{g:GD}{m:Int}(d:jO Xu F)(e:dN F g g.1=some m):jO (putK Xu (Sum.inr g.1)<|.int m) (dN F g):=⟨λz=>by
 rw[cP];by_cases h:z=g.1
 ·rw[QI<|by rw[h],h,e]
  rfl
 ·rw[QG λq=>h<|SV q,d.get z]
  show _=(if z=g.1 then _ else F z).map V.int;rw[QG h]⟩
def iS(e:Xm GD)(a:Xm Nat):Xm GD:=a.filterMap λi=>e[i]?
def wW(p:GD->Bool):∀a:Xm GD,iS a ((List.range a.length).filter<|oe a p)=a.filter p:=λa=>by
 have g:∀n,n<=a.length->iS a ((List.range n).filter<|oe a p)=(a.take n).filter p:=λn=>by
  induction n with
  |zero=>exact λ_=>rfl
  |succ n h=>
   intro i;have f:a[n]? =some a[n]:=QB (by lia);have e:=h (by lia);unfold iS at e ⊢;rw[List.range_succ,Sz,WW,e,RE,f,Sz]
   congr 1
   show List.filterMap _ (List.filter (oe a p) [n])=List.filter p [a[n]];rw[R8,R8,CI f];grind
 grind
inductive Nj(C:Xg)(vs:Xm V)(H:Hp)(Q:VK):Prop
 |mk(x p s t y:Xg)(ps:Xm Xn)(ss f ys:Xm V)(a:Xm GD)(sd:Xm SD)(e:vs=[.ref x])(bk:Bk C H x p s t y ps ss f ys)(h:ps.length<=24)(sl:ss.length<=24)(i:Lz dI H ss a)(g:∀d∈a,d.1∈ps)(j:Sys H ys sd)(l:ys.length<=60)
   (k:∀d Xu H',cH H H'->H d=none->H' d=some (.dK Xu)->jO Xu (dB (a.filter (cS sd)))->Q (.ref d) H')
def yV(C:Xg):Sp:=λa H Q _=>Nj C a H Q
inductive Ip(x tb d l:Xg)(H1:Hp)(j:Xm GD)(h:Xm Nat)(i:Nat)(σ:St)(a:Hp):Prop
 |mk(f g:Xk V)(Xu:Xm (Key×V))(e:σ=[some (.ref x),some (.ref tb),some (.ref d),f,g])(m:∀b o,H1 b=some o->b≠d->a b=some o)(hd:a d=some (.dK Xu))(n:Xu.length<=i)(sn:jO Xu (dB (iS j (h.take i))))
def eX(F:FH)(p:Xn)(h:Int):Bool:=match F p with
 |none=>false
 |some j=>decide<|j<h
inductive LF  (vs:Xm V)(H:Hp)(Q:VK):Prop
 |mk(d:Xg)(Xu:Xm (Key×V))(F:FH)(p:Xn)(h:Int)(h0:vs=[.ref d,.str p,.int h])(e:H d=some (.dK Xu))(a:jO Xu F)(f:Q (.bl (eX F p h)) H)
def DJ  :Sp:=λa H Q _=>LF  a H Q
def oB:cK ["seen","person","hour"] ["seen","person","hour"] (cI gH):={}
def Kq (D:Df K mg "saw_ahead_of" gH ["seen","person","hour"] f fd):Gd P w K mg base 1 "saw_ahead_of" DJ:=by
 refine aG D oB λX H r Q E g h=>?_;obtain⟨d,s,F,p,h,rfl,n,q,k⟩:=h;have m:=d5 g.room;obtain⟨l,i,o,_⟩:=g.fg [0,1,2];refine⟨_,ag<|aw<|aV (J.u9 m (aa i)<|aa l)<|a8<|ba bW (aK m (aa l) (aa i) aR) (aa o)<|cM _,?_⟩;have a:=dJ.k (k:=Sum.inr p) n;rw[q.get]at a;unfold eX at k;cases e:F p with
 |none=>
  rw[e]at a k;exact⟨_,rfl,_,rfl,d,_,rfl,a,_,rfl,gP bF0 k⟩
 |some j=>
  rw[e]at a k;exact⟨_,rfl,_,rfl,d,_,rfl,a,_,rfl,fH rfl ⟨_,rfl,_,rfl,d,_,rfl,a,_,rfl,_,_,rfl,rfl,k⟩⟩
def qW:cK ["book","sights","hours","i","person"] ["book"] (cI ja):={}
def Gy (D:Df K mg "seen_hours" ja ["book"] f fd) (T:Txt K mg kw C) (ac:Md P w K mg base 1 C "sights" (dC C λ_ s _ _=>s)) (al:Gd P w K mg base 4 "open_sights" (tZ C)):Gd P w K mg base 5 "seen_hours" (yV C):=by
 refine aG D qW λX H vs Q E A h=>?_;obtain⟨x,p,s,t,y,ps,ss,ts,ys,q,sd,rfl,bk,pl,sl,gs,gp,sy,XO,k⟩:=h;have hu:=d5 A.room;have XH:=Q0;obtain⟨⟨dx,hx⟩,hp,hs,ht,hy⟩:=id bk;obtain⟨S0,S1,S2,S3,S4,_⟩:=A.fg [0,1,2,3,4];refine⟨_,(af (au S1 A.nd<|bE (A.met ac<|by decide) (aa S0) rfl)
 (af (au S2 A.nd J.ki)
 (af (aZ A.own A.calm (aQ<|ak (A.c al)<|aj<|aa S0) (aN S3 A.nd)
 (af (au S4 A.nd<|ai aE (ai aU (aa S1) (aa S3) aR) ae ah)
 (ag<|bN hu (aa S2) (aa S4)<|aJ (A.b T.b_min) (J.gD A.calm) uG<|aB (ai aE (ai aU (aa S1) (aa S3) aR) ae ah)<|J.LL hu (aa S2) (aa S4)<|ai aE (ai aU (aa S1) (aa S3) aR) ae ah)))
 (ag<|aw<|aa S2)))),?_⟩
 refine⟨_,rfl,x,dx,_,rfl,hx,fZ _ _ _ _ (by decide+kernel) (by decide+kernel) (by decide+kernel)<|by decide+kernel,x,p,s,t,y,ss,rfl,⟨dx,hx⟩,hs,λtb ad=>?_⟩;generalize am:upd H tb _=H1;obtain⟨s1,G⟩:=nx ad am;intro d nd;generalize aq:upd H1 d _=H2;obtain⟨s2,S⟩:=nx nd aq;have F:=s1.trans s2;refine⟨_,rfl,x,p,s,t,y,ps,ss,ts,ys,q,sd,rfl,bk.mono F,pl,sl,gs.mono<|dI.mono<|Tk.of F,gp,sy.mono<|Tk.of F,XO,λl H3 s3 ln hl=>?_⟩;have e1:lq q sd q.length=((List.range q.length).filter<|oe q<|cS sd).map λi=>V.int (i:Nat):=rfl;rw[e1]at hl;have Y:=F.trans s3;have an:=s2.trans s3;have il:∀i∈(List.range q.length).filter (oe q<|cS sd),i<q.length:=λi hi=>Sk.mp (QV.mp hi).1;have dl:=wW (cS sd) q;have ap:((List.range q.length).filter<|oe q<|cS sd).length<=24:=by
  have:=RB (oe q<|cS sd)<|List.range q.length;rw[Sy]at this;have:=gs.1;lia
 generalize (List.range q.length).filter (oe q<|cS sd)=L at hl il dl ap;have ab:=s3 _ _ S;have M:H d=none:=s1.free nd;refine⟨l,rfl,⟨_,cN.of hl⟩,c6 (xs:=L.map λi=>V.int (i:Nat)) (Ip x tb d l H3 q L) ⟨none,none,[],rfl,λb o e _=>e,ab,QJ 0,⟨λ_=>rfl⟩⟩ ?_ ?_ ?_⟩
 ·rintro i σ R hi ⟨e3,e4,U,rfl,N,I,kl,O⟩
  exact cN.of<|N _ _ hl (cF S ln).symm
 ·rintro i v σ R hv ⟨e3,e4,U,rfl,N,I,kl,O⟩
  rw[QR]at hv;obtain⟨n,hn,rfl⟩:=Rt.mp hv;have Z:=il n<|QH hn;have ar:i<L.length:=(gI0.mp hn).1;obtain⟨g,hg⟩:∃g,q[n]? =some g:=⟨_,QB Z⟩;obtain⟨vg,z⟩:∃vg,ss[n]? =some vg:=⟨_,QB<|by rw[gs.1];exact Z⟩;obtain⟨a,ta,rfl,ha⟩:=gs.2 _ _ _ z hg;have keep:∀{b:Xg}{o:HO},H b=some o->R b=some o:=λe=>N _ _ (Y _ _ e)<|cF e M;have B:=keep ha;have r:=N _ _ (an _ _ G)<|cF G nd;have W:=dJ.k (k:=Sum.inr g.1) I;rw[O.get]at W;have lk:U.length<sizeLine:=by lia
  have dA:iS q (L.take<|i+1)=iS q (L.take i)++[g]:=by
   unfold iS;rw[RE,hn,WW];show _++List.filterMap _ [n]=_;rw[UP,hg];rfl
  have put:∀m:Int,dN (dB<|iS q<|L.take i) g g.1=some m->Ip x tb d l H3 q L (i+1) [some<|.ref x,some<|.ref tb,some<|.ref d,some<|.int (n:Nat),some<|.str g.1] (upd R d<|.dK<|putK U (Sum.inr g.1)<|.int m):=λm em=>
   ⟨_,_,_,rfl,λb o e n'=>by rw[cG n'];exact N b o e n',cE,Rn (dj _ _ _)<|by lia,by
    rw[dA,pF];exact O.put em⟩
  refine⟨_,rfl,_,rfl,xL r (dq z)<|xT B rfl ?_⟩;cases hF:dB (iS q<|L.take i) g.1 with
  |none=>
   rw[hF]at W;exact⟨_,rfl,_,rfl,xL r (dq z)<|xT B rfl ⟨_,rfl,d,rfl,.inl ⟨_,.inl I⟩,_,rfl,_,rfl,_,rfl,xL r (dq z)<|xT B rfl ⟨_,W,g.2,g.2,rfl,_,rfl,_,rfl,d,_,rfl,j8.k (k:=Sum.inr g.1) I lk,put _<|by unfold dN;rw[QI rfl,hF,QG<|Wj _]⟩⟩⟩
  |some j=>
   rw[hF]at W;exact⟨_,rfl,_,rfl,xL r (dq z)<|xT B rfl ⟨_,rfl,d,rfl,.inl ⟨_,.inl I⟩,_,rfl,_,rfl,_,rfl,xL r (dq z)<|xT B rfl ⟨_,W,g.2,j,rfl,_,rfl,_,rfl,d,_,rfl,j8.k (k:=Sum.inr g.1) I lk,put _<|by unfold dN;rw[QI rfl,hF]⟩⟩⟩
 ·rintro σ R ⟨e3,e4,U,rfl,N,I,kl,O⟩
  rw[QF,RR,dl]at O;exact⟨_,rfl,k d U R (λb o e=>N _ _ (Y _ _ e)<|cF e M) M I O⟩
def qF(t:TK):Xm Key:=[Sum.inl (t.1:Int),Sum.inr t.2.1,Sum.inr t.2.2]
def uY{a b:TK}(h:qF a=qF b):a=b:=by
 obtain⟨k,t,e⟩:=a;obtain⟨f,g,i⟩:=b;injection h with h1 h2
 injection h2 with h2 h3
 injection h3 with h3 _
 have q:=Sum.inl.inj h1;have q1:k=f:=by lia
 have j:=SV h2;grind
def PQ(Xu:Xm (Xm Key×V))(a:Xm QD)(e:Xm TK):Prop:=∀t∈e,dS Xu (qF t)=some (.int<|cJ a t.1)
def Oq(Xu:Xm (Xm Key×V))(e:Xm QD)(a:Xm TK):Prop:=∀t:TK,dS Xu (qF t)=if t∈a then some (.int<|cJ e t.1) else none
theorem sI(a:Xm QD):∀(more done:Xm TK) (Xu:Xm (Xm Key×V)),Oq Xu a done->Oq (i7 Xu<|more.map λt=>(qF t,V.int<|cJ a t.1)) a (done++more)
 |[],done,Xu,h=>by
  rw[Rm];exact h
 |t::r,done,Xu,h=>by
  have:=sI a r (done++[t]) (putK Xu (qF t)<|.int<|cJ a t.1) λu=>by
   rw[cP,h u];by_cases e:u=t
   ·grind
   ·rw[QG λq=>e<|uY q]
    by_cases m:u∈done
    ·rw[QI m,QI<|Ra _ m]
    grind
  rwa [QL]at this
theorem qv:∀(more Xu:Xm (Xm Key×V)),(i7 Xu more).length<=Xu.length+more.length
 |[],Xu=>QJ _
 |p::r,Xu=>by
  have a:=qv r<|putK Xu p.1 p.2;have e:=dj Xu p.1 p.2;show(i7 (putK Xu p.1 p.2) r).length<=_;grind
theorem rB:∀(more Xu:Xm (Xm Key×V)) (g:Xm Key×V),g∈i7 Xu more->(∃q∈Xu,g.1=q.1)\/∃q∈more,g.1=q.1
 |[],Xu,g,h=>.inl ⟨g,h,rfl⟩
 |p::r,Xu,g,h=>by
  obtain ⟨q,a,e⟩|⟨q,a,e⟩:=rB r (putK Xu p.1 p.2) g h
  ·unfold putK at a
   split at a
   ·obtain⟨f,i,rfl⟩:=Rk.mp a
    refine .inl ⟨f,i,?_⟩;rw[e];split<;>rfl
   ·obtain a|a:=Rg.mp a
    ·exact .inl ⟨q,a,e⟩
    ·rw[QK.mp a]at e
     exact .inr ⟨p,.head _,e⟩
  ·exact .inr ⟨q,.tail _ a,e⟩
inductive OL(C:Xg)(vs:Xm V)(H:Hp)(Q:VK):Prop
 |mk(x p s t y:Xg)(ps:Xm Xn)(ss f ys:Xm V)(a:Xm QD)(e:vs=[.ref x])(bk:Bk C H x p s t y ps ss f ys)(g:f.length<=120)(h:Lz dz H f a)(i:∀d∈a,lV ps d)
   (k:∀d Xu H',cH H H'->H d=none->H' d=some (.dT Xu)->PQ Xu a (fD 0 (fA a))->Q (.ref d) H')
def Jh(C:Xg):Sp:=λa H Q _=>OL C a H Q
inductive Nf(x tb d:Xg)(H1:Hp)(f:Xm QD)(h:Xm TK)(i:Nat)(σ:St)(a:Hp):Prop
 |mk(g:Xk V)(Xu:Xm (Xm Key×V))(e:σ=[some (.ref x),some (.ref tb),some (.ref d),g])(j:∀b o,H1 b=some o->b≠d->a b=some o)(hd:a d=some (.dT Xu))(l:Xu.length<=i)(sn:PQ Xu f (h.take i))
inductive Pd(C:Xg)(vs:Xm V)(H:Hp)(Q:VK):Prop
 |mk(x p s t y:Xg)(ps:Xm Xn)(ss f ys:Xm V)(a:Xm QD)(sd:Xm SD)(e:vs=[.ref x])(bk:Bk C H x p s t y ps ss f ys)(m:ps.length<=24)(h:f.length<=120)(i:Lz dz H f a)(j:∀d∈a,lV ps d)(n:Sys H ys sd)(l:ys.length<=60)
   (k:∀d Xu H',cH H H'->H d=none->H' d=some (.dT Xu)->Oq Xu a ((fD 0 (fA a)).filter (c4 a sd))->Xu.length<=240->(∀g∈Xu,∃t∈(fD 0 (fA a)).filter (c4 a sd),g.1=qF t)->Q (.ref d) H')
def Io(C:Xg):Sp:=λa H Q _=>Pd C a H Q
def eN(e:Xm QD)(a b:TK):Bool:=decide (a.2.2=b.2.1)&&decide (cJ e a.1<cJ e b.1)
def oq(H:Hp)(a:Xg)(t:TK):Prop:=H a=some (.tup [.int (t.1:Nat),.str t.2.1,.str t.2.2])
def dJ.tr{H:Hp}{a b:Xg}{Xu:Xm (Xm Key×V)}{k:Xm Key}(e:Rd H a (.dT Xu))(f:H b=some (.tup<|k.map kV)):dJ H a (.ref b) (dS Xu k):=.inr ⟨Xu,k,b,e,rfl,f,rfl⟩
inductive Gg  (vs:Xm V)(H:Hp)(Q:VK):Prop
 |mk(d a b:Xg)(Xu:Xm (Xm Key×V))(f:Xm QD)(e:Xm TK)(t u:TK)(h0:vs=[.ref d,.ref a,.ref b])(j:Rd H d (.dT Xu))(h:Oq Xu f e)(n:oq H a t)(i:oq H b u)(m:t∈e)(g:u∈e)(l:Q (.bl (eN f t u)) H)
def xM  :Sp:=λa H Q _=>Gg  a H Q
def xv:cK ["hours","telling","later"] ["hours","telling","later"] (cI lC):={}
def Cw (D:Df K mg "leads_to" lC ["hours","telling","later"] f fd):Gd P w K mg base 1 "leads_to" xM:=by
 refine aG D xv λX H A Q E o h=>?_;obtain⟨d,a,b,y,z,B,t,u,rfl,g,n,q,j,v,x,k⟩:=h;have p:=d5 o.room;obtain⟨i,s,m,_⟩:=o.fg [0,1,2];refine⟨_,ag<|aw<|aV (ba aO (ai aE (aa s) ae ah) (ai aE (aa m) ae ah)<|cM _)<|a8<|ba bW (aK p (aa i) (aa s) aR) (aK p (aa i) (aa m) aR)<|cM _,?_⟩;have l:=dJ.tr (k:=qF t) g q;have r:=dJ.tr (k:=qF u) g j;rw[n t,QI v]at l;rw[n u,QI x]at r;unfold eN at k;refine⟨_,rfl,xT q rfl ⟨_,rfl,xT j rfl ⟨rfl,_,rfl,dF (λe=>?_) λno=>?_⟩⟩⟩
 ·rw[dT0<|V.str.inj<|QO e,R6]at k
  exact⟨_,rfl,_,rfl,d,_,rfl,l,_,rfl,_,rfl,d,_,rfl,r,_,_,rfl,rfl,k⟩
 ·simp_all
def jR:cK ["book","talks","hours","telling"] ["book"] (cI eQ):={}
def Jt (D:Df K mg "hours_of_tellings" eQ ["book"] f fd) (T:Txt K mg kw C) (al:Md P w K mg base 1 C "talks" (dC C λ_ _ t _=>t)) (ad:Md P w K mg base 1 C "tellings" (i5 C)):Gd P w K mg base 2 "hours_of_tellings" (Jh C):=by
 refine aG D jR λX H vs Q E j h=>?_;obtain⟨x,p,s,t,y,ps,ss,ts,ys,B,rfl,bk,tl,R,qk,k⟩:=h;have hu:=d5 j.room;have XH:=Q0;obtain⟨⟨dx,hx⟩,hp,hs,Y,hy⟩:=id bk;obtain⟨S0,S1,S2,S3,_⟩:=j.fg [0,1,2,3];refine⟨_,(af (au S1 j.nd<|bE (j.met al<|by decide) (aa S0) rfl)
 (af (au S2 j.nd J.Nd)
 (af (aZ j.own j.calm (aQ<|bE (j.met ad<|by decide) (aa S0) rfl) (aN S3 j.nd)
 (ag<|bN hu (aa S2) (aa S3)<|ai aE (ai aU (aa S1) (ai aE (aa S3) ae ah) cv) ae ah))
 (ag<|aw<|aa S2)))),?_⟩
 refine⟨_,rfl,x,dx,_,rfl,hx,fZ _ _ _ _ (by decide+kernel) (by decide+kernel) (by decide+kernel)<|by decide+kernel,x,p,s,t,y,ts,rfl,⟨dx,hx⟩,Y,λtb ab=>?_⟩;generalize ac:upd H tb _=H1;obtain⟨s1,n⟩:=nx ab ac;intro d nd;generalize am:upd H1 d _=H2;obtain⟨s2,A⟩:=nx nd am;have m:=s1.trans s2;have z:=s1.free nd;refine⟨_,rfl,x,dx,_,rfl,m _ _ hx,fZ _ _ _ _ (by decide+kernel) (by decide+kernel) (by decide+kernel)<|by decide+kernel,x,p,s,t,y,ps,ss,ts,ys,fA B,rfl,bk.mono m,CB<|R.mono<|dz.mono<|Tk.of m,tl,λl us H3 U ln hl G=>?_⟩;have N:=m.trans U;have ul:us.length<=240:=by
  have:=iZ (fA B) 0;have:=G.1;have:=(CB R).1;lia
 have mem:∀g∈fD 0 (fA B),∃q,B[g.1]? =some q/\g.2.1∈ps/\g.2.2∈ps:=λg hk=>pP qk hk;generalize fD 0 (fA B)=ks at G k mem;refine⟨l,rfl,⟨_,cN.of hl⟩,c6 (a:=l) (xs:=us) (Nf x tb d H3 B ks) ⟨none,[],rfl,λb o e _=>e,U _ _ A,QJ 0,λt Y=>by cases Y⟩ ?_ ?_ ?_⟩
 ·rintro i σ Z hi ⟨e3,S,rfl,r,W,kl,O⟩
  exact cN.of<|r _ _ hl (cF A ln).symm
 ·rintro i v σ Z hv ⟨e3,S,rfl,r,W,kl,O⟩
  have an:=(gI0.mp hv).1;obtain⟨g,X4⟩:∃g,ks[i]? =some g:=⟨_,QB<|by rw[<-G.1];exact an⟩;obtain⟨a,rfl,ha⟩:=G.2 _ _ _ hv X4;obtain⟨q,hq,_,_⟩:=mem g<|QH X4;obtain⟨vq,I⟩:∃vq,ts[g.1]? =some vq:=⟨_,QB<|by rw[R.1];exact(gI0.mp hq).1⟩;obtain⟨aq,rfl,M⟩:=R.2 _ _ _ I hq;have F:=r _ _ ha (λe=>by rw[e,U _ _ A]at ha;cases ha);have L:=r _ _ ((s2.trans U) _ _ n)<|cF n nd;have lk:S.length<sizeLine:=by lia
  have eh:=fe hq;refine⟨_,rfl,_,rfl,xT F rfl<|xL L (dq I)<|xT (r _ _ (N _ _ M)<|cF M z) rfl ⟨_,rfl,_,rfl,d,_,rfl,j8.t (k:=qF g) W F lk,_,_,rfl,λb o e n'=>by rw[cG n'];exact r b o e n',cE,Rn (dj _ _ _)<|by lia,λu hu=>?_⟩⟩;rw[cP];by_cases e:u=g
  ·grind
  ·rw[QG λq=>e<|uY q]
   exact O u<|(BX X4 hu).resolve_right e
 ·rintro σ Z ⟨e3,S,rfl,r,W,kl,O⟩
  rw[G.1,RR]at O;exact⟨_,rfl,k d S Z (λb o e=>r _ _ (N _ _ e)<|cF e z) z W O⟩
def nV:cK ["book","hours"] ["book"] (cI fV):={}
def LR (D:Df K mg "hours_of_open" fV ["book"] f fd) (T:Txt K mg kw C) (W:Gd P w K mg base 2 "hours_of_tellings" (Jh C)) (O:Gd P w K mg base 4 "open_tellings" (uP C)):Gd P w K mg base 5 "hours_of_open" (Io C):=by
 refine aG D nV λX H vs Q E m h=>?_;obtain⟨x,p,s,t,y,ps,ss,ts,ys,g,sd,rfl,bk,pl,tl,U,qk,sy,XO,k⟩:=h;have o:=d5 m.room;have XH:=Q0;obtain⟨S0,S1,_⟩:=m.fg [0,1];refine⟨_,(af (au S1 m.nd<|ak (m.gN W rfl (by lia)<|by decide)<|aj<|aa S0)
 (ag<|aw<|bo (m.b T.b_dict) (J.fG (Kf m.room) m.calm) uu<|aj<|bB (is:=[1]) (xs:=["telling"]) (ns:=["hours"]) m.calm (aQ<|ak (m.gN O rfl (by lia)<|by decide)<|aj<|aa S0) {} (λ_ _ _ _ _=>a6 (i:=0)) (λ_ _ _ _ _=>bU) (λ_ _ _ _ _=>aL<|aB (aM (i:=0))<|aK o (aS (i:=1)) (aM (i:=0)) aR) m.hsc m.hN)),?_⟩
 refine⟨_,rfl,x,p,s,t,y,ps,ss,ts,ys,g,rfl,bk,tl,U,qk,λd Xu H1 L nd hd R=>?_⟩;refine⟨_,rfl,x,p,s,t,y,ps,ss,ts,ys,g,sd,rfl,bk.mono L,pl,tl,U.mono<|dz.mono<|Tk.of L,qk,sy.mono<|Tk.of L,XO,λl us H2 s2 ln hl r=>?_⟩;have ul:us.length<=240:=by
  have:=iZ (fA g) 0;have:=r.1;have:=(CB U).1;have:=RB (c4 g sd)<|fD 0<|fA g;lia
 have om:∀t∈(fD 0<|fA g).filter (c4 g sd),t∈fD 0 (fA g):=λt R=>(QV.mp R).1;generalize (fD 0<|fA g).filter (c4 g sd)=G at r k om;refine⟨l,rfl,⟨_,cN.of hl⟩,wL (λj H v=>∃(u:TK) (a b:Xg),G[j]? =some u/\v=.ref a/\H a=some (.tup [.ref b,.int<|cJ g u.1])/\oq H b u) (λ_ _ _ _ tk ⟨u,a,b,e,ev,Y,A⟩=>⟨u,a,b,e,ev,tk _ _ Y,tk _ _ A⟩) (cN.of hl) (by lia) ?_ ?_⟩
 ·intro i v H3 K1 N M k1
  obtain⟨u,o⟩:∃u,G[i]? =some u:=⟨_,QB<|by rw[<-r.1];exact(gI0.mp N).1⟩;obtain⟨b,rfl,A⟩:=r.2 _ _ _ N o;have B:=M _ _ A;have dg:=dJ.t (k:=qF u) (M _ _<|s2 _ _ hd) B;rw[R u<|om u<|QH o]at dg;exact⟨_,rfl,_,rfl,_,rfl,d,_,rfl,dg,sZ,λt2 F=>k1 _ _ (cH.upd F) ⟨u,t2,b,o,rfl,cE,cH.upd F _ _ B⟩⟩
 ·intro q1 zs H3 ab M Z zl zr
  refine⟨q1,zs,G.map λt=>(qF t,V.int<|cJ g t.1),rfl,cN.of Z,by rw[zl,r.1,QF],λi v kv N n=>?_,λe ne=>?_⟩
  ·obtain⟨u,a,b,o,rfl,Y,A⟩:=zr i v N
   rw[QR,o]at n;cases n;exact⟨a,b,rfl,Y,A⟩
  ·have I:=(L.trans s2).trans M
   exact k e _ _ (I.trans<|cH.upd ne) (I.free ne) cE (sI g G [] [] λt=>by rw[QG λh=>by cases h];rfl) (by
    have h:=qv (G.map λt=>(qF t,V.int<|cJ g t.1)) [];rw[QF,<-r.1]at h;have z:([]:Xm (Xm Key×V)).length=0:=rfl;lia) λkv n=>by
    obtain ⟨q,hq,_⟩|⟨q,hq,e⟩:=rB _ _ kv n
    ·cases hq
    ·obtain⟨t,S,rfl⟩:=Rk.mp hq
     exact⟨t,S,e⟩
def ym(f:Xm QD)(e:Xm TK):Bool:=(List.range<|e.length-1).all λk=>match e[k]?,e[k+1]? with
 |some a,some b=>eN f a b
 |_,_=>false
def pB(F:FH)(f:Xm QD)(g:Xm TK)(e:Xm TK)(p:Xn)(h:Int):Bool:=match e.head?,e.getLast? with
 |some a,some b=>(e.all λt=>decide<|t∈g)&&(eX F a.2.1 (cJ f a.1)&&(ym f e&&(decide (b.2.2=p)&&decide (cJ f b.1<=h))))
 |_,_=>false
inductive Fw  (K:Frag)(vs:Xm V)(H:Hp)(Q:VK):Prop
 |mk(sc:Xg)(ns:Xm Int)(k:Int)(h0:vs=[.ref sc,.int k])(e:cN K H sc (ns.map V.int))(a:0<=k)(f:∀c:Int,Q (.int c) H)
def xK  (K:Frag):Sp:=λa H Q _=>Fw K a H Q
inductive KN  (vs:Xm V)(H:Hp)(Q:VK):Prop
 |mk(c k:Int)(h0:vs=[.int c,.int k])(e:0<=k)(a:k<=1000)(f:∀m:Int,0<=m->m<2147483587->Q (.int m) H)
def rF  :Sp:=λa H Q _=>KN  a H Q
def cZ(a:Int){m:Int}(h:0<m):0<=a%m/\a%m<m:=⟨Int.emod_nonneg _<|by lia,Int.emod_lt_of_pos _ h⟩
def uL:cK ["_law_script","_law_k"] ["_law_script","_law_k"] (cI jI):={}
def FJ (D:Df K mg "_law_cell_at" jI ["_law_script","_law_k"] f fd) (T:Txt K mg kw C):Gd P w K mg base 1 "_law_cell_at" (xK K):=by
 refine aG D uL λX H r Q E g h=>?_;obtain⟨i,n,k,rfl,a,p,q⟩:=h;rw[<-g.fK]at a;obtain⟨m,l,_⟩:=g.fg [0,1];refine⟨_,(af (aH (aF bW (aa l) (aJ (g.b T.b_len) aY di<|aj<|aa m)<|cM _)
 (ag<|aw<|ai aU (aa m) (aa l) aR)
 aI)
 (ag<|aw ae)),?_⟩
 refine⟨_,rfl,_,rfl,i,_,rfl,.inl a,_,_,rfl,rfl,_,rfl,dF (λlt=>?_) λ_=>?_⟩
 ·rw[Ro,QF]at lt
  have e:((k.toNat:Nat):Int)=k:=Sg p;have o:=dq (xs:=n.map V.int) (j:=k.toNat) (v:=V.int<|n[k.toNat]'(by lia)) (by rw[QR,QB<|by lia];rfl);rw[e]at o;exact⟨_,rfl,_,rfl,i,_,_,_,rfl,rfl,a,o,q _⟩
 ·exact q 0
def Es:cK ["_law_cell","_law_k","_law_number"] ["_law_cell","_law_k"] (cI uM):={}
def KY (D:Df K mg "_law_mix" uM ["_law_cell","_law_k"] f fd):Gd P w K mg base 1 "_law_mix" rF:=by
 refine aG D Es λX H n Q E g h=>?_;obtain⟨c,k,rfl,o,l,q⟩:=h;obtain⟨i,a,e,_⟩:=g.fg [0,1,2];refine⟨_,(af (au e g.nd<|aD aX (aD bI (aD bA (aD bA (aD bA (aD aX (aa i)<|aD J.nH ae ae)<|aD bI (aD bI ae<|aa a)<|aa a)<|aD bI (aD bI ae<|aa a)<|aa a) ae) ae) ae)
 (ag<|aw<|aD aX (aD bI (aa e)<|aa e) ae)),?_⟩
 refine⟨_,rfl,_,_,rfl,rfl,⟨by decide,by decide,by decide⟩,_,_,rfl,rfl,by decide+kernel,_,rfl,_,_,rfl,rfl,.inl ⟨by decide,by decide⟩,_,rfl,_,_,rfl,rfl,.inr ⟨by lia,by lia⟩,_,_,rfl,rfl,_,rfl,_,_,rfl,rfl,.inl ⟨by decide,by decide⟩,_,rfl,_,_,rfl,rfl,.inr ⟨by lia,by lia⟩,_,_,rfl,rfl,_,_,rfl,rfl,_,_,rfl,rfl,.inr ⟨by decide,by decide⟩,_,_,rfl,rfl,by decide,?_⟩;have j:=cZ ((c%10^Int.toNat 15+104729*k*k+31*k*k+1)*48271) (m:=2147483629) (by decide);generalize (c%10^Int.toNat 15+104729*k*k+31*k*k+1)*48271%2147483629=S at j;have r:=cZ (S*S) (m:=2147483587) (by decide);exact⟨_,rfl,_,rfl,_,_,rfl,rfl,.inl ⟨by lia,by lia⟩,_,_,rfl,rfl,by decide,q _ r.1 r.2⟩
def az:Xn:= "abcdefghijklmnopqrstuvwxyz"
def GV(z:Xn):Prop:=∀c∈z.cps.toList,c∈az.cps.toList
def HR:∀c∈az.cps.toList,jE (.str ⟨#[c]⟩)=true:=by decide+kernel
def gX:Xm Xn:=["j","q","x","z","jz","qz","xz","zj","zq","zx"]
def mark(c:Nat):Bool:=c==106||c==113||c==120||c==122
def As:∀z∈gX,1<=z.length/\z.length<=2/\(z.cps.toList.any mark)=true/\(z.cps.toList.all λc=>az.cps.toList.contains c)=true:=by decide+kernel
def Hm:gX.Nodup:=by decide+kernel
def Ci:∀w∈kept,(w.cps.toList.any mark)=false:=by decide+kernel
def DT{z:Xn}(h:GV z)(n:1<=z.length)(m:z.length<=12)(hm:(z.cps.toList.any mark)=true):dZ z=true:=by
 unfold dZ;rw[dT0<|by lia,dT0<|by lia,R6,R6,RZ];refine⟨?_,?_⟩
 ·rw[all_map,Se]
  intro v i;obtain⟨c,j,rfl⟩:=Rk.mp i;exact HR c<|h c j
 ·cases e:IL (.str z) (kept.map V.str) with
  |false=>rfl
  |true=>
   have f:(kept.map V.str).any (λy=>vP y<|.str z)=true:=e;rw[any_map,UX]at f;obtain⟨w,g,l⟩:=f;have a:=Ci w g;rw[eq_of_beq l,hm]at a;cases a
theorem zS:∀zs:Xm Xn,(∀z∈zs,GV z)->GV (Str.join "" zs)
 |[],_=>λc a=>by
  have:c∈([]:Xm Nat):=a;cases this
 |[z],h=>h z<|Ru ..
 |z::y::r,h=>λc a=>by
  have e:(Str.join "" (z::y::r)).cps.toList=z.cps.toList++(Str.join "" (y::r)).cps.toList:=by
   show(z++ "" ++Str.join "" (y::r)).cps.toList=_;rw[iJ,iJ];show z.cps.toList++[]++_=_;rw[Rm]
  rw[e]at a;obtain a|a:=Rg.mp a
  ·exact h z (Ru ..) c a
  ·exact zS (y::r) (λu f=>h u<|Ry _ f) c a
def Fl(i:Int):Nat:=az.cps.toList.getD i.toNat 0
def C6:∀i:Fin 26,qQ az.cps.toList ((i.val:Nat):Int)=some (Fl (i.val:Nat))/\Fl (i.val:Nat)∈az.cps.toList:=by decide+kernel
def zi{i:Int}(h0:0<=i)(a:i<26):qQ az.cps.toList i=some (Fl i)/\Fl i∈az.cps.toList:=by
 have e:((i.toNat:Nat):Int)=i:=Sg h0;have:=C6 ⟨i.toNat,by lia⟩;rw[e]at this;exact this
def j6(i:Int):Xn:=gX.getD i.toNat ""
def Dq{i:Int}(h0:0<=i)(f:i<10):qQ (gX.map V.str) i=some (.str<|j6 i)/\j6 i∈gX:=by
 have a:i.toNat<gX.length:=by
  show i.toNat<10;lia
 have e:((i.toNat:Nat):Int)=i:=Sg h0;have g:gX[i.toNat]? =some gX[i.toNat]:=QB a;have d:j6 i=gX[i.toNat]:=by
  unfold j6;rw[R9,g];rfl
 have:=dq (xs:=gX.map V.str) (j:=i.toNat) (v:=V.str gX[i.toNat]) (by rw[QR,g];rfl);rw[e]at this;rw[d];exact⟨this,Ta a⟩
def FP{i j:Int}(h0:0<=i)(l:i<10)(g:0<=j)(g1:j<10)(h:j6 i=j6 j):i=j:=by
 have f:i.toNat<gX.length:=by
  show i.toNat<10;lia
 have e:j.toNat<gX.length:=by
  show j.toNat<10;lia
 have d:∀{k:Int}(a:k.toNat<gX.length),j6 k=gX[k.toNat]:=λa=>by
  unfold j6;grind
 rw[d f,d e]at h;have:=(TJ Hm).mp h;lia
def qC(B:Xn)(A c:Int)(k:Nat):Xn:=mN B none (some A)++j6 (((k:Int)+c)%10)++mN B (some A) none
def E2{B:Xn}{lo a:Xk Int}(h:GV B):GV (mN B lo a):=λc e=>h c<|Ut<|SI e
def M7{B:Xn}{A c:Int}{k:Nat}(e:GV B)(o:B.length<=9)(g:0<=A)(a1:A<=B.length):dZ (qC B A c k)=true:=by
 have m:=cZ ((k:Int)+c) (m:=10) (by decide);obtain⟨p,n,h,l⟩:=As _ (Dq m.1 m.2).2;have f:=Sg g;have i:(mN B none<|some A).length=A.toNat:=by
  have:=KW (z:=B) (k:=A.toNat) (by lia);rw[f]at this;rw[<-lY,this,RK,lY];lia
 have j:(mN B (some A) none).length=B.length-A.toNat:=by
  have:=Li (z:=B) (k:=A.toNat) (by lia);rw[f]at this;rw[<-lY,this,So,lY]
 have len:(qC B A c k).length=A.toNat+(j6<|((k:Int)+c)%10).length+(B.length-A.toNat):=by
  unfold qC;rw[vd,vd,i,j]
 refine DT (λx a=>?_) (by lia) (by lia) ?_
 ·unfold qC at a
  rw[iJ,iJ]at a;obtain a|a:=Rg.mp a
  ·obtain a|a:=Rg.mp a
   ·exact E2 e x a
   grind
  ·exact E2 e x a
 ·unfold qC
  rw[iJ,iJ,WX,WX,h,Bool.or_true,Bool.true_or]
def Np{B:Xn}{A c:Int}{i j:Nat}(h:i<j)(l:j<10):qC B A c i≠qC B A c j:=by
 intro e;have a:=RH (λz:Xn=>z.cps.toList) e;unfold qC at a;simp only[iJ]at a;have g:=cZ ((i:Int)+c) (m:=10) (by decide);have f:=cZ ((j:Int)+c) (m:=10) (by decide);have:=FP g.1 g.2 f.1 f.2<|Gx<|List.append_cancel_left<|List.append_cancel_right a;lia
def nodup_range{f:Nat->Xn}{n:Nat}(h:∀i j,i<j->j<n->f i≠f j):((List.range n).map f).Nodup:=by
 unfold List.Nodup;rw[Vf];exact UO (λ{a b} _ g e=>h a b e<|Sk.mp g) UY
theorem Aj:∀ys:Xm V,(∀v∈ys,∃c∈az.cps.toList,v=V.str ⟨#[c]⟩)->∃zs:Xm Xn,ys=zs.map V.str/\∀z∈zs,z.length=1/\GV z
 |[],_=>⟨[],rfl,λz f=>by cases f⟩
 |v::r,h=>by
  obtain⟨zs,e,f⟩:=Aj r λu i=>h u<|Ry _ i;obtain⟨c,j,rfl⟩:=h v Ru;refine⟨⟨#[c]⟩::zs,by rw[RC,<-e],λz a=>?_⟩;obtain rfl|a:=Rf.mp a
  ·exact⟨rfl,λd g=>by
    have:d∈[c]:=g;rw[QK.mp this];exact j⟩
  ·exact f z a
theorem xu:∀zs:Xm Xn,(∀z∈zs,z.length=1)->(zs.map (·.length)).sum=zs.length
 |[],_=>rfl
 |z::r,h=>by
  rw[RC,Tw,xu r λy a=>h y<|Ry _ a,h z Ru,Rz];lia
inductive Bc  (vs:Xm V)(H:Hp)(Q:VK):Prop
 |mk(c m:Int)(h0:vs=[.int c,.int m])(e:1<=m)(a:m<=10)(f:∀(l:Xg)(us:Xm Xn)(H':Hp),cH H H'->H l=none->H' l=some (.lst (us.map V.str))->fU us->us.length=m.toNat->Q (.ref l) H')
def v7  :Sp:=λa H Q _=>Bc  a H Q
def x8:cK ["_law_cell","_law_many","_law_letters","_law_signs","_law_base","_law_at"] ["_law_cell","_law_many"] (cI mT):={}
def Cb (D:Df K mg "_law_names" mT ["_law_cell","_law_many"] f fd) (T:Txt K mg kw C) (YH:Gd P w K mg base 1 "_law_mix" rF):Gd P w K mg base 2 "_law_names" v7:=by
 refine aG D x8 λX H vs Q E a h=>?_;obtain⟨c,m,rfl,m1,ap,k⟩:=h;have x:=a.gN YH rfl (by lia) (by decide);have XH:=Q0;obtain⟨S0,S1,S2,S3,S4,S5,_⟩:=a.fg [0,1,2,3,4,5];have y:=a.b T.b_range;refine⟨_,(af (au S2 a.nd ao)
 (af (au S3 a.nd<|a5<|bK ao<|bK ao<|bK ao<|bK ao<|bK ao<|b7 ao ao ao ao ao)
 (af (au S4 a.nd<|bw PySem.F.plainAttrs_str PySem.F.slot_str_join PySem.F.type_str_join J.tX ao<|aj<|bB (is:=[0,2]) (xs:=["_law_k"]) (ns:=["_law_cell","_law_letters"]) a.calm (b8 y<|aj<|aD aX (ak x<|aB (aa S0) ae) ae) {} (λ_ _ _ _ _=>a6 (i:=0)) (λ_ _ _ _ _=>bU) (λ_ _ _ _ _=>ai J.yi (aS (i:=2)) (aD aX (ak ((a.we YH (by lia)<|by decide).lg rfl)<|aB (aS (i:=1))<|aD bA ae<|aM (i:=0)) ae) bP) a.hsc a.hN)
 (af (au S5 a.nd<|aD aX (ak x<|aB (aa S0) ae)<|aD bA (aJ (a.b T.b_len) J.gx di<|aj<|aa S4) ae)
 (ag<|aw<|bB (is:=[0,3,4,5]) (xs:=["_law_k"]) (ns:=["_law_cell","_law_signs","_law_base","_law_at"]) a.calm (b8 y<|aj<|aa S1) {} (λ_ _ _ _ _=>a6 (i:=0)) (λ_ _ _ _ _=>bU) (λ_ _ _ _ _=>aD J.iV (aD J.iV (bT J.tI (aS (i:=3)) bX<|bV<|aS (i:=4))<|ai cD (aS (i:=2)) (aD aX (aD bA (aM (i:=0))<|aS (i:=1)) ae) bP)<|bT J.tI (aS (i:=3)) (bV<|aS (i:=4)) bX) a.hsc a.hN))))),?_⟩
 refine⟨by decide,λsl ad=>?_⟩;have s1:=cH.upd (o:=.lst<|gX.map V.str) ad;have s:upd H sl (.lst<|gX.map V.str) sl=some (.lst<|gX.map V.str):=cE;generalize ab:upd H sl (.lst<|gX.map V.str)=H1 at s1 s;show eU 3 (.ref sl) _ (upd H sl<|.lst<|gX.map V.str) _;rw[ab];refine⟨rfl,_,rfl,c,_,rfl,by decide,by decide,λM M0 M1=>?_⟩;have mm:=cZ M (m:=10) (by decide);refine⟨_,_,rfl,rfl,by decide,?_⟩;generalize M%10=N at mm;refine⟨N,rfl,by lia,by lia,Cg (lo:=0) (N:=N.toNat) (λ_ _ v=>∃c∈az.cps.toList,v=.str ⟨#[c]⟩) (λ_ _ _ _ _ h=>h) (by lia) (λi H2 K1 hi Y G=>?_) λD' ys H2 nD Y hD yl yr=>?_⟩
 ·refine⟨_,rfl,_,rfl,_,rfl,_,_,rfl,rfl,c,_,rfl,by lia,by lia,λm' an al=>?_⟩
  have g:=cZ m' (m:=26) (by decide);exact⟨_,_,rfl,rfl,by lia,az,_,_,rfl,rfl,by decide+kernel,(zi g.1 g.2).1,G _ H2 (cH.refl _) ⟨_,(zi g.1 g.2).2,rfl⟩⟩
 ·obtain⟨p,rfl,ones⟩:=Aj ys λv hv=>by
   obtain⟨j,hj⟩:=QZ hv;exact yr j v hj
  rw[QF]at yl;have L:=PySem.W.KT.join_ones p λz q=>(ones z q).1;have sL:GV (Txt.join "" p):=by
   show GV (Builtin.Str.glued "" p);rw[StrLaws.glued_eq_join];exact zS p λz q=>(ones z q).2
  refine⟨"",D',p,rfl,rfl,cN.of hD,?_,?_⟩
  ·rw[xu p λz q=>(ones z q).1]
   have:("" :Xn).length=0:=by decide+kernel
   rw[this];lia
  ·generalize Txt.join "" p=B at L sL
   have bl:B.length<=9:=by lia
   have r:=s1.trans Y;refine⟨_,rfl,c,_,rfl,by decide,by decide,λR R0 R1=>⟨_,rfl,B,rfl,by lia,_,_,rfl,rfl,_,_,rfl,rfl,by lia,?_⟩⟩;have I:=cZ R (m:=(B.length:Int)+1) (by lia);dsimp only;generalize R%((B.length:Int)+1)=A at I;have aA:=Sg I.1;have c1:=jG B none<|some A;have c2:=jG B (some A) none;refine⟨_,rfl,m,rfl,by lia,by lia,rE (lo:=0) (N:=m.toNat) (λ_=>true) (λj=>.str<|qC B A c j) (by lia) ?_ ?_⟩
   ·intro i os S K1 K2 hi ac s3 G k2
    have n:=cZ ((i:Int)+c) (m:=10) (by decide);obtain⟨sa,sm⟩:=Dq n.1 n.2;obtain⟨q1,q2,_⟩:=As _ sm;have U:qQ (gX.map V.str) ((0+(i:Int)+c)%10)=some (.str<|j6<|((i:Int)+c)%10):=by
     rw[VL];exact sa
    match os,ac with
    |[o1],_=>
     refine⟨⟨[_],rfl,rfl⟩,Oa ⟨_,rfl,_,rfl,_,rfl,B,rfl,by lia,_,rfl,_,rfl,_,rfl,_,_,rfl,rfl,_,_,rfl,rfl,by show(0:Int)<10;decide,xL (s3 _ _<|Y _ _ s) U ⟨_,_,rfl,rfl,by lia,_,rfl,_,rfl,_,rfl,B,rfl,by lia,_,_,rfl,rfl,?_,G rfl S<|cH.refl _⟩⟩⟩;rw[vd];lia
   ·intro l S nl s3 Z
    rw[Vj.mpr λ_ _=>rfl]at Z;have e:((List.range m.toNat).map λj=>V.str<|qC B A c j)=((List.range m.toNat).map<|qC B A c).map V.str:=by
     rw[Tc];rfl
    rw[e]at Z;refine k l _ S (r.trans s3) (r.free nl) Z ⟨by rw[QF,Sy];lia,by rw[QF,Sy];lia,nodup_range λi j O hj=>Np O<|by lia,λz q=>?_⟩ (by rw[QF,Sy]);obtain⟨j,hj,rfl⟩:=Rk.mp q;exact M7 sL bl I.1 (by lia)
def both{G A:Prop}(h:G)(k:G->A):A:=k h
def yY{u k:Int}(f:0<=u)(g:u<=1000000000000000)(a:0<=k)(e:k<=60):0<=u*k/\u*k<=60000000000000000:=
 ⟨Int.mul_nonneg f a,Int.mul_le_mul g e a<|by decide⟩
inductive Ie  (vs:Xm V)(H:Hp)(Q:VK):Prop
 |mk(c u:Int)(p q:Xn)(ps:Xm Xn)(h0:vs=[.int c,.str p,.str q,.int u])(g:0<=u)(e:u<=1000000000000000)(i:p∈ps)(f:q∈ps)(h:p≠q)(a:∀(v:V)(d:SD) H',cH H H'->By H' v d->HM ps d->Q v H')
def De  :Sp:=λa H Q _=>Ie  a H Q
def xf:cK ["_law_cell","_law_one","_law_other","_law_unit","_law_kind","_law_hour"] ["_law_cell","_law_one","_law_other","_law_unit"] (cI kL):={}
def GU (D:Df K mg "_law_saying" kL ["_law_cell","_law_one","_law_other","_law_unit"] f fd) (T:Txt K mg kw C) (Y:Gd P w K mg base 1 "_law_mix" rF):Gd P w K mg base 2 "_law_saying" De:=by
 refine aG D xf λX H vs Q E y h=>?_;obtain⟨c,u,p,q,ps,rfl,O,S,x,hq,M,k⟩:=h;have l:=y.c Y;obtain⟨v,F,S2,U,z,r,_⟩:=y.fg [0,1,2,3,4,5];refine⟨_,(af (au z y.nd<|aD aX (ak l<|aB (aa v) ae) ae)
 (af (au r y.nd<|aD bI (aa U)<|aD aX (ak l<|aB (aa v) ae) ae)
 (af (aH (aF aO (aa z) ae<|cM _)
 (ag<|aw<|aL<|aP ao (aa F)<|aa r)
 aI)
 (af (aH (aF aO (aa z) ae<|cM _)
 (ag<|aw<|aL<|aP ao (aa F)<|ai aU (a5<|aP (aD bJ (aa r) ae) (aa r) bL) (aD aX (ak l<|aB (aa v) ae) ae) bP)
 aI)
 (af (aH (aF aO (aa z) ae<|cM _)
 (ag<|aw<|aL<|aP ao (aa F)<|aa S2)
 aI)
 (ag<|aw<|aL<|bQ ao (aa F) (aa r)<|aD bA (aa r)<|aD bI (aa U)<|aD aX (ak l<|aB (aa v) ae) ae)))))),?_⟩
 have G:(10:Int)^Int.toNat 18=1000000000000000000:=by decide+kernel
 have j:∀{i:Int},0<=i->i<=200000000000000000->dv i:=λa b=>⟨a,by rw[G];lia⟩;refine⟨_,rfl,c,_,rfl,by decide,by decide,λA A0 A1=>⟨_,_,rfl,rfl,by show(0:Int)<5;decide,?_⟩⟩;refine⟨_,rfl,_,rfl,c,_,rfl,by decide,by decide,λB B0 B1=>⟨_,_,rfl,rfl,by show(0:Int)<30;decide,?_⟩⟩;have J:=cZ B (m:=30) (by decide);refine⟨_,_,rfl,rfl,.inl ⟨by lia,by lia⟩,?_⟩;have g:=yY O S J.1 (by lia);generalize u*(B%30)=h at g;generalize A%5=kd;refine⟨_,rfl,rfl,_,rfl,dF (λ_=>⟨_,rfl,_,rfl,uA,λt n=>k _ (.knew p h) _ (cH.upd n) ⟨t,rfl,cE⟩ ⟨x,j g.1<|by lia⟩⟩) λ_=>?_⟩;refine⟨_,rfl,rfl,_,rfl,dF (λ_=>?_) λ_=>?_⟩
 ·have W:0<=h / 3/\h / 3<=h:=⟨Int.ediv_nonneg g.1<|by decide,Int.ediv_le_self _ g.1⟩
  refine⟨_,rfl,_,rfl,_,_,rfl,rfl,⟨by decide,by decide⟩,_,rfl,uA,λb nb=>⟨_,rfl,c,_,rfl,by decide,by decide,λR R0 R1=>⟨_,_,rfl,rfl,by show(0:Int)<3;decide,?_⟩⟩⟩;have N:=cZ R (m:=3) (by decide);obtain⟨bv,Z,s⟩:=rG (xs:=[V.int<|h / 3,V.int h,V.non]) (i:=R%3) N.1 N.2;have I:∃o:Xk Int,bv=oV o/\∀i,o=some i->dv i:=by
   simp only[mem_cons,not_mem_nil,or_false]at s;obtain rfl|rfl|rfl:=s
   ·exact⟨some _,rfl,λi e=>by cases e;exact j W.1<|by lia⟩
   ·exact⟨some _,rfl,λi e=>by cases e;exact j g.1<|by lia⟩
   ·exact⟨none,rfl,λi e=>by cases e⟩
  obtain⟨o,rfl,oo⟩:=I;exact(xL cE Z ⟨uA,λt n=>k _ (.unh p o) _ ((cH.upd nb).trans<|cH.upd n) ⟨t,rfl,cE⟩ ⟨x,oo⟩⟩)
 ·refine⟨_,rfl,rfl,_,rfl,dF (λ_=>⟨_,rfl,_,rfl,uA,λt n=>k _ (.bar p q) _ (cH.upd n) ⟨t,rfl,cE⟩ ⟨x,hq,M⟩⟩) λ_=>?_⟩
  refine⟨_,rfl,_,rfl,_,rfl,_,rfl,_,rfl,c,_,rfl,by decide,by decide,λR R0 R1=>⟨_,_,rfl,rfl,by show(0:Int)<12;decide,?_⟩⟩;have L:=cZ R (m:=12) (by decide);have ab:=yY O S L.1 (by lia);refine⟨_,_,rfl,rfl,.inl ⟨by lia,by lia⟩,_,_,rfl,rfl,MM,λt n=>k _ (.sil p h<|h+u*(R%12)) _ (cH.upd n) ⟨t,rfl,cE⟩ ⟨x,j g.1<|by lia,j (by lia)<|by lia,by lia⟩⟩
def kr{h:TT}{u e:TS}{D:Ends}{σ:St}{H:Hp}(R:St->Hp->Prop)(g:∀a H',R a H'->e D a H')(b:Bool)(l:∀Q:Bool->Hp->Prop,(∀H',cH H H'->Q b H')->h σ H Q)(j:b=true->∀H',cH H H'->(∀a H',R a H'->e D a H')->u { D with nx:=e D } σ H')(i:b=false->∀H',cH H H'->R σ H'):
  C8 (HJ h u zL) e D σ H:=by
 refine l _ λH' f=>?_;cases b with
 |true=>exact fO<|j rfl H' f g
 |false=>exact dH<|g _ _<|i rfl H' f
def Cr{a b:Xn}(h:a≠b):¬(Sum.inr a:Key)=Sum.inr b:=λe=>h<|SV e
def n6(p s t y:Xg):Xm (Key×V):=fI [] [(Sum.inr "persons",V.ref p),(Sum.inr "sights",V.ref s),(Sum.inr "talks",V.ref t),(Sum.inr "sayings",V.ref y)]
def Gi(p s t y:Xg):dS (n6 p s t y) (Sum.inr "persons")=some (V.ref p):=by
 unfold n6 fI;rw[RY,RY,RY,RY,Wa];rw[cP,cP,cP,cP,QG<|Cr<|show("persons" :Xn)≠("sayings" :Xn) by decide,QG<|Cr<|show("persons" :Xn)≠("talks" :Xn) by decide,QG<|Cr<|show("persons" :Xn)≠("sights" :Xn) by decide,QI rfl]
def Ga(p s t y:Xg):dS (n6 p s t y) (Sum.inr "sights")=some (V.ref s):=by
 unfold n6 fI;rw[RY,RY,RY,RY,Wa];rw[cP,cP,cP,QG<|Cr<|show("sights" :Xn)≠("sayings" :Xn) by decide,QG<|Cr<|show("sights" :Xn)≠("talks" :Xn) by decide,QI rfl]
def FT(p s t y:Xg):dS (n6 p s t y) (Sum.inr "talks")=some (V.ref t):=by
 unfold n6 fI;rw[RY,RY,RY,RY,Wa];rw[cP,cP,QG<|Cr<|show("talks" :Xn)≠("sayings" :Xn) by decide,QI rfl]
def F6(p s t y:Xg):dS (n6 p s t y) (Sum.inr "sayings")=some (V.ref y):=by
 unfold n6 fI;rw[RY,RY,RY,RY,Wa];rw[cP,QI rfl]
structure i6(ps:Xm Xn)(H:Hp)(md p s t y:Xg)(ss ts ys:Xm V):Prop where
 hmd:∃Xu,H md=some (.dK Xu)/\Xu.length<=8/\dS Xu (Sum.inr "persons")=some (V.ref p)/\dS Xu (Sum.inr "sights")=some (V.ref s)/\dS Xu (Sum.inr "talks")=some (V.ref t)/\dS Xu (Sum.inr "sayings")=some (V.ref y)
 hp:H p=some (.lst (ps.map V.str))
 hs:H s=some (.lst ss)
 ht:H t=some (.lst ts)
 hy:H y=some (.lst ys)
 ls:ss.length<=24
 lt:ts.length<=64
 ly:ys.length<=60
 gs:∀v∈ss,dQ ps H v
 gt:∀v∈ts,eW ps H v
 gy:∀v∈ys,jo ps H v
def i6.mono{ps:Xm Xn}{H H':Hp}{f p s t y:Xg}{ss g ys:Xm V}(a:cH H H')(o:i6 ps H f p s t y ss g ys):i6 ps H' f p s t y ss g ys:=
 ⟨let ⟨i,h,r⟩:=o.hmd;⟨i,a _ _ h,r⟩,a _ _ o.hp,a _ _ o.hs,a _ _ o.ht,a _ _ o.hy,o.ls,o.lt,o.ly,λv e=>(o.gs v e).mono<|Tk.of a,λv e=>(o.gt v e).mono<|Tk.of a,λv e=>(o.gy v e).mono<|Tk.of a⟩
def i6.Mn{ps:Xm Xn}{H:Hp}{f p s t y:Xg}{ss g ys:Xm V}{v:V}(o:i6 ps H f p s t y ss g ys)(n:f≠s/\p≠s/\t≠s/\y≠s)(l:ss.length+1<=24)(h:dQ ps (upd H s<|.lst<|ss++[v]) v):i6 ps (upd H s<|.lst<|ss++[v]) f p s t y (ss++[v]) g ys:=by
 have e:=Tk.upd o.hs (ys:=ss++[v]);refine⟨by rw[cG n.1];exact o.hmd,by rw[cG n.2.1];exact o.hp,cE,by rw[cG n.2.2.1];exact o.ht,by rw[cG n.2.2.2];exact o.hy,by rw[QC];exact l,o.lt,o.ly,λu a=>?_,λu a=>(o.gt u a).mono e,λu a=>(o.gy u a).mono e⟩;obtain a|a:=Rg.mp a
 ·exact(o.gs u a).mono e
 ·rw[QK.mp a]
  exact h
def i6.O0{ps:Xm Xn}{H:Hp}{g p s t y:Xg}{ss e ys:Xm V}{v:V}(o:i6 ps H g p s t y ss e ys)(n:g≠t/\p≠t/\s≠t/\y≠t)(l:e.length+1<=64)(h:eW ps (upd H t<|.lst<|e++[v]) v):i6 ps (upd H t<|.lst<|e++[v]) g p s t y ss (e++[v]) ys:=by
 have f:=Tk.upd o.ht (ys:=e++[v]);refine⟨by rw[cG n.1];exact o.hmd,by rw[cG n.2.1];exact o.hp,by rw[cG n.2.2.1];exact o.hs,cE,by rw[cG n.2.2.2];exact o.hy,o.ls,by rw[QC];exact l,o.ly,λu a=>(o.gs u a).mono f,λu a=>?_,λu a=>(o.gy u a).mono f⟩;obtain a|a:=Rg.mp a
 ·exact(o.gt u a).mono f
 ·rw[QK.mp a]
  exact h
def i6.OQ{ps:Xm Xn}{H:Hp}{f p s t y:Xg}{ss g ys:Xm V}{v:V}(o:i6 ps H f p s t y ss g ys)(n:f≠y/\p≠y/\s≠y/\t≠y)(l:ys.length+1<=60)(h:jo ps (upd H y<|.lst<|ys++[v]) v):i6 ps (upd H y<|.lst<|ys++[v]) f p s t y ss g (ys++[v]):=by
 have e:=Tk.upd o.hy (ys:=ys++[v]);refine⟨by rw[cG n.1];exact o.hmd,by rw[cG n.2.1];exact o.hp,by rw[cG n.2.2.1];exact o.hs,by rw[cG n.2.2.2];exact o.ht,cE,o.ls,o.lt,by rw[QC];exact l,λu a=>(o.gs u a).mono e,λu a=>(o.gt u a).mono e,λu a=>?_⟩;obtain a|a:=Rg.mp a
 ·exact(o.gy u a).mono e
 ·rw[QK.mp a]
  exact h
def i6.dp{ps:Xm Xn}{H:Hp}{a p s t y:Xg}{ss e ys:Xm V}(o:i6 ps H a p s t y ss e ys):dJ H a (.str "persons") (some<|.ref p):=by
 obtain⟨j,h,_,f,g,l,i⟩:=o.hmd;rw[<-f];exact dJ.k (k:=Sum.inr "persons") h
def i6.ds{ps:Xm Xn}{H:Hp}{a p s t y:Xg}{ss e ys:Xm V}(o:i6 ps H a p s t y ss e ys):dJ H a (.str "sights") (some<|.ref s):=by
 obtain⟨i,h,_,j,f,l,g⟩:=o.hmd;rw[<-f];exact dJ.k (k:=Sum.inr "sights") h
def i6.dt{ps:Xm Xn}{H:Hp}{a p s t y:Xg}{ss e ys:Xm V}(o:i6 ps H a p s t y ss e ys):dJ H a (.str "talks") (some<|.ref t):=by
 obtain⟨j,h,_,l,g,f,i⟩:=o.hmd;rw[<-f];exact dJ.k (k:=Sum.inr "talks") h
def i6.dy{ps:Xm Xn}{H:Hp}{a p s t y:Xg}{ss e ys:Xm V}(o:i6 ps H a p s t y ss e ys):dJ H a (.str "sayings") (some<|.ref y):=by
 obtain⟨i,h,_,j,g,l,f⟩:=o.hmd;rw[<-f];exact dJ.k (k:=Sum.inr "sayings") h
def Ii{ps:Xm Xn}{a:Nat}{z:Xn}(nd:ps.Nodup)(x:2<=ps.length)(hz:ps[a]? =some z):∃h:Xm Xn,d6 (ps.map V.str) (some<|(a:Int)+1) none++d6 (ps.map V.str) none (some (a:Int))=h.map V.str/\1<=h.length/\h.length<=ps.length/\∀y∈h,y∈ps/\y≠z:=by
 have w:=(gI0.mp hz).1;have r:d6 (ps.map V.str) (some<|(a:Int)+1) none=(ps.drop<|a+1).map V.str:=by
  rw[show((a:Int)+1)=((a+1:Nat):Int) by lia,sj,HT.jK,HT.lT,UC<|by lia,R7<|by rw[So];exact QJ _]
 have o:d6 (ps.map V.str) none (some (a:Int))=(ps.take a).map V.str:=by
  rw[sj,HT.jK,HT.lT,UC<|by lia,Uc,WN]
 refine⟨ps.drop (a+1)++ps.take a,by rw[r,o,Si],by rw[QC,So,RK];lia,by rw[QC,So,RK];lia,λy g=>?_⟩;have i:∃k,k≠a/\ps[k]? =some y:=by
  obtain g|g:=Rg.mp g
  ·obtain⟨j,f⟩:=QZ g
   rw[TB]at f;exact⟨a+1+j,by lia,f⟩
  ·obtain⟨j,f⟩:=QZ g
   have p:=(gI0.mp f).1;rw[RK]at p;rw[Sl<|by lia]at f;exact⟨j,by lia,f⟩
 obtain⟨k,q,l⟩:=i;refine⟨QH l,λe=>q ?_⟩;obtain⟨s,m⟩:=gI0.mp l;obtain⟨v,n⟩:=gI0.mp hz;exact(TJ nd).mp (by rw[m,n,e])
def i6.OT{ps:Xm Xn}{H:Hp}{a p s t y s':Xg}{ss w ys i:Xm V}{Xu:Xm (Key×V)}(o:i6 ps H a p s t y ss w ys)(m:H a=some (.dK Xu))(r:H s'=some (.lst i))(l:i.length<=24)(g:∀v∈i,dQ ps H v):i6 ps (upd H a<|.dK<|putK Xu (Sum.inr "sights")<|.ref s') a p s' t y i w ys:=by
 obtain⟨E,h,C,B,x,D,A⟩:=o.hmd;rw[m]at h;cases h;have j:∀{b:Xg}{q:Xm V},H b=some (.lst q)->b≠a:=λe z=>by rw[z,m]at e;cases e
 have n:Tk H (upd H a<|.dK<|putK Xu (Sum.inr "sights")<|.ref s'):=λb q e=>by
  rw[cG λz=>by rw[z,m]at e;cases e];exact e
 refine⟨⟨_,cE,?_,?_,?_,?_,?_⟩,by rw[cG<|j o.hp];exact o.hp,by rw[cG<|j r];exact r,by rw[cG<|j o.ht];exact o.ht,by rw[cG<|j o.hy];exact o.hy,l,o.lt,o.ly,λv f=>(g v f).mono n,λv f=>(o.gt v f).mono n,λv f=>(o.gy v f).mono n⟩
 ·unfold putK
  split
  ·rw[QF]
   exact C
  ·rename_i z
   rw[gI,x]at z;exact absurd rfl z
 ·rw[cP,QG<|Cr<|by decide+kernel]
  exact B
 ·rw[cP,QI rfl]
 ·rw[cP,QG<|Cr<|by decide+kernel]
  exact D
 ·rw[cP,QG<|Cr<|by decide+kernel]
  exact A
def i6.Pk{ps:Xm Xn}{H:Hp}{f p s t y t':Xg}{ss D ys a:Xm V}{Xu:Xm (Key×V)}(o:i6 ps H f p s t y ss D ys)(m:H f=some (.dK Xu))(q:H t'=some (.lst a))(l:a.length<=64)(g:∀v∈a,eW ps H v):i6 ps (upd H f<|.dK<|putK Xu (Sum.inr "talks")<|.ref t') f p s t' y ss a ys:=by
 obtain⟨E,h,B,A,w,C,x⟩:=o.hmd;rw[m]at h;cases h;have j:∀{b:Xg}{r:Xm V},H b=some (.lst r)->b≠f:=λe z=>by rw[z,m]at e;cases e
 have n:Tk H (upd H f<|.dK<|putK Xu (Sum.inr "talks")<|.ref t'):=λb r e=>by
  rw[cG λz=>by rw[z,m]at e;cases e];exact e
 refine⟨⟨_,cE,?_,?_,?_,?_,?_⟩,by rw[cG<|j o.hp];exact o.hp,by rw[cG<|j o.hs];exact o.hs,by rw[cG<|j q];exact q,by rw[cG<|j o.hy];exact o.hy,o.ls,l,o.ly,λv i=>(o.gs v i).mono n,λv i=>(g v i).mono n,λv i=>(o.gy v i).mono n⟩
 ·unfold putK
  split
  ·rw[QF]
   exact B
  ·rename_i z
   rw[gI,C]at z;exact absurd rfl z
 ·rw[cP,QG<|Cr<|by decide+kernel]
  exact A
 ·rw[cP,QG<|Cr<|by decide+kernel]
  exact w
 ·rw[cP,QI rfl]
 ·rw[cP,QG<|Cr<|by decide+kernel]
  exact x
def um:dZ "word" =true:=by decide+kernel
inductive NU(sc nl f S g Y:Xg)(hd U:Int)(n:Hp)(ps:Xm Xn)(i:Nat)(σ:St)(H':Hp):Prop
 |mk(ss h ys:Xm V)(j p l r m q a:Xk V)(e:σ=[some (.ref sc),some (.int hd),some (.ref nl),some (.int U),some (.ref f),j,p,l,r,m,q,a,none,none])(s:∀b o,n b=some o->b≠S->b≠g->b≠Y->H' b=some o)(ok:i6 ps H' f nl S g Y ss h ys)(lt:h.length<=i)(v:ys.length<=50)
inductive MV(K:Frag)(vs:Xm V)(H:Hp)(Q:VK):Prop
 |mk(sc:Xg)(ns:Xm Int)(e:vs=[.ref sc])(h:cN K H sc (ns.map V.int))(f:ns.length<=63)
   (k:∀(a p s t y:Xg)(ps:Xm Xn)(ss g ys:Xm V)(H':Hp),cH H H'->H a=none->fU ps->2<=ps.length->i6 ps H' a p s t y ss g ys->Q (.ref a) H')
def El(K:Frag):Sp:=λa H Q _=>MV K a H Q
def Bu:cK ["_law_script","_law_header","_law_names_here","_law_unit","_law_made_here","_law_k","_law_cell","_law_at","_law_one","_law_rest","_law_other","_law_hour","_law_two","_law_more"] ["_law_script"] (cI pq):={}
def HS (D:Df K mg "_law_made" pq ["_law_script"] f fd) (T:Txt K mg kw C) (fo:Gd P w K mg base 1 "_law_cell_at" (xK K)) (YH:Gd P w K mg base 1 "_law_mix" rF) (ft:Gd P w K mg base 2 "_law_names" v7) (fz:Gd P w K mg base 2 "_law_saying" De):Gd P w K mg base 3 "_law_made" (El K):=by
 refine aG D Bu λX H vs Q E y h=>?_;obtain⟨sc,ns,rfl,bn,go,k⟩:=h;have cl:=y.c fo;have e4:=y.c YH;have hu:=d5 y.room;obtain⟨S0,S1,S2,S3,S4,S5,S6,S7,S8,S9,c3,cr,eo,el,_⟩:=y.fg [0,1,2,3,4,5,6,7,8,9,10,11,12,13];have am:=y.b T.b_len;obtain rfl:=y.fK;have XH:sizeLine=16777216:=Q0;refine⟨_,(af (au S1 y.nd<|ak e4<|aB (ak cl<|aB (aa S0) ae) ae)
 (af (au S2 y.nd<|ak (y.c ft)<|aB (ak cl<|aB (aa S0) ae)<|aD bA ae<|aD aX (aa S1) ae)
 (af (au S3 y.nd<|ai aU (a5<|aB ae<|aD bA ae<|aD aX (ak cl<|aB (aa S0) ae)<|aD J.nH ae ae) (aD aX (aD bJ (aa S1) ae) ae) bP)
 (af (au S4 y.nd<|J.NZ ao (aa S2) ao (a5 bz) ao (a5 bz) ao<|a5 bz)
 (af (aZ y.own y.calm (J.mR (y.b T.b_range)<|aB ae<|aJ (y.b T.b_min) (J.gD y.calm) uG<|aB (aJ am aY di<|aj<|aa S0) ae) (aN S5 y.nd)
 (af (au S6 y.nd<|ak e4<|aB (ai aU (aa S0) (aa S5) aR)<|aa S5)
 (af (au S7 y.nd<|aD aX (aD bJ (aa S6) ae)<|aJ am aY di<|aj<|aa S2)
 (af (au S8 y.nd<|ai aU (aa S2) (aa S7) aR)
 (af (au S9 y.nd<|aD cA (bT cw (aa S2) (bV<|aD bA (aa S7) ae) bX)<|bT cw (aa S2) bX<|bV<|aa S7)
 (af (au c3 y.nd<|ai aU (aa S9) (aD aX (aD bJ (aa S6) ae)<|aJ am aY di<|aj<|aa S9) bP)
 (af (au cr y.nd<|aD bI (aa S3)<|aD aX (aD bJ (aa S6) ae) ae)
 (ag (aH (a7<|bg (aF aO (aD aX (aa S6) ae) ae<|cM _)<|bq<|aF bW (aJ am aY di<|aj<|aK hu (aa S4) ao ah) ae<|cM _)
 (ag<|br<|bw RV Rq Rv bF (aK hu (aa S4) ao ah)<|aj<|aL<|aP (aa S8) (aa cr)<|aL<|aj ao)
 (ag (aH (a7<|bg (aF aO (aD aX (aa S6) ae) ae<|cM _)<|bq<|aF bW (aJ am aY di<|aj<|aK hu (aa S4) ao ah) ae<|cM _)
 (ag<|br<|bw RV Rq Rv bF (aK hu (aa S4) ao ah)<|aj<|ak (y.c fz)<|bQ (aa S6) (aa S8) (aa c3)<|aa S3)
 (ag<|br<|bw RV Rq Rv bF (aK hu (aa S4) ao ah)<|aj<|aL<|bQ (aa cr) (aa S8) (aa c3)<|ai aU (a5<|aB ao ao) (aD aX (aD bJ (aa S6) ae) ae) bP))))))))))))
 (af (aH (aF (J.uJ hu) (aK hu (aa S4) ao ah) (a5 bz)<|cM _)
 (ag<|br<|bw RV Rq Rv bF (aK hu (aa S4) ao ah)<|aj<|aL<|aP (ai aU (aa S2) ae ah) ae<|aL<|aj ao)
 aI)
 (af (aH (a7<|bg (aF aO (aD aX (aD bJ (aa S1) ae) ae) ae<|cM _)<|bq<|aF bR (aJ am aY di<|aj<|aa S2) ae<|cM _)
 (af (au eo y.nd<|a5<|aB (aL<|aP (ai aU (aa S2) ae ah) ae<|aL<|aj ao)<|aL<|aP (ai aU (aa S2) ae ah) ae<|aL<|aj ao)
 (af (bN hu (aa S4) ao<|aD cA (aa eo)<|bB (is:=[2]) (xs:=["_law_one"]) (ns:=["_law_names_here"]) y.calm (aQ<|bT cw (aK hu (aa S4) ao ah) bX<|bV ae) {} (λ_ _ _ _ _=>a6 (i:=0)) (λ_ _ _ _ _=>bC<|aF b9 (ai bp (aM (i:=0)) ae ah) (ai cD (aS (i:=1)) ae ah)<|cM _) (λ_ _ _ _ _=>aM (i:=0)) y.hsc y.hN)
 (af (au el y.nd<|a5<|aB (aL<|bQ (aa S3) (ai aU (aa S2) ae ah) (ai aU (aa S2) ae ah) ao)<|aL<|bQ (aD bI ae<|aa S3) (ai aU (aa S2) ae ah) (ai aU (aa S2) ae ah) ao)
 (ag<|bN hu (aa S4) ao<|aD cA (aD cA (aa el)<|a5<|aj<|aL<|bQ (aD bI ae<|aa S3) (ai aU (aa S2) ae ah) (ai aU (aa S2) ae ah) ao)<|aK hu (aa S4) ao ah))))
 aI)
 (ag<|aw<|aa S4)))))))),?_⟩
 have bf:(10:Int)^Int.toNat 15=1000000000000000:=by decide+kernel
 refine⟨_,rfl,sc,ns,0,rfl,bn,by decide,λc0=>⟨c0,_,rfl,by decide,by decide,λhd gc gg=>?_⟩⟩;have h6:=cZ hd (m:=6) (by decide);refine⟨_,rfl,sc,ns,0,rfl,bn,by decide,λc1=>⟨_,rfl,_,_,rfl,rfl,by show(0:Int)<6;decide,_,_,rfl,rfl,c1,_,rfl,by lia,by lia,λF ps H1 s1 gk f4 po pl=>?_⟩⟩;have db:2<=ps.length:=by lia
 have dn:=s1.seq bn;refine⟨_,rfl,sc,ns,1,rfl,dn,by decide,λc2=>⟨_,_,rfl,rfl,⟨by decide,by decide,by decide⟩,_,_,rfl,rfl,by rw[bf];decide,_,_,rfl,rfl,sZ,λL eh=>?_⟩⟩;have f1:=cZ c2 (m:=10^Int.toNat 15) (by rw[bf];decide);rw[bf]at f1;have h2:=cZ (hd / 6) (m:=2) (by decide);obtain⟨bv,hb,d3⟩:=rG (xs:=[V.int 1,V.int<|1+c2%10^Int.toNat 15]) (i:=hd / 6%2) h2.1 h2.2;have f2:∃U:Int,bv=.int U/\0<=U/\U<=1000000000000000:=by
  simp only[mem_cons,not_mem_nil,or_false]at d3;obtain rfl|rfl:=d3
  ·exact⟨_,rfl,by decide,by decide⟩
  ·rw[bf]
   exact⟨_,rfl,by lia,by lia⟩
 obtain⟨U,rfl,U0,U1⟩:=f2;have s2:=s1.trans<|cH.upd (o:=.lst [V.int 1,V.int<|1+c2%10^Int.toNat 15]) eh;have ab:=cH.upd (o:=.lst [V.int 1,V.int<|1+c2%10^Int.toNat 15]) eh _ _ f4;refine⟨_,rfl,_,_,rfl,rfl,⟨by decide,by decide⟩,_,_,rfl,rfl,by show(0:Int)<2;decide,xL cE hb ?_⟩;generalize upd H1 L (.lst [V.int 1,V.int<|1+c2%10^Int.toNat 15])=H2 at s2 ab;intro p an;refine⟨_,rfl,Hd,λS nS=>⟨Hd,λs nT=>⟨Hd,λY nY=>?_⟩⟩⟩;have W:=cH.upd (o:=.dK []) an;have sS:=cH.upd (o:=.lst []) nS;have sT:=cH.upd (o:=.lst []) nT;have sY:=cH.upd (o:=.lst []) nY;have ac:=sY _ _<|sT _ _<|sS _ _<|show upd H2 p (.dK []) p=some (.dK []) from cE;have ca:=sY _ _<|sT _ _<|show upd (upd H2 p<|.dK []) S (.lst []) S=some (.lst []) from cE;have cc:=sY _ _<|show upd (upd (upd H2 p<|.dK []) S<|.lst []) s (.lst []) s=some (.lst []) from cE;have bc:upd (upd (upd (upd H2 p<|.dK []) S<|.lst []) s<|.lst []) Y (.lst []) Y=some (.lst []):=cE;have ej:=((W.trans sS).trans sT).trans sY;have fS:H2 S=none:=W.free nS;have fT:H2 s=none:=(W.trans sS).free nT;have fY:H2 Y=none:=((W.trans sS).trans sT).free nY;refine⟨ac,[(Sum.inr "persons",.ref F),(Sum.inr "sights",.ref S),(Sum.inr "talks",.ref s),(Sum.inr "sayings",.ref Y)],rfl,by show 4<=15;decide,?_⟩;generalize upd (upd (upd (upd H2 p<|.dK []) S<|.lst []) s<|.lst []) Y (.lst [])=H4 at ac ca cc bc ej;have en:S≠p:=λe=>by rw[e,ac]at ca;cases ca
 have ex:s≠p:=λe=>by rw[e,ac]at cc;cases cc
 have fa:Y≠p:=λe=>by rw[e,ac]at bc;cases bc
 have c7:S≠s:=cF (show upd (upd H2 p<|.dK []) S (.lst []) S=some (.lst []) from cE) nT;have cm:S≠Y:=cF (sT _ _<|show upd (upd H2 p<|.dK []) S (.lst []) S=some (.lst []) from cE) nY;have ep:s≠Y:=cF (show upd (upd (upd H2 p<|.dK []) S<|.lst []) s (.lst []) s=some (.lst []) from cE) nY;have bi:cH H2 (upd H4 p<|.dK<|fI [] [(Sum.inr "persons",.ref F),(Sum.inr "sights",.ref S),(Sum.inr "talks",.ref s),(Sum.inr "sayings",.ref Y)]):=λb o e=>by
  rw[cG<|cF e an];exact ej _ _ e
 have ev:i6 ps (upd H4 p<|.dK<|fI [] [(Sum.inr "persons",.ref F),(Sum.inr "sights",.ref S),(Sum.inr "talks",.ref s),(Sum.inr "sayings",.ref Y)]) p F S s Y [] [] []:=
  ⟨⟨_,cE,Rn (ie _ _)<|by show 0+4<=8;decide,Gi F S s Y,Ga F S s Y,FT F S s Y,F6 F S s Y⟩,bi _ _ ab,by rw[cG en];exact ca,by rw[cG ex];exact cc,by rw[cG fa];exact bc,by decide,by decide,by decide,(λv B=>by cases B),(λv B=>by cases B),λv B=>by cases B⟩
 generalize upd H4 p (.dK<|fI [] [(Sum.inr "persons",V.ref F),(Sum.inr "sights",.ref S),(Sum.inr "talks",.ref s),(Sum.inr "sayings",.ref Y)])=H5 at bi ev;have keep:∀{b:Xg}{o:HO}{H6:Hp},(∀b o,H5 b=some o->b≠S->b≠s->b≠Y->H6 b=some o)->H2 b=some o->H6 b=some o:=λkp e=>kp _ _ (bi _ _ e) (cF e fS) (cF e fT)<|cF e fY;have cf:(p≠S/\p≠s/\p≠Y):=⟨en.symm,ex.symm,fa.symm⟩;have ad:(F≠S/\F≠s/\F≠Y):=⟨cF ab fS,cF ab fT,cF ab fY⟩;have sq:∀{H6:Hp},cH H H6->cN X.K H6 sc (ns.map V.int):=λs'=>s'.seq bn;have f8:=s2.trans bi;have ea:∀{H6:Hp},(∀b o,H5 b=some o->b≠S->b≠s->b≠Y->H6 b=some o)->cH H H6:=λkp b o e=>keep kp<|s2 _ _ e;have fy:(10:Int)^Int.toNat 18=1000000000000000000:=by decide+kernel
 have aq:∀{i:Int},0<=i->i<=200000000000000000->dv i:=λa b=>⟨a,by rw[fy];lia⟩;have fj:(ns.map V.int).length=ns.length:=QF ..;have co:(ps.map V.str).length=ps.length:=QF ..;have jl:(if(63:Int)<((ns.map V.int).length:Int) then 63 else((ns.map V.int).length:Int))=(ns.length:Int):=by
  rw[fj];split<;>lia
 refine⟨_,rfl,sc,_,rfl,.inl<|sq f8,_,_,rfl,2,(ns.length:Int),by rw[jl],⟨by decide,by decide,by lia,by lia⟩,mJ (lo:=2) (n:=((ns.length:Int)-2).toNat) (NU sc F p S s Y hd U H5 ps) ⟨[],[],[],none,none,none,none,none,none,none,rfl,λb o e _ _ _=>e,ev,QJ 0,by decide⟩ ?_ ?_⟩
 ·rintro i σ H6 hi ⟨ss,ts,ys,e5,e6,e7,e8,e9,XJ,e3,rfl,kp,ok,lt,ly⟩
  have dr:=sq<|ea kp;have hk:(i+2)<ns.length:=by lia
  have av:qQ (ns.map V.int) ((2:Int)+(i:Int))=some (.int ns[i+2]):=by
   rw[show(2:Int)+(i:Int)=((i+2:Nat):Int) by lia];exact dq (by rw[QR,QB hk];rfl)
  refine⟨_,rfl,_,rfl,sc,_,_,_,rfl,rfl,dr,av,_,rfl,_,_,rfl,by lia,by lia,λN n0 n1=>?_⟩;have om:=cZ (N / 8) (m:=(ps.length:Int)) (by lia);refine⟨_,rfl,_,_,rfl,rfl,⟨by decide,by decide⟩,_,rfl,F,_,rfl,.inl<|cN.of ok.hp,_,_,rfl,rfl,by rw[co];lia,?_⟩;rw[co];generalize N / 8%(ps.length:Int)=A at om;have aA:((A.toNat:Nat):Int)=A:=Sg om.1;obtain⟨I,al⟩:∃z,ps[A.toNat]? =some z:=⟨_,QB<|by lia⟩;have a4:qQ (ps.map V.str) A=some (.str I):=by
   rw[<-aA];exact dq (by rw[QR,al];rfl)
  obtain⟨rs,es,ge,gu,fp⟩:=Ii po.nd db al;rw[aA]at es;refine⟨_,rfl,_,rfl,xL ok.hp a4 ?_⟩;have ch:=λlo hi=>jA (ps.map V.str) lo hi;have gi:=po.hi;refine⟨_,rfl,_,rfl,_,_,rfl,rfl,_,rfl,F,_,rfl,cN.of ok.hp,λx1 y1=>⟨_,rfl,_,rfl,_,rfl,F,_,rfl,cN.of<|cH.upd y1 _ _ ok.hp,λx2 y2=>⟨x1,x2,_,_,rfl,rfl,cN.of<|cH.upd y2 _ _ cE,cN.of cE,by have:=ch (some<|A+1) none;have:=ch none<|some A;rw[co]at *;lia,λx3 y3=>?_⟩⟩⟩;have dg:cH H6 (upd (upd (upd H6 x1<|.lst<|d6 (ps.map V.str) (some<|A+1) none) x2<|.lst<|d6 (ps.map V.str) none<|some A) x3<|.lst<|d6 (ps.map V.str) (some<|A+1) none++d6 (ps.map V.str) none (some A)):=((cH.upd y1).trans<|cH.upd y2).trans<|cH.upd y3;have dd:upd (upd (upd H6 x1<|.lst<|d6 (ps.map V.str) (some<|A+1) none) x2<|.lst<|d6 (ps.map V.str) none<|some A) x3 (.lst<|d6 (ps.map V.str) (some<|A+1) none++d6 (ps.map V.str) none (some A)) x3=some (.lst<|rs.map V.str):=by
   rw[<-es];exact cE
  generalize upd (upd (upd H6 x1<|.lst<|d6 (ps.map V.str) (some<|A+1) none) x2<|.lst<|d6 (ps.map V.str) none<|some A) x3 (.lst<|d6 (ps.map V.str) (some<|A+1) none++d6 (ps.map V.str) none (some A))=H7 at dg dd;have fi:(rs.map V.str).length=rs.length:=QF ..;have rm:=cZ (N / 64) (m:=(rs.length:Int)) (by lia);obtain⟨z2,ar,be⟩:=zT rm.1 rm.2;obtain⟨ek,et⟩:=fp z2 be;have da:I∈ps:=QH al;refine⟨_,rfl,_,rfl,_,_,rfl,rfl,⟨by decide,by decide⟩,_,rfl,x3,_,rfl,.inl<|cN.of dd,_,_,rfl,rfl,by rw[fi];lia,xL dd (by rw[fi];exact ar) ?_⟩;have hm:=cZ (N / 1009) (m:=36) (by decide);have dx:=yY U0 U1 hm.1 (by lia);refine⟨_,rfl,_,rfl,_,_,rfl,rfl,⟨by decide,by decide⟩,_,_,rfl,rfl,by show(0:Int)<36;decide,_,_,rfl,rfl,.inl ⟨by lia,by lia⟩,?_⟩;generalize U*(N / 1009%36)=hr at dx;have kH:dv hr:=aq dx.1 (by lia);have l:=ok.mono dg;have cn:∀b o,H5 b=some o->b≠S->b≠s->b≠Y->H7 b=some o:=λb o e n1 n2 n3=>dg _ _<|kp b o e n1 n2 n3;have ds:=l.ds;have dt:=l.dt;have dy:=l.dy;refine both (G:=_) ?_ λother=>⟨_,rfl,_,_,rfl,rfl,by show(0:Int)<8;decide,rfl,_,rfl,dF (λ_=>⟨_,rfl,p,_,rfl,ds,S,_,rfl,.inl<|cN.of l.hs,_,_,rfl,rfl,_,rfl,dF (λf0=>?_) λ_=>other⟩) λ_=>dH other⟩
  ·refine both (G:=_) ?_ λbb=>⟨_,rfl,_,_,rfl,rfl,by show(0:Int)<8;decide,rfl,_,rfl,dF (λ_=>⟨_,rfl,p,_,rfl,dy,Y,_,rfl,.inl<|cN.of l.hy,_,_,rfl,rfl,_,rfl,dF (λf7=>?_) λ_=>bb⟩) λ_=>dH bb⟩
   ·obtain⟨wv,hw,eu⟩:=rG (xs:=[V.str "both",V.str "one"]) (i:=N / 512%2) (cZ _<|by decide).1 (cZ (N / 512) (m:=2)<|by decide).2
    have dc:∃wy:Xn,wv=.str wy/\(wy= "both" \/wy= "one"):=by
     simp only[mem_cons,not_mem_nil,or_false]at eu;obtain rfl|rfl:=eu
     ·exact⟨_,rfl,.inl rfl⟩
     ·exact⟨_,rfl,.inr rfl⟩
    obtain⟨wy,rfl,dc⟩:=dc;refine⟨_,rfl,p,_,rfl,dt,.inl ⟨rfl,_,cN.of l.ht⟩,_,rfl,_,rfl,_,rfl,sZ,λR d2=>⟨_,rfl,_,_,rfl,rfl,⟨by decide,by decide⟩,_,_,rfl,rfl,by show(0:Int)<2;decide,xL cE hw ⟨MM,λtp M=>?_⟩⟩⟩;have s8:=(cH.upd (o:=.lst [V.str "both",V.str "one"]) d2).trans<|cH.upd (o:=.tup [.int hr,.str I,.str z2,.str wy]) M;have g:=l.mono s8;have ay:tp≠s:=(cF (cH.upd (o:=.lst [V.str "both",V.str "one"]) d2 _ _ l.ht) M).symm;refine⟨s,ts,.ref tp,rfl,rfl,g.ht,by lia,?_⟩;refine⟨ss,ts++[.ref tp],ys,_,_,_,_,_,_,_,rfl,λb o e n1 n2 n3=>by rw[cG n2];exact s8 _ _<|cn b o e n1 n2 n3,g.O0 ⟨cf.2.1,ad.2.1,c7,ep.symm⟩ (by lia) ⟨tp,hr,I,z2,wy,rfl,by rw[cG ay];exact cE,kH,da,ek,λe=>et e.symm,dc⟩,by rw[QC];show ts.length+1<=i+1;lia,ly⟩
   ·rw[Ro]at f7
    refine⟨_,rfl,p,_,rfl,dy,.inl ⟨rfl,_,cN.of l.hy⟩,_,rfl,_,rfl,_,rfl,_,rfl,N,U,I,z2,ps,rfl,U0,U1,da,ek,λe=>et e.symm,λv d H8 s8 sd sk=>?_⟩;have g:=l.mono s8;refine⟨Y,ys,v,rfl,rfl,g.hy,by lia,?_⟩;have si:=(J4 sd sk).mono<|Tk.upd g.hy (ys:=ys++[v]);refine⟨ss,ts,ys++[v],_,_,_,_,_,_,_,rfl,λb o e n1 n2 n3=>by rw[cG n3];exact s8 _ _<|cn b o e n1 n2 n3,g.OQ ⟨cf.2.2,ad.2.2,cm,ep⟩ (by lia) si,by lia,by rw[QC];show ys.length+1<=50;lia⟩
  ·rw[Ro]at f0
   refine⟨_,rfl,p,_,rfl,ds,.inl ⟨rfl,_,cN.of l.hs⟩,_,rfl,_,rfl,L1,λta as=>⟨uA,λtp M=>?_⟩⟩;have sa:=cH.upd (o:=.tup [.str "word"]) as;have s8:=sa.trans<|cH.upd (o:=.tup [.str I,.int hr,.ref ta]) M;have g:=l.mono s8;have ay:tp≠S:=(cF (sa _ _ l.hs) M).symm;have de:ta≠S:=(cF l.hs as).symm;refine⟨S,ss,.ref tp,rfl,rfl,g.hs,by lia,?_⟩;refine⟨ss++[.ref tp],ts,ys,_,_,_,_,_,_,_,rfl,λb o e n1 n2 n3=>by rw[cG n1];exact s8 _ _<|cn b o e n1 n2 n3,g.Mn ⟨cf.1,ad.1,c7.symm,cm.symm⟩ (by lia) ⟨tp,I,hr,ta,["word"],rfl,by rw[cG ay];exact cE,da,kH,by rw[cG de];exact cH.upd M _ _ cE,by decide,by decide,λx hx=>by rw[QK]at hx;rw[hx];exact um⟩,by lia,ly⟩
 ·rintro σ H6 ⟨ss,ts,ys,e5,e6,e7,e8,e9,XJ,e3,rfl,kp,ok,lt,ly⟩
  have gp:∀{XY:Xm V}{H8:Hp},cH H H8->i6 ps H8 p F S s Y XY ts ys->Q (.ref p) H8:=λs8 g=>k p F S s Y ps _ ts ys _ s8 (s2.free an) po db g;have s6:=ea kp;have ds:=ok.ds;dsimp only;refine kr (λeb H'=>∃(XY:Xm V),eb=[some<|.ref sc,some<|.int hd,some<|.ref F,some<|.int U,some<|.ref p,e5,e6,e7,e8,e9,XJ,e3,none,none]/\cH H H'/\i6 ps H' p F S s Y XY ts ys) ?_ ss.isEmpty (λQ' q'=>?_) (λem H7 s7 hR=>?_) λ_ H7 s7=>?_
  ·rintro eb H8 ⟨XY,rfl,s8,g⟩
   have ret:∀{e2:St}{H9:Hp}{S' T':Xg}{f3 fx:Xm V},e2[4]? =some (some<|.ref p)->cH H H9->i6 ps H9 p F S' T' Y f3 fx ys->Gz (je 4) { nx:=λ_ H'=>Q .non H',rt:=Q } e2 H9:=λh s9 fr=>⟨_,h,k p F _ _ Y ps _ _ ys _ s9 (s2.free an) po db fr⟩;refine⟨_,rfl,_,_,rfl,rfl,⟨by decide,by decide⟩,_,_,rfl,rfl,by show(0:Int)<3;decide,rfl,_,rfl,dF (λ_=>⟨_,rfl,F,_,rfl,.inl<|cN.of g.hp,_,_,rfl,rfl,_,rfl,dF (λh3=>?_) λ_=>ret rfl s8 g⟩) λ_=>dH<|ret rfl s8 g⟩;have gm:3<=ps.length:=by
    rw[Ro,QF]at h3;lia
   clear h3;obtain⟨z0,cd⟩:∃z,ps[0]? =some z:=⟨_,QB<|by lia⟩;obtain⟨I,al⟩:∃z,ps[1]? =some z:=⟨_,QB<|by lia⟩;obtain⟨z2,b0⟩:∃z,ps[2]? =some z:=⟨_,QB<|by lia⟩;have un:∀{i j:Nat}{a b:Xn},ps[i]? =some a->ps[j]? =some b->i≠j->a≠b:=λh1 h2 n e=>by
    obtain⟨q1,q2⟩:=gI0.mp h1;obtain⟨q3,q4⟩:=gI0.mp h2;exact n ((TJ po.nd).mp<|by rw[q2,q4,e])
   have az:∀{i:Nat}{z:Xn},ps[i]? =some z->qQ (ps.map V.str) (i:Int)=some (.str z):=λh=>dq (by rw[QR,h];rfl);have a3:qQ (ps.map V.str) 0=some (.str z0):=az cd;have a4:qQ (ps.map V.str) 1=some (.str I):=az al;have ar:qQ (ps.map V.str) 2=some (.str z2):=az b0;have a0:=QH cd;have dl:=QH al;have be:=QH b0;have ey:∀x∈[("word" :Xn)],dZ x=true:=λx hx=>by rw[QK]at hx;rw[hx];exact um
   refine⟨_,rfl,xL g.hp a3 ⟨L1,λa1 n1=>⟨uA,λt1 m1=>?_⟩⟩⟩;have W:=cH.upd (o:=.tup [.str "word"]) n1;have q:=cH.upd (o:=.tup [.str z0,.int 0,.ref a1]) m1;have g1:dQ ps (upd (upd H8 a1<|.tup [.str "word"]) t1<|.tup [.str z0,.int 0,.ref a1]) (.ref t1):=⟨t1,z0,0,a1,["word"],rfl,cE,a0,aq (by decide)<|by decide,q _ _ cE,by decide,by decide,ey⟩;have s9:=W.trans q;generalize upd (upd H8 a1<|.tup [.str "word"]) t1 (.tup [.str z0,.int 0,.ref a1])=H9 at s9 g1;clear W q n1 m1;refine⟨_,rfl,xL (s9 _ _ g.hp) a4 ⟨L1,λa2 n2=>⟨uA,λt2 m2=>⟨sZ,λtw er=>?_⟩⟩⟩⟩;have W:=cH.upd (o:=.tup [.str "word"]) n2;have q:=cH.upd (o:=.tup [.str I,.int 0,.ref a2]) m2;have Z:=cH.upd (o:=.lst [.ref t1,.ref t2]) er;have g2:dQ ps (upd (upd H9 a2<|.tup [.str "word"]) t2<|.tup [.str I,.int 0,.ref a2]) (.ref t2):=⟨t2,I,0,a2,["word"],rfl,cE,dl,aq (by decide)<|by decide,q _ _ cE,by decide,by decide,ey⟩;have g2:=g2.mono<|Tk.of Z;have g1:=g1.mono<|Tk.of<|(W.trans q).trans Z;have dk:upd (upd (upd H9 a2<|.tup [.str "word"]) t2<|.tup [.str I,.int 0,.ref a2]) tw (.lst [.ref t1,.ref t2]) tw=some (.lst [.ref t1,.ref t2]):=cE;have sX:=s9.trans<|(W.trans q).trans Z;generalize upd (upd (upd H9 a2<|.tup [.str "word"]) t2<|.tup [.str I,.int 0,.ref a2]) tw (.lst [.ref t1,.ref t2])=HX at sX g1 g2 dk;clear W q Z n2 m2 er s9;have ck:=g.mono sX;have ec:d6 XY none (some 20)=XY.take 20:=by
    unfold d6;have e1:HT.iq XY.length XY.length (some 20)=min 20 XY.length:=HT.lT _ _ 20;rw[e1,show HT.iq XY.length 0 none=0 from rfl,WN,Uc,List.take_eq_take_iff];lia
   refine⟨_,rfl,_,rfl,p,_,rfl,ck.ds,_,rfl,S,_,rfl,cN.of ck.hs,λsl dm=>?_⟩;rw[ec];have W:=sX.trans<|cH.upd (o:=.lst<|XY.take 20) dm;have sY:=cH.upd (o:=.lst<|XY.take 20) dm;have ce:upd HX sl (.lst<|XY.take 20) sl=some (.lst<|XY.take 20):=cE;generalize upd HX sl (.lst<|XY.take 20)=HY at W sY ce;have bx:=ck.mono sY;have f9:(XY.take 20).length<=20:=Vk _ _;refine⟨sl,rfl,⟨_,cN.of ce⟩,DQ (cN.of ce) (by lia) ?_ ?_⟩
   ·intro i v H9 K1 K2 B s9 k1 k2
    obtain⟨a,z,h,ta,ws,rfl,ha,_⟩:=bx.gs v<|SI<|QH B;exact⟨_,rfl,xT (s9 _ _ ha) rfl ⟨_,rfl,xL (s9 _ _ bx.hp) ar ⟨rfl,_,rfl,dF (λ_=>⟨_,rfl,k1 _<|cH.refl _⟩) λ_=>k2 _<|cH.refl _⟩⟩⟩
   intro lc yl H9 fv s9 ez ga f6;have cx:=bx.mono s9;have gZ:∀v∈[V.ref t1,V.ref t2]++yl,dQ ps H9 v:=λv B=>by
    obtain B|B:=Rg.mp B
    ·obtain rfl|B:=Rf.mp B
     ·exact g1.mono<|Tk.of<|sY.trans s9
     ·rw[QK.mp B]
      exact g2.mono<|Tk.of<|sY.trans s9
    ·exact cx.gs v<|SI<|f6 v B
   refine⟨tw,lc,_,_,rfl,rfl,cN.of<|(sY.trans s9) _ _ dk,cN.of ez,by show 2+yl.length<=sizeLine;lia,λs' eg=>?_⟩;have sW:=cH.upd (o:=.lst<|[V.ref t1,V.ref t2]++yl) eg;have cs:upd H9 s' (.lst<|[V.ref t1,V.ref t2]++yl) s'=some (.lst<|[V.ref t1,V.ref t2]++yl):=cE;have c5:=(s8.trans W).trans<|s9.trans sW;have gW:∀v∈[V.ref t1,V.ref t2]++yl,dQ ps (upd H9 s'<|.lst<|[V.ref t1,V.ref t2]++yl) v:=λv B=>(gZ v B).mono<|Tk.of sW;have cg:=cx.mono sW;generalize upd H9 s' (.lst<|[V.ref t1,V.ref t2]++yl)=HW at c5 cs gW cg;clear sW gZ cx eg ez s9 fv bx ce dm W sY ck dk g1 g2 sX g s8;obtain⟨Xu,hk,ei,_⟩:=id cg.hmd;have ax:=cg.OT hk cs (by rw[QC];show 2+yl.length<=24;lia) gW;have ew:cH H (upd HW p<|.dK<|putK Xu (Sum.inr "sights")<|.ref s'):=λb o e=>by
    rw[cG<|cF e<|s2.free an];exact c5 _ _ e
   refine⟨_,rfl,p,_,rfl,j8.k (k:=Sum.inr "sights") hk<|by lia,?_⟩;generalize upd HW p (.dK<|putK Xu (Sum.inr "sights")<|.ref s')=HV at ax ew;clear gW cs hk cg c5 ei;generalize [V.ref t1,V.ref t2]++yl=gn at ax;have uh:∀m:Int,0<=m->m<=38->dv (m*U):=λm m0 m1=>by
    have a1:0<=m*U:=Int.mul_nonneg m0 U0;have a2:m*U<=38*1000000000000000:=Int.mul_le_mul m1 U1 U0 (by decide);exact aq a1 (by lia)
   have uo:dv U:=aq U0 (by lia);refine⟨_,rfl,_,rfl,xL ax.hp a3 ⟨_,rfl,xL ax.hp a4 ⟨MM,λL n1=>?_⟩⟩⟩;have W:=cH.upd (o:=.tup [.int U,.str z0,.str I,.str "both"]) n1;have q1:eW ps (upd HV L<|.tup [.int U,.str z0,.str I,.str "both"]) (.ref L):=⟨L,U,z0,I,"both",rfl,cE,uo,a0,dl,un cd al<|by decide,.inl rfl⟩;generalize upd HV L (.tup [.int U,.str z0,.str I,.str "both"])=HA at W q1;have b4:=ax.mono W;refine⟨_,rfl,_,_,rfl,rfl,.inl ⟨by decide,by lia⟩,_,rfl,xL b4.hp a3 ⟨_,rfl,xL b4.hp ar ⟨MM,λO n2=>⟨sZ,λmo d1=>?_⟩⟩⟩⟩;have q:=cH.upd (o:=.tup [.int<|37*U,.str z0,.str z2,.str "one"]) n2;have Z:=cH.upd (o:=.lst [.ref L,.ref O]) d1;have q2:eW ps (upd HA O<|.tup [.int<|37*U,.str z0,.str z2,.str "one"]) (.ref O):=⟨O,_,z0,z2,"one",rfl,cE,uh 37 (by decide)<|by decide,a0,be,un cd b0<|by decide,.inr rfl⟩;have q2:=q2.mono<|Tk.of Z;have q1:=q1.mono<|Tk.of<|q.trans Z;have ap:upd (upd HA O<|.tup [.int<|37*U,.str z0,.str z2,.str "one"]) mo (.lst [.ref L,.ref O]) mo=some (.lst [.ref L,.ref O]):=cE;have sD:=W.trans<|q.trans Z;have a9:=b4.mono<|q.trans Z;show eU 13 (.ref mo) _ (upd (upd HA O<|.tup [.int<|37*U,.str z0,.str z2,.str "one"]) mo<|.lst [.ref L,.ref O]) _;generalize upd (upd HA O<|.tup [.int<|37*U,.str z0,.str z2,.str "one"]) mo (.lst [.ref L,.ref O])=HB at q1 q2 ap sD a9;clear W q Z b4 n1 n2 d1;refine⟨_,rfl,_,rfl,_,_,rfl,rfl,.inl ⟨by decide,by lia⟩,_,rfl,xL a9.hp a4 ⟨_,rfl,xL a9.hp ar ⟨MM,λR n3=>⟨L1,λl3 eq=>?_⟩⟩⟩⟩;have q:=cH.upd (o:=.tup [.int<|38*U,.str I,.str z2,.str "one"]) n3;have Z:=cH.upd (o:=.lst [.ref R]) eq;have q3:eW ps (upd HB R<|.tup [.int<|38*U,.str I,.str z2,.str "one"]) (.ref R):=⟨R,_,I,z2,"one",rfl,cE,uh 38 (by decide)<|by decide,dl,be,un al b0<|by decide,.inr rfl⟩;have q3:=q3.mono<|Tk.of Z;have q1:=q1.mono<|Tk.of<|q.trans Z;have q2:=q2.mono<|Tk.of<|q.trans Z;have cp:upd (upd HB R<|.tup [.int<|38*U,.str I,.str z2,.str "one"]) l3 (.lst [.ref R]) l3=some (.lst [.ref R]):=cE;have ap:=(q.trans Z) _ _ ap;have sE:=sD.trans<|q.trans Z;have ct:=a9.mono<|q.trans Z;generalize upd (upd HB R<|.tup [.int<|38*U,.str I,.str z2,.str "one"]) l3 (.lst [.ref R])=HC at q1 q2 q3 cp ap sE ct;clear q Z a9 n3 eq sD;refine⟨mo,l3,_,_,rfl,rfl,cN.of ap,cN.of cp,uA,λc1 d0=>?_⟩;have q:=cH.upd (o:=.lst<|[V.ref L,V.ref O]++[V.ref R]) d0;have ed:upd HC c1 (.lst<|[V.ref L,V.ref O]++[V.ref R]) c1=some (.lst [V.ref L,V.ref O,V.ref R]):=cE;have q1:=q1.mono<|Tk.of q;have q2:=q2.mono<|Tk.of q;have q3:=q3.mono<|Tk.of q;have bd:=ct.mono q;have sF:=sE.trans q;generalize upd HC c1 (.lst<|[V.ref L,V.ref O]++[V.ref R])=HD at q1 q2 q3 ed bd sF;clear q d0 cp ap ct sE;refine⟨_,rfl,p,_,rfl,bd.dt,c1,s,_,_,rfl,rfl,cN.of ed,cN.of bd.ht,by show 3+ts.length<=sizeLine;lia,λt' f5=>?_⟩;have q:=cH.upd (o:=.lst<|[V.ref L,V.ref O,V.ref R]++ts) f5;have ef:upd HD t' (.lst<|[V.ref L,V.ref O,V.ref R]++ts) t'=some (.lst<|[V.ref L,V.ref O,V.ref R]++ts):=cE;have bm:=bd.mono q;have gE:∀v∈[V.ref L,V.ref O,V.ref R]++ts,eW ps (upd HD t'<|.lst<|[V.ref L,V.ref O,V.ref R]++ts) v:=λv B=>by
    obtain B|B:=Rg.mp B
    ·obtain rfl|B:=Rf.mp B
     ·exact q1.mono<|Tk.of q
     ·obtain rfl|B:=Rf.mp B
      ·exact q2.mono<|Tk.of q
      ·rw[QK.mp B]
       exact q3.mono<|Tk.of q
    ·exact bm.gt v B
   have sG:=ew.trans<|sF.trans q;generalize upd HD t' (.lst<|[V.ref L,V.ref O,V.ref R]++ts)=HE at ef bm gE sG;obtain⟨Xu,hk,ei,_⟩:=id bm.hmd;have fw:=bm.Pk hk ef (by rw[QC];show 3+ts.length<=64;lia) gE;refine⟨_,rfl,p,_,rfl,j8.k (k:=Sum.inr "talks") hk<|by lia,ret rfl (λb o e=>?_) fw⟩;rw[cG<|cF e<|s2.free an];exact sG _ _ e
  ·refine⟨_,rfl,p,_,rfl,ds,Hd,λe0 n0=>?_⟩
   have s7:=cH.upd (o:=.lst []) n0;cases ss with
   |nil=>exact .same S e0 [] [] [] rfl rfl (cN.of<|s7 _ _ ok.hs) (cN.of cE) rfl rfl (λi u v c hu=>by cases hu) ⟨_,rfl,q' _ s7⟩
   |cons v r=>exact .other S e0 (v::r) [] rfl rfl (cN.of<|s7 _ _ ok.hs) (cN.of cE) (by show r.length+1≠0;lia) ⟨_,rfl,q' _ s7⟩
  ·have l:=ok.mono s7
   have se:ss=[]:=List.isEmpty_iff.mp em;subst se;obtain⟨z0,a3,a0⟩:=zT (ps:=ps) (i:=0) (by decide) (by lia);refine⟨_,rfl,p,_,rfl,l.ds,.inl ⟨rfl,_,cN.of l.hs⟩,_,rfl,xL l.hp a3 ⟨L1,λta as=>⟨uA,λtp M=>?_⟩⟩⟩;have sa:=cH.upd (o:=.tup [.str "word"]) as;have s8:=sa.trans<|cH.upd (o:=.tup [.str z0,.int 0,.ref ta]) M;have g:=l.mono s8;have ay:tp≠S:=(cF (sa _ _ l.hs) M).symm;have de:ta≠S:=(cF l.hs as).symm;have fn:=s6.trans<|s7.trans s8;refine⟨S,[],.ref tp,rfl,rfl,g.hs,by show 0<sizeLine;decide,hR _ _ ⟨[.ref tp],rfl,λb o e=>?_,g.Mn ⟨cf.1,ad.1,c7.symm,cm.symm⟩ (by decide) ⟨tp,z0,0,ta,["word"],rfl,by rw[cG ay];exact cE,a0,aq (by decide)<|by decide,by rw[cG de];exact cH.upd M _ _ cE,by decide,by decide,λx hx=>by rw[QK]at hx;rw[hx];exact um⟩⟩⟩;rw[cG<|cF e<|s2.free fS];exact fn _ _ e
  ·exact⟨ss,rfl,s6.trans s7,ok.mono s7⟩
def Je(z:Xn)(h:Int):SD->Bool
 |.unh q none=>decide<|q=z
 |.unh q (some i)=>decide (q=z)&&decide (h<=i)
 |_=>false
def Oo(h:Int):Xk Int->Bool
 |none=>false
 |some i=>decide<|i<h
theorem tf(h:Int):∀(us:Xm (Xk Int)) (a:Int),eS h (ME a us)=(decide (a<h)&&us.all (Oo h))
 |[],a=>by
  show decide (a<h)=(decide (a<h)&&true);grind
 |none::r,a=>by
  show false=(decide (a<h)&&(false&&r.all (Oo h)));grind
 |some i::r,a=>by
  show eS h (ME (if i > a then i else a) r)=(decide (a<h)&&(decide (i<h)&&r.all (Oo h)));rw[tf h r,<-Bool.and_assoc]
  congr 1
  grind
theorem vy(z:Xn)(h:Int):∀sd:Xm SD,(ug z sd).all (Oo h)= !(sd.any<|Je z h)
 |[]=>rfl
 |d::r=>by
  rw[Tg,Bool.not_or,<-(vy z h r)];cases d with
  |unh q o=>
   by_cases e:q=z
   ·subst e
    rw[vv,V1]
    congr 1
    cases o with
    |none=>
     show false= !(decide<|q=q);rw[dT0 rfl];rfl
    |some i=>
     show decide (i<h)= !(decide (q=q)&&decide (h<=i));rw[dT0 rfl,R6];by_cases c:i<h
     ·rw[dT0 c,QM<|by lia]
      rfl
     ·rw[QM c,dT0<|by lia]
      rfl
   ·rw[gR<|show wG z (.unh q o)=false from QM e]
    have:Je z h (.unh q o)=false:=by
     cases o with
     |none=>exact QM e
     |some i=>
      show(decide (q=z)&&decide (h<=i))=false;rw[QM e,SK]
    rw[this];rfl
  |knew q i=>
   rw[gR rfl];rfl
  |sil q b e=>
   rw[gR rfl];rfl
  |bar q a=>
   rw[gR rfl];rfl
def FV{z:Xn}{h:Int}{sd:Xm SD}(h0:0<=h):eS h (floorOf z sd)= !(sd.any<|Je z h):=by
 unfold floorOf;rw[tf,vy,dT0<|show(-1:Int)<h by lia,R6]
def CC{α:Type}{f:α->Bool}{l:Xm α}{i:Nat}{d:α}(h:l[i]? =some d)(h0:(l.take i).any f=false)(a:f d=false):(l.take<|i+1).any f=false:=by
 rw[RE,h,WX,h0];grind
theorem Dz{α:Type}(f g:α->Bool):∀l:Xm α,(l.any λd=>f d||g d)=(l.any f||l.any g)
 |[]=>rfl
 |d::r=>by
  rw[Tg,Tg,Tg,Dz f g r];cases f d<;>cases g d<;>cases r.any f<;>cases r.any g<;>rfl
def wC(a he:Xn)(h:Int)(d:SD):Bool:=qz a h d||vQ he a d
inductive Jw(vs:Xm V)(H:Hp)(Q:VK):Prop
 |mk(a p s t y:Xg)(ps:Xm Xn)(ss f ys:Xm V)(z:Xn)(h:Int)(sd:Xm SD)(e:vs=[.ref a,.str z,.int h])(ok:i6 ps H a p s t y ss f ys)(g:Sys H ys sd)(h0:0<=h)(k:∀H',cH H H'->Q (.bl (eS h (floorOf z sd))) H')
def oU:Sp:=λa H Q _=>Jw a H Q
inductive K7(vs:Xm V)(H:Hp)(Q:VK):Prop
 |mk(f p s t y:Xg)(ps:Xm Xn)(ss g ys:Xm V)(a:Xm GD)(sd:Xm SD)(e:vs=[.ref f])(ok:i6 ps H f p s t y ss g ys)(h:Lz dI H ss a)(j:∀d∈a,d.1∈ps/\dv d.2)(i:Sys H ys sd)
   (k:∀d Xu H',cH H H'->H d=none->H' d=some (.dK Xu)->jO Xu (dB (a.filter (cS sd)))->Xu.length<=24->Q (.ref d) H')
def zk:Sp:=λa H Q _=>K7 a H Q
inductive EL(f d:Xg)(H1:Hp)(j:Xm GD)(sd:Xm SD)(i:Nat)(σ:St)(a:Hp):Prop
 |mk(l g h:Xk V)(Xu:Xm (Key×V))(e:σ=[some (.ref f),some (.ref d),l,g,h])(m:∀b o,H1 b=some o->b≠d->a b=some o)(hd:a d=some (.dK Xu))(n:Xu.length<=i)(sn:jO Xu (dB ((j.take i).filter (cS sd))))
def BH:cK ["_law_made_here","_law_person","_law_hour","_law_one"] ["_law_made_here","_law_person","_law_hour"] (cI pA):={}
def EF (D:Df K mg "_law_free" pA ["_law_made_here","_law_person","_law_hour"] f fd):Gd P w K mg base 1 "_law_free" oU:=by
 refine aG D BH λX H vs Q E x h=>?_;obtain⟨L,p,s,t,y,ps,ss,ts,U,z,h,sd,rfl,ok,I,O,k⟩:=h;have T:=d5 x.room;have M:=ok.hy;rw[FV O]at k;obtain⟨N,Y,S,B,_⟩:=x.fg [0,1,2,3];refine⟨_,(af (aZ x.own x.calm (aQ<|aK T (aa N) ao ah) (aN B x.nd)
 (ag (aH (a7<|bg (aF aO (ai aE (aa B) ae ah) ao<|cM _)<|bg (aF aO (ai aE (aa B) ae ah) (aa Y)<|cM _)<|bq<|a7<|bS (aF J.ph (ai aE (aa B) ae ah) bL<|cM _)<|b5<|aF J.D6 (ai aE (aa B) ae ah) (aa S)<|cM _)
 (ag<|aw bj)
 aI)))
 (ag<|aw bj)),?_⟩
 refine⟨_,rfl,L,_,rfl,ok.dy,y,rfl,⟨_,cN.of M⟩,c6 (K:=X.K) (a:=y) (xs:=U) (λi σ r=>∃e:Xk V,σ=[some<|.ref L,some<|.str z,some<|.int h,e]/\cH H r/\(sd.take i).any (Je z h)=false)
  ⟨none,rfl,cH.refl _,rfl⟩ ?_ ?_ ?_⟩
 ·rintro i σ r hi ⟨e,rfl,l,_⟩
  exact cN.of<|l _ _ M
 ·rintro i v σ r W ⟨e,rfl,l,n⟩
  obtain⟨d,a,G,rfl,Z⟩:=I.at W;have g:=l _ _ Z;have A:Je z h d=true->Q (.bl false) r:=λR=>by
   have:=k r l;rw[show sd.any (Je z h)=true from UX.mpr ⟨d,QH G,R⟩]at this;exact this
  have no:Je z h d=false->(sd.take<|i+1).any (Je z h)=false:=CC G n;cases d with
  |knew q i'=>exact⟨_,rfl,xT g rfl ⟨rfl,_,rfl,iN<|dH ⟨_,rfl,l,no rfl⟩⟩⟩
  |sil q b e'=>exact⟨_,rfl,xT g rfl ⟨rfl,_,rfl,iN<|dH ⟨_,rfl,l,no rfl⟩⟩⟩
  |bar q q'=>exact⟨_,rfl,xT g rfl ⟨rfl,_,rfl,iN<|dH ⟨_,rfl,l,no rfl⟩⟩⟩
  |unh q o=>
   refine⟨_,rfl,xT g rfl ⟨rfl,_,rfl,iP ⟨_,rfl,xT g rfl ⟨_,rfl,rfl,_,rfl,dF (λC=>?_) λC=>dH ?_⟩⟩⟩⟩
   ·have m:q=z:=V.str.inj (QO C)
    cases o with
    |none=>exact⟨_,rfl,xT g rfl ⟨rfl,_,rfl,fH (dT0 rfl)<|fO<|A<|dT0 m⟩⟩
    |some j=>
     refine⟨_,rfl,xT g rfl ⟨rfl,_,rfl,gP (by rw[Ro];intro e;cases e) ⟨_,rfl,xT g rfl ⟨_,rfl,_,_,rfl,rfl,_,rfl,dF (λF=>A ?_) λF=>⟨_,rfl,l,no ?_⟩⟩⟩⟩⟩
     ·show(decide (q=z)&&decide (h<=j))=true
      rw[dT0 m,F];rfl
     ·show(decide (q=z)&&decide (h<=j))=false
      rw[UA F,Su]
   ·refine⟨_,rfl,l,no ?_⟩
    have m:¬q=z:=λe=>C<|dT0<|RH V.str e;cases o with
    |none=>exact QM m
    |some j=>
     show(decide (q=z)&&decide (h<=j))=false;rw[QM m,SK]
 ·rintro σ r ⟨e,rfl,l,n⟩
  rw[I.1,RR]at n;have:=k r l;rw[n]at this;exact this
def B5:cK ["_law_made_here","_law_seen_here","_law_person","_law_hour","_law_tale"] ["_law_made_here"] (cI pH):={}
def Dv (D:Df K mg "_law_seen" pH ["_law_made_here"] f fd) (T:Txt K mg kw C) (ac:Gd P w K mg base 1 "_law_free" oU):Gd P w K mg base 2 "_law_seen" zk:=by
 refine aG D B5 λX H vs Q E l h=>?_;obtain⟨F,p,s,t,y,ps,ss,ts,ys,A,sd,rfl,ok,gs,gk,sy,k⟩:=h;have hu:=d5 l.room;have XH:sizeLine=16777216:=Q0;have sl:=ok.ls;obtain⟨S0,W,O,S,S4,_⟩:=l.fg [0,1,2,3,4];refine⟨_,(af (au W l.nd J.ki)
 (af (aZ l.own l.calm (aQ<|aK hu (aa S0) ao ah) (bO l.calm<|aT (aN O l.nd)<|aT (aN S l.nd)<|aT (aN S4 l.nd) bH)
 (ag (aH (bh<|ak (l.c ac)<|aP (aa S0) (aa O)<|aa S)
 (ag<|bN hu (aa W) (aa O)<|aJ (l.b T.b_min) (J.gD l.calm) uG<|aB (aa S)<|J.LL hu (aa W) (aa O)<|aa S)
 aI)))
 (ag<|aw<|aa W))),?_⟩
 intro d nd;have s1:=cH.upd (o:=.dK []) nd;have I:upd H d (.dK []) d=some (.dK []):=cE;generalize upd H d (.dK [])=H1 at s1 I;have L:=ok.mono s1;have keep:∀{b:Xg}{o:HO}{x:Hp},(∀b o,H1 b=some o->b≠d->x b=some o)->H b=some o->x b=some o:=λq e=>q _ _ (s1 _ _ e)<|cF e nd;refine⟨_,rfl,F,_,rfl,L.ds,s,rfl,⟨_,cN.of L.hs⟩,c6 (K:=X.K) (a:=s) (xs:=ss) (EL F d H1 A sd) ⟨none,none,none,[],rfl,λb o e _=>e,I,QJ 0,⟨λ_=>rfl⟩⟩ ?_ ?_ ?_⟩
 ·rintro i σ x hi ⟨e2,e3,e4,z,rfl,q,B,kl,r⟩
  exact cN.of<|keep q ok.hs
 ·rintro i v σ x hv ⟨e2,e3,e4,z,rfl,q,B,kl,r⟩
  have hi:=(gI0.mp hv).1;obtain⟨g,hg,a,ta,rfl,ha⟩:=gs.at hv;have ab:=keep q ha;have s2:cH H x:=λb o e=>keep q e;have Z:=ok.mono s2;have Y:=gk g<|QH hg;have lk:z.length<sizeLine:=by lia
  have R:(A.take<|i+1).filter (cS sd)=(A.take i).filter (cS sd)++(if cS sd g=true then [g] else []):=by
   rw[RE,hg,Sz]
   congr 1
   show List.filter (cS sd) [g]=_;rw[R8];rfl
  refine⟨a,_,rfl,fh.of ab,rfl,_,_,rfl,_,_,rfl,_,_,rfl,rfl,?_⟩;refine⟨_,rfl,_,rfl,_,rfl,F,p,s,t,y,ps,ss,ts,ys,g.1,g.2,sd,rfl,Z,sy.mono<|Tk.of s2,Y.2.1,λH3 U=>⟨_,rfl,dF (λop=>?_) λno=>?_⟩⟩
  ·have n:=U _ _ B
   have G:=dJ.k (k:=Sum.inr g.1) n;rw[r.get]at G;rw[QI<|show cS sd g=true from op]at R;have put:∀m:Int,dN (dB<|(A.take i).filter<|cS sd) g g.1=some m->EL F d H1 A sd (i+1) [some<|.ref F,some<|.ref d,some<|.str g.1,some<|.int g.2,some<|.ref ta] (upd H3 d<|.dK<|putK z (Sum.inr g.1)<|.int m):=λm em=>
    ⟨_,_,_,_,rfl,λb o e M=>by rw[cG M];exact U _ _<|q b o e M,cE,Rn (dj _ _ _)<|by lia,by
     rw[R,pF];exact r.put em⟩
   cases N:dB ((A.take i).filter<|cS sd) g.1 with
   |none=>
    rw[N]at G;exact⟨_,rfl,_,rfl,d,rfl,.inl ⟨_,.inl n⟩,_,rfl,_,rfl,_,G,g.2,g.2,rfl,_,rfl,_,rfl,d,_,rfl,j8.k (k:=Sum.inr g.1) n lk,put _<|by unfold dN;rw[QI rfl,N,QG<|Wj _]⟩
   |some j=>
    rw[N]at G;exact⟨_,rfl,_,rfl,d,rfl,.inl ⟨_,.inl n⟩,_,rfl,_,rfl,_,G,g.2,j,rfl,_,rfl,_,rfl,d,_,rfl,j8.k (k:=Sum.inr g.1) n lk,put _<|by unfold dN;rw[QI rfl,N]⟩
  ·rw[QG<|show ¬cS sd g=true from no,Rm]at R
   exact⟨_,_,_,z,rfl,λb o e M=>U _ _<|q b o e M,U _ _ B,by lia,by rw[R];exact r⟩
 ·rintro σ x ⟨e2,e3,e4,z,rfl,q,B,kl,r⟩
  rw[gs.1,RR]at r;exact⟨_,rfl,k d z x (λb o e=>keep q e) nd B r<|Rn kl sl⟩
inductive Lc(vs:Xm V)(H:Hp)(Q:VK):Prop
 |mk(f p s t y:Xg)(ps:Xm Xn)(ss g ys:Xm V)(a:Xm QD)(sd:Xm SD)(e:vs=[.ref f])(ok:i6 ps H f p s t y ss g ys)(h:Lz dz H g a)(i:∀d∈a,lV ps d)(j:Sys H ys sd)
   (k:∀(l:Xg)(us:Xm V)(H':Hp),cH H H'->H l=none->H' l=some (.lst us)->dW H' us ((fD 0 (fA a)).filter (c4 a sd))->Q (.ref l) H')
def Am:Sp:=λa H Q _=>Lc a H Q
inductive wD  (H:Hp)(v:V)(d:Xn×Xn):Prop
 |mk(a:Xg)(h0:v=.ref a)(e:H a=some (.tup [.str d.1,.str d.2]))
def OX(x y:V)(b:Bool):d6 [x,y] none (some<|1+(if b=true then 1 else 0))=if b=true then [x,y] else [x]:=by
 cases b<;>rfl
def BF{H:Hp}{v1 v2:V}{o t:Xn}{b:Bool}(f:wD H v1 (o,t))(g:wD H v2 (t,o)):Lz wD H (d6 [v1,v2] none<|some<|1+(if b=true then 1 else 0)) (if b=true then [(o,t),(t,o)] else [(o,t)]):=by
 rw[OX];cases b with
 |true=>
  rw[QI rfl,QI rfl];refine⟨rfl,λi v d a e=>?_⟩
  match i with
  |0=>
   cases a;cases e;exact f
  |1=>
   cases a;cases e;exact g
  |i+2=>cases a
 |false=>
  rw[QG bF0,QG bF0];refine⟨rfl,λi v d a e=>?_⟩
  match i with
  |0=>
   cases a;cases e;exact f
  |i+1=>cases a
inductive N9(h l:Xg)(H:Hp)(g:Xm QD)(op:TK->Bool)(i:Nat)(σ:St)(a:Hp):Prop
 |mk(us:Xm V)(r j o f m p q v n:Xk V)(e:σ=[some (.ref h),some (.ref l),r,j,o,f,m,p,q,v,n])(s:cH H a)(w:a l=some (.lst us))(ul:us.length<=2*i)(x:dW a us ((fD 0 ((fA g).take i)).filter op))
inductive MJ(p l:Xg)(d:QD)(i:Nat)(h:Hp)(n:Xm TK)(f:Xm (Xn×Xn))(op:TK->Bool)(j:Nat)(σ:St)(a:Hp):Prop
 |mk(us:Xm V)(q r s m:Xk V)(e:σ=[some (.ref p),some (.ref l),some (.int i),some (.int d.1),some (.str d.2.1),some (.str d.2.2.1),some (.str d.2.2.2),q,r,s,m])(v:∀b o,h b=some o->b≠l->a b=some o)(w:a l=some (.lst us))(ul:us.length<=2*i+j)(x:dW a us ((n++(f.take j).map (λg=>(i,g.1,g.2))).filter op))
def BZ:cK ["_law_made_here","_law_found","_law_k","_law_hour","_law_one","_law_other","_law_way","_law_teller","_law_hearer","_law_good","_law_saying_here"] ["_law_made_here"] (cI pN):={}
def CS (D:Df K mg "_law_open" pN ["_law_made_here"] f fd) (T:Txt K mg kw C) (bb:Gd P w K mg base 1 "_law_free" oU):Gd P w K mg base 2 "_law_open" Am:=by
 refine aG D BZ λX H vs Q E x h=>?_;obtain⟨md,p,s,t,y,ps,ss,ts,ys,L,sd,rfl,ok,qs,qk,sy,k⟩:=h;have hu:=d5 x.room;have XH:sizeLine=16777216:=Q0;have tl:=ok.lt;obtain⟨S0,S1,S2,S3,S4,S5,S6,S7,S8,S9,N,_⟩:=x.fg [0,1,2,3,4,5,6,7,8,9,10];refine⟨_,(af (au S1 x.nd<|a5 bz)
 (af (aZ x.own x.calm (b8 (x.b T.b_range)<|aj<|aJ (x.b T.b_len) aY di<|aj<|aK hu (aa S0) ao ah) (aN S2 x.nd)
 (af (J.asg (ai aU (aK hu (aa S0) ao ah) (aa S2) aR)<|bO x.calm<|aT (aN S3 x.nd)<|aT (aN S4 x.nd)<|aT (aN S5 x.nd)<|aT (aN S6 x.nd) bH)
 (ag (aZ x.own x.calm (aQ<|bT cw (a5<|aB (aL<|aB (aa S4)<|aa S5)<|aL<|aB (aa S5)<|aa S4) bX<|bV<|aD bA ae<|bo (x.b T.b_int) J.m9 DF<|aj<|ba aO (aa S6) ao<|cM _) (bO x.calm<|aT (aN S7 x.nd)<|aT (aN S8 x.nd) bH)
 (af (au S9 x.nd<|ak (x.c bb)<|aP (aa S0) (aa S8)<|aa S3)
 (af (aZ x.own x.calm (aQ<|aK hu (aa S0) ao ah) (aN N x.nd)
 (af (aH (a7<|bg (aF aO (ai aE (aa N) ae ah) ao<|cM _)<|bg (aF aO (ai aE (aa N) ae ah) (aa S7)<|cM _)<|bq<|J.jW bG bG (ai aE (aa N) ae ah) (aa S3) (ai aE (aa N) ae ah) kO)
 (ag<|au S9 x.nd bj)
 aI)
 (ag (aH (aF (J.vc hu) (aa N) (aL<|aP ao (aa S8)<|aa S7)<|cM _)
 (ag<|au S9 x.nd bj)
 aI))))
 (ag (aH (J.Ap<|aa S9)
 (ag<|br<|bw RV Rq Rv bF (aa S1)<|aj<|aL<|aP (aa S2) (aa S7)<|aa S8)
 aI))))))))
 (ag<|aw<|aa S1))),?_⟩
 refine⟨Hd,λl hl=>?_⟩;have s1:=cH.upd (o:=.lst []) hl;refine⟨_,rfl,md,_,rfl,(ok.mono s1).dt,t,_,rfl,.inl<|cN.of<|s1 _ _ ok.ht,(ts.length:Int),rfl,by lia,by lia,mJ (lo:=0) (n:=((ts.length:Nat):Int).toNat) (N9 md l H L<|c4 L sd)
  ⟨[],none,none,none,none,none,none,none,none,none,rfl,s1,cE,QJ 0,dW.nil⟩ ?_ ?_⟩
 ·rintro i σ H2 hi ⟨us,e2,e3,e4,e5,e6,e7,e8,e9,XJ,rfl,s2,W,ul,tu⟩
  rw[VD]at hi;have hv:ts[i]? =some ts[i]:=QB hi;generalize ts[i]=v at hv;obtain⟨d,hd,a,rfl,ha⟩:=qs.at hv;have ar:(fA L)[i]? =some d.2:=by
   unfold fA;rw[QR,hd];rfl
  have bx:=s2 _ _ ha;have a2:=ok.mono s2;have av:qQ ts ((0:Int)+(i:Int))=some (.ref a):=by rw[VL];exact dq hv
  have dk:=qk d<|QH hd;refine⟨_,rfl,md,_,rfl,a2.dt,_,rfl,xL a2.ht av ⟨a,_,rfl,fh.of bx,rfl,_,_,rfl,_,_,rfl,_,_,rfl,_,_,rfl,rfl,?_⟩⟩;rw[VL];refine⟨_,rfl,_,rfl,sZ,λA n1=>⟨_,rfl,_,rfl,sZ,λB n2=>⟨sZ,λq0 be=>?_⟩⟩⟩;have sA:=cH.upd (o:=.tup [.str d.2.1,.str d.2.2.1]) n1;have sB:=cH.upd (o:=.tup [.str d.2.2.1,.str d.2.1]) n2;have sC:=cH.upd (o:=.lst [.ref A,.ref B]) be;refine⟨_,rfl,rfl,.inr ⟨_,rfl,_,_,rfl,rfl,_,rfl,q0,_,rfl,cN.of cE,λq1 a0=>?_⟩⟩;have sD:=cH.upd (o:=.lst<|d6 [.ref A,.ref B] none<|some<|1+(if decide (V.str d.2.2.2=V.str "both")=true then 1 else 0)) a0;have U:=((sA.trans sB).trans sC).trans sD;have p1:wD (upd (upd (upd (upd H2 A<|.tup [.str d.2.1,.str d.2.2.1]) B<|.tup [.str d.2.2.1,.str d.2.1]) q0<|.lst [.ref A,.ref B]) q1<|.lst<|d6 [.ref A,.ref B] none<|some<|1+(if decide (V.str d.2.2.2=V.str "both")=true then 1 else 0)) (.ref A) (d.2.1,d.2.2.1):=⟨A,rfl,sD _ _<|sC _ _<|sB _ _ cE⟩;have p2:wD (upd (upd (upd (upd H2 A<|.tup [.str d.2.1,.str d.2.2.1]) B<|.tup [.str d.2.2.1,.str d.2.1]) q0<|.lst [.ref A,.ref B]) q1<|.lst<|d6 [.ref A,.ref B] none<|some<|1+(if decide (V.str d.2.2.2=V.str "both")=true then 1 else 0)) (.ref B) (d.2.2.1,d.2.1):=⟨B,rfl,sD _ _<|sC _ _ cE⟩;have lz:=BF (b:=decide<|V.str d.2.2.2=V.str "both") p1 p2;have Z:upd (upd (upd (upd H2 A<|.tup [.str d.2.1,.str d.2.2.1]) B<|.tup [.str d.2.2.1,.str d.2.1]) q0<|.lst [.ref A,.ref B]) q1 (.lst<|d6 [.ref A,.ref B] none<|some<|1+(if decide (V.str d.2.2.2=V.str "both")=true then 1 else 0)) q1=some (.lst<|d6 [.ref A,.ref B] none<|some<|1+(if decide (V.str d.2.2.2=V.str "both")=true then 1 else 0)):=cE;have an:q1≠l:=(cF (sC _ _<|sB _ _<|sA _ _ W) a0).symm;have eo:dR i d.2=(if decide (V.str d.2.2.2=V.str "both")=true then [(d.2.1,d.2.2.1),(d.2.2.1,d.2.1)] else [(d.2.1,d.2.2.1)]).map (λr:Xn×Xn=>(i,r.1,r.2)):=by
   unfold dR;by_cases e:d.2.2.2= "both"
   ·rw[QI e,dT0<|RH V.str e,QI rfl]
    rfl
   ·rw[QG e,QM λq=>e<|V.str.inj q,QG bF0]
    rfl
  have pm:∀r∈(if decide (V.str d.2.2.2=V.str "both")=true then [(d.2.1,d.2.2.1),(d.2.2.1,d.2.1)] else [(d.2.1,d.2.2.1)]),r.1∈ps/\r.2∈ps:=λr hp=>by
   split at hp
   ·simp only[mem_cons,not_mem_nil,or_false]at hp
    obtain rfl|rfl:=hp
    ·exact⟨dk.2.1,dk.2.2.1⟩
    ·exact⟨dk.2.2.1,dk.2.1⟩
   ·simp only[mem_cons,not_mem_nil,or_false]at hp
    subst hp;exact⟨dk.2.1,dk.2.2.1⟩
  have xl:(d6 [V.ref A,V.ref B] none<|some<|1+(if decide (V.str d.2.2.2=V.str "both")=true then 1 else 0)).length<=2:=jA _ _ _;have ab:=Tk.of U;generalize upd (upd (upd (upd H2 A<|.tup [.str d.2.1,.str d.2.2.1]) B<|.tup [.str d.2.2.1,.str d.2.1]) q0<|.lst [.ref A,.ref B]) q1 (.lst<|d6 [.ref A,.ref B] none<|some<|1+(if decide (V.str d.2.2.2=V.str "both")=true then 1 else 0))=H6 at U lz Z ab;generalize (if decide (V.str d.2.2.2=V.str "both")=true then [(d.2.1,d.2.2.1),(d.2.2.1,d.2.1)] else [(d.2.1,d.2.2.1)])=ac at lz eo pm;generalize d6 [V.ref A,V.ref B] none (some<|1+(if decide (V.str d.2.2.2=V.str "both")=true then 1 else 0))=xs at lz Z xl;have es:fD 0 ((fA L).take<|i+1)=fD 0 ((fA L).take i)++dR i d.2:=by
   rw[RE,ar];show fD 0 ((fA L).take i++[d.2])=_;rw[p7,T9,RK,UC<|Vo (gI0.mp ar).1]
  have ay:=U _ _ W;have keep:∀{b:Xg}{o:HO}{H7:Hp},(∀b o,H6 b=some o->b≠l->H7 b=some o)->H b=some o->H7 b=some o:=λkp e=>kp _ _ (U _ _<|s2 _ _ e)<|cF e hl;refine⟨q1,rfl,⟨_,cN.of Z⟩,c6 (K:=X.K) (a:=q1) (xs:=xs) (MJ md l d i H6 (fD 0<|(fA L).take i) ac<|c4 L sd) ⟨us,_,_,_,_,rfl,λb o e _=>e,ay,by lia,by rw[Ue,map_nil,Rm];exact tu.mono ab⟩ ?_ ?_ ?_⟩
  ·rintro j σ H7 hj ⟨I,f7,f8,f9,am,rfl,kp,O,as,M⟩
   exact cN.of<|kp _ _ Z an
  ·rintro j v σ H7 a1 ⟨I,f7,f8,f9,am,rfl,kp,O,as,M⟩
   obtain⟨r,ax,b,rfl,hb⟩:=lz.at a1;have b4:=(gI0.mp a1).1;have b0:H7 b=some (.tup [.str r.1,.str r.2]):=kp _ _ hb (λe=>by rw[e,ay]at hb;cases hb);have s7:cH H H7:=λb o e=>keep kp e;have bd:=ok.mono s7;have bm:=sy.mono<|Tk.of s7;have ca:=pm r<|QH ax;have ap:(ac.take<|j+1).map (λr=>((i,r.1,r.2):TK))=(ac.take j).map (λr=>(i,r.1,r.2))++[(i,r.1,r.2)]:=by
    rw[RE,ax,Si];rfl
   have bf:c4 L sd (i,r.1,r.2)=(eS d.1 (floorOf r.2 sd) && !(sd.any<|wC r.1 r.2 d.1)):=by
    unfold c4;rw[fe hd,<-Dz];rfl
   refine⟨b,_,rfl,fh.of b0,rfl,_,_,rfl,_,_,rfl,rfl,?_⟩;refine⟨_,rfl,_,rfl,_,rfl,md,p,s,t,y,ps,ss,ts,ys,r.2,d.1,sd,rfl,bd,bm,dk.1.1,λH8 s8=>?_⟩;have a4:cH H H8:=s7.trans s8;have al:=ok.mono a4;have bi:=sy.mono<|Tk.of a4;have b3:=s8 _ _ O;rw[show eS d.1 (floorOf r.2 sd)=(eS d.1 (floorOf r.2 sd) && !((sd.take 0).any<|wC r.1 r.2 d.1)) by rw[Ue];exact(Ul _).symm];refine⟨_,rfl,md,_,rfl,al.dy,y,rfl,⟨_,cN.of al.hy⟩,c6 (K:=X.K) (a:=y) (xs:=ys) (λm σ H9=>∃XJ:Xk V,σ=[some<|.ref md,some<|.ref l,some<|.int i,some<|.int d.1,some<|.str d.2.1,some<|.str d.2.2.1,some<|.str d.2.2.2,some<|.str r.1,some<|.str r.2,some<|.bl<|eS d.1 (floorOf r.2 sd) && !((sd.take m).any<|wC r.1 r.2 d.1),XJ]/\cH H8 H9) ⟨am,rfl,cH.refl _⟩ ?_ ?_ ?_⟩
   ·rintro m σ H9 hm ⟨XJ,rfl,s9⟩
    exact cN.of<|s9 _ _ al.hy
   ·rintro m v σ H9 bv ⟨XJ,rfl,s9⟩
    obtain⟨g,c,hg,rfl,hc⟩:=bi.at bv;have G:=s9 _ _ hc;have bc:(eS d.1 (floorOf r.2 sd) && !((sd.take<|m+1).any<|wC r.1 r.2 d.1))=(((eS d.1 (floorOf r.2 sd) && !((sd.take m).any<|wC r.1 r.2 d.1)) && !(qz r.1 d.1 g)) && !(vQ r.2 r.1 g)):=by
     rw[RE,hg,WX];show(eS d.1 (floorOf r.2 sd) && !((sd.take m).any (wC r.1 r.2 d.1)||((qz r.1 d.1 g||vQ r.2 r.1 g)||false)))=_;cases eS d.1 (floorOf r.2 sd)<;>cases (sd.take m).any (wC r.1 r.2 d.1)<;>cases qz r.1 d.1 g<;>cases vQ r.2 r.1 g<;>rfl
    rw[bc];generalize (eS d.1 (floorOf r.2 sd) && !((sd.take m).any<|wC r.1 r.2 d.1))=gg;refine Gr (λa3 H'=>a3=[some<|.ref md,some<|.ref l,some<|.int i,some<|.int d.1,some<|.str d.2.1,some<|.str d.2.2.1,some<|.str d.2.2.2,some<|.str r.1,some<|.str r.2,some<|.bl<|gg && !(qz r.1 d.1 g),some<|.ref c]/\H'=H9) ?_ (qz r.1 d.1 g) (λQ' q'=>?_) (λe hR=>?_) λe=>?_
    ·rintro a3 H' ⟨rfl,rfl⟩
     refine⟨_,rfl,_,rfl,_,rfl,uA,λc2 a9=>?_⟩;have F:=cH.upd (o:=.tup [.str "barred",.str r.2,.str r.1]) a9;refine⟨c,c2,_,_,rfl,rfl,F _ _ G,cE,jv g,rfl,_,rfl,?_⟩;rw[Ah];refine dF (λad=>⟨some<|.ref c,?_,s9.trans F⟩) λno=>⟨some<|.ref c,?_,s9.trans F⟩
     ·rw[ad,Bool.not_true,Su]
      rfl
     ·rw[UA no,Bool.not_false,Ul]
    ·cases g with
     |knew z i'=>exact⟨_,rfl,xT G rfl ⟨rfl,_,rfl,iN q'⟩⟩
     |unh z i'=>exact⟨_,rfl,xT G rfl ⟨rfl,_,rfl,iN q'⟩⟩
     |bar z z'=>exact⟨_,rfl,xT G rfl ⟨rfl,_,rfl,iN q'⟩⟩
     |sil z b1 b2=>
      have q2:Q' (decide (z=r.1)&&(if b1<=d.1 then decide (d.1<=b2) else false)) H9:=q';refine⟨_,rfl,xT G rfl ⟨rfl,_,rfl,iP ⟨_,rfl,xT G rfl ⟨_,rfl,rfl,_,rfl,dF (λhz=>⟨_,rfl,xT G rfl ⟨_,rfl,_,_,rfl,rfl,_,rfl,dF (λhb=>⟨_,rfl,xT G rfl ⟨_,_,rfl,rfl,_,rfl,?_⟩⟩) λhb=>⟨_,rfl,?_⟩⟩⟩) λhz=>?_⟩⟩⟩⟩
      ·rw[QI<|QO hb,dT0<|V.str.inj<|QO hz,R6]at q2
       exact q2
      ·rw[QG λe=>hb<|dT0 e,Su]at q2
       exact q2
      ·rw[QM λe=>hz<|dT0<|RH V.str e,SK]at q2
       exact q2
    ·refine hR _ _ ⟨?_,rfl⟩
     rw[e,Bool.not_true,Su];rfl
    ·refine⟨?_,rfl⟩
     rw[e,Bool.not_false,Ul];rfl
   ·rintro σ H9 ⟨XJ,rfl,s9⟩
    rw[sy.1,RR,<-bf];have Y:=s8.trans s9;have S:=Y _ _ O;have aq:∀b o,H6 b=some o->b≠l->H9 b=some o:=λb o e n=>Y _ _<|kp b o e n;refine⟨_,rfl,_,rfl,dF (λad=>?_) λno=>?_⟩
    ·refine⟨_,rfl,.inl ⟨rfl,_,cN.of S⟩,_,rfl,_,rfl,_,rfl,uA,λt3 n3=>?_⟩
     have F:=cH.upd (o:=.tup [.int i,.str r.1,.str r.2]) n3;refine⟨l,I,.ref t3,rfl,rfl,F _ _ S,by lia,?_⟩;have bn:t3≠l:=(cF S n3).symm;have tk:=(Tk.of<|Y.trans F).trans<|Tk.upd (F _ _ S) (ys:=I++[.ref t3]);refine⟨I++[.ref t3],_,_,_,_,rfl,λb o e n=>by rw[cG n];exact F _ _<|aq b o e n,cE,by rw[QC];show I.length+1<=_;lia,?_⟩;rw[ap,<-QL,Sz];show dW _ _ (_++List.filter (c4 L sd) [(i,r.1,r.2)]);rw[R8,QI ad];exact Lz.snoc (R:=q9) (M.mono tk) ⟨t3,rfl,by rw[cG bn];exact cE⟩
    ·refine⟨I,_,_,_,_,rfl,aq,S,by lia,?_⟩
     rw[ap,<-QL,Sz];show dW _ _ (_++List.filter (c4 L sd) [(i,r.1,r.2)]);rw[R8,QG no];show dW _ _ (_++[]);rw[Rm];exact M.mono<|Tk.of Y
  ·rintro σ H7 ⟨I,f7,f8,f9,am,rfl,kp,O,as,M⟩
   rw[lz.1,RR,<-eo,<-es]at M;exact⟨I,_,_,_,_,_,_,_,_,_,rfl,λb o e=>keep kp e,O,by lia,M⟩
 ·rintro σ H2 ⟨us,e2,e3,e4,e5,e6,e7,e8,e9,XJ,rfl,s2,W,ul,tu⟩
  rw[VD,qs.1,show L.length=(fA L).length from (QF ..).symm,RR]at tu;exact⟨_,rfl,k l us H2 s2 hl W tu⟩
inductive Pq(C:Xg)(vs:Xm V)(H:Hp)(Q:VK):Prop
 |mk(a p s t y:Xg)(ps:Xm Xn)(ss f ys:Xm V)(e:vs=[.ref a])(po:fU ps)(ok:i6 ps H a p s t y ss f ys)
   (k:∀(x g s' t' h:Xg)(H':Hp),cH H H'->H x=none->Bk C H' x g s' t' h ps ss f ys->Q (.ref x) H')
def Jl(C:Xg):Sp:=λa H Q _=>Pq C a H Q
def BG:cK ["_law_made_here"] ["_law_made_here"] (cI pR):={}
def Dc (D:Df K mg "_law_book" pR ["_law_made_here"] f fd) (T:Txt K mg kw C) (B:Kd P w K mg base 7 "Book" C (CT C)):Gd P w K mg base 9 "_law_book" (Jl C):=by
 refine aG D BG λX H vs Q E v h=>?_;obtain⟨r,p,s,t,y,g,Y,ts,ys,rfl,po,ok,k⟩:=h;have z:=d5 v.room;obtain⟨q,_⟩:=v.fg [0];have a:=v.b T.b_list;refine⟨_,ag<|aw<|J.Pf (v.Pf B rfl (by decide)<|by decide)<|bQ (bo a bD eF<|aj<|aK z (aa q) ao ah) (bo a bD eF<|aj<|aK z (aa q) ao ah) (bo a bD eF<|aj<|aK z (aa q) ao ah)<|bo a bD eF<|aj<|aK z (aa q) ao ah,?_⟩;have ll:=ok.lt;have pa:Parts H g Y ts ys:=⟨po,ok.ls,ok.gs,by lia,ok.gt,ok.ly,ok.gy⟩;refine⟨_,rfl,r,_,rfl,ok.dp,p,_,rfl,.inl<|cN.of ok.hp,λA n1=>?_⟩;have M:=cH.upd (o:=.lst<|g.map V.str) n1;have S:upd H A (.lst<|g.map V.str) A=some (.lst<|g.map V.str):=cE;generalize upd H A (.lst<|g.map V.str)=H1 at M S;have l:=ok.mono M;refine⟨_,rfl,r,_,rfl,l.ds,s,_,rfl,.inl<|cN.of l.hs,λl2 n2=>?_⟩;generalize I:upd H1 l2 _=H2;obtain⟨s2,k2⟩:=nx n2 I;have W:=M.trans s2;have j:=ok.mono W;refine⟨_,rfl,r,_,rfl,j.dt,t,_,rfl,.inl<|cN.of j.ht,λl3 n3=>?_⟩;generalize L:upd H2 l3 _=H3;obtain⟨N,k3⟩:=nx n3 L;have U:=W.trans N;have i:=ok.mono U;refine⟨_,rfl,r,_,rfl,i.dy,y,_,rfl,.inl<|cN.of i.hy,λl4 n4=>?_⟩;generalize O:upd H3 l4 _=Z;obtain⟨n,k4⟩:=nx n4 O;have F:=U.trans n;intro x R nx G ab;have m:cH Z (upd (upd Z R<|.own x) x<|.ins C R []):=λb o e=>by
  rw[cG<|cF e nx,cG<|cF e G];exact e
 have t5:=F.trans m;refine⟨x,R,A,l2,l3,l4,g,Y,ts,ys,rfl,cE,m _ _<|n _ _<|N _ _<|s2 _ _ S,m _ _<|n _ _<|N _ _ k2,m _ _<|n _ _ k3,m _ _ k4,pa.mono<|Tk.of t5,λp' s' t' y' H6 _ _ _ _ bk kp=>⟨rfl,?_⟩⟩;exact k x p' s' t' y' H6 (λb o e=>kp b o (t5 _ _ e)<|cF e<|F.free nx) (F.free nx) bk
inductive EW
 |saw (i:Nat)
 |hrd (k:Nat)(a:Xn)
abbrev ED:=Xn×Int×EW
def BN(H:Hp)(a:Xg):EW->Prop
 |.saw i=>H a=some (.tup [.str "saw",.int (i:Nat)])
 |.hrd k e=>H a=some (.tup [.str "heard",.int (k:Nat),.str e])
def lZ(H:Hp)(a:Xg)(d:ED):Prop:=∃e,H a=some (.tup [.str d.1,.int d.2.1,.ref e])/\BN H e d.2.2
def BN.mono{H H':Hp}(s:Tk H H'){a:Xg}{w:EW}(h:BN H a w):BN H' a w:=by
 cases w with
 |saw i=>exact s _ _ h
 |hrd k e=>exact s _ _ h
def lZ.mono{H H':Hp}(s:Tk H H'){a:Xg}{d:ED}(h:lZ H a d):lZ H' a d:=by
 obtain⟨f,e,g⟩:=h;exact⟨f,s _ _ e,g.mono s⟩
structure PH(H:Hp)(Xu:Xm (Key×V))(F:FH):Prop where
 no:∀z,F z=none->dS Xu (Sum.inr z)=none
 yes:∀z h,F z=some h->∃a w,dS Xu (Sum.inr z)=some (.ref a)/\H a=some (.tup [.str z,.int h,w])
def Cq(F:FH)(d:ED):Bool:=match d.2.2 with
 |.saw _=>true
 |.hrd _ e=>match F e with
  |none=>false
  |some a=>decide<|a<d.2.1
inductive Ni  (vs:Xm V)(H:Hp)(Q:VK):Prop
 |mk(a:Xg)(z:Xn)(h:Int)(w:V)(h0:vs=[.ref a])(e:H a=some (.tup [.str z,.int h,w]))(f:Q (.int h) H)
def GH  :Sp:=λa H Q _=>Ni  a H Q
inductive Nn  (vs:Xm V)(H:Hp)(Q:VK):Prop
 |mk(e a:Xg)(Xu:Xm (Key×V))(F:FH)(d:ED)(h0:vs=[.ref e,.ref a])(h:H e=some (.dK Xu))(f:PH H Xu F)(i:lZ H a d)(g:Q (.bl (Cq F d)) H)
def Nl  :Sp:=λa H Q _=>Nn  a H Q
def x4:cK ["entry"] ["entry"] (cI mQ):={}
def Od (D:Df K mg "hour_of" mQ ["entry"] f fd):Gd P w K mg base 1 "hour_of" GH:=by
 refine aG D x4 λX H j Q E g h=>?_;obtain⟨a,z,h,w,rfl,e,k⟩:=h;obtain⟨i,_⟩:=g.fg [0];exact⟨_,ag<|aw<|ai aE (aa i) ae ah,_,rfl,xT e rfl k⟩
def qY:cK ["known","entry","way"] ["known","entry"] (cI iO):={}
def Mh (D:Df K mg "can_follow" iO ["known","entry"] f fd) (s:Gd P w K mg base 1 "hour_of" GH):Gd P w K mg base 2 "can_follow" Nl:=by
 refine aG D qY λX H N Q E p h=>?_;obtain⟨r,a,M,F,d,rfl,q,x,⟨R,A,l⟩,k⟩:=h;have g:=p.gN s rfl (by lia) (by decide);have y:=d5 p.room;obtain⟨v,B,o,_⟩:=p.fg [0,1,2];refine⟨_,(af (au o p.nd<|ai aE (aa B) ae ah)
 (af (aH (aF aO (ai aE (aa o) ae ah) ao<|cM _)
 (ag<|aw bj)
 aI)
 (ag<|aw<|aV (J.u9 y (ai aE (aa o) ae ah)<|aa v)<|a8<|ba bW (ak g<|aj<|aK y (aa v) (ai aE (aa o) ae ah) cv) (ak g<|aj<|aa B)<|cM _))),?_⟩
 refine⟨_,rfl,xT A rfl ?_⟩;obtain⟨z,h,way⟩:=d;cases way with
 |saw i=>exact⟨_,rfl,xT l rfl ⟨rfl,_,rfl,iP k⟩⟩
 |hrd O e=>
  refine⟨_,rfl,xT l rfl ⟨rfl,_,rfl,iN ?_⟩⟩;have j:=dJ.k (k:=Sum.inr e) q;have m:Q (.bl<|match F e with|none=>false|some a=>decide<|a<h) H:=k;cases n:F e with
  |none=>
   rw[n]at m;rw[x.no e n]at j;exact⟨_,rfl,xT l rfl ⟨_,rfl,r,_,rfl,j,_,rfl,dH m⟩⟩
  |some b=>
   rw[n]at m;obtain⟨I,L,G,C⟩:=x.yes e b n;rw[G]at j;exact⟨_,rfl,xT l rfl ⟨_,rfl,r,_,rfl,j,_,rfl,fO ⟨_,rfl,_,rfl,xT l rfl ⟨r,_,rfl,j,I,e,b,L,rfl,C,_,rfl,a,z,h,_,rfl,A,_,_,rfl,rfl,m⟩⟩⟩⟩
def xQ(F:FH)(z:Xn)(h:Int):FH:=λy=>if y=z then some h else F y
def kB{F:FH}{z:Xn}{h:Int}:xQ F z h z=some h:=QI rfl
def iM{F:FH}{z y:Xn}{h:Int}(n:¬y=z):xQ F z h y=F y:=QG n
def LX(H:Hp)(a:Xg):Int:=match H a with
 |some (.tup [_,.int h,_])=>h
 |_=>0
def yG{H:Hp}{a:Xg}{d:ED}(h:lZ H a d):LX H a=d.2.1:=by
 obtain⟨f,e,_⟩:=h;unfold LX;rw[e]
def FY{H:Hp}{a:Xg}{w f:EW}(h:BN H a w)(h':BN H a f):w=f:=by
 cases w with
 |saw i=>
  cases f with
  |saw j=>
   have e:=(show H a=_ from h).symm.trans<|show H a=_ from h';grind
  |hrd k g=>
   have e:=(show H a=_ from h).symm.trans<|show H a=_ from h';simp at e
 |hrd k g=>
  cases f with
  |saw j=>
   have e:=(show H a=_ from h).symm.trans<|show H a=_ from h';simp at e
  |hrd m l=>
   have e:=(show H a=_ from h).symm.trans<|show H a=_ from h';grind
def zq{H:Hp}{a:Xg}{d d':ED}(h:lZ H a d)(h':lZ H a d'):d=d':=by
 obtain⟨o,m,l⟩:=h;obtain⟨j,g,f⟩:=h';have e:=m.symm.trans g;simp only[Option.some.injEq,HO.tup.injEq,List.cons.injEq,V.int.injEq,V.str.injEq,V.ref.injEq,and_true]at e;obtain⟨i,n,rfl⟩:=e;exact V7 i<|V7 n<|FY l f
def JH{F:FH}{d e:ED}{z:Xn}{h:Int}(l:Cq (xQ F z h) e=true)(le:e.2.1<=h):Cq F e=true:=by
 obtain⟨y,i,w⟩:=e;cases w with
 |saw _=>rfl
 |hrd k g=>
  have f:(match xQ F z h g with|none=>false|some a=>decide<|a<i)=true:=l;by_cases c:g=z
  ·subst c
   rw[kB]at f;have j:=f;rw[Ro]at j;grind
  ·rwa [iM c]at f
def Ar{F:FH}{d:ED}{z:Xn}{h:Int}(n:F z=none)(c:Cq F d=true):Cq (xQ F z h) d=true:=by
 obtain⟨y,i,w⟩:=d;cases w with
 |saw _=>rfl
 |hrd k g=>
  have f:(match F g with|none=>false|some a=>decide<|a<i)=true:=c;show(match xQ F z h g with|none=>false|some a=>decide<|a<i)=true;rw[iM λe=>by rw[e,n]at f;cases f];exact f
def FE(ds:Xm ED)(F:FH):Prop:=∀d∈ds,Cq F d=true->∃b,b<=d.2.1/\F d.1=some b
def PK(H:Hp)(Xu:Xm (Key×V))(ds:Xm ED)(F:FH):Prop:=∀z h,F z=some h->∃a d,dS Xu (Sum.inr z)=some (.ref a)/\lZ H a d/\d∈ds/\d.1=z/\d.2.1=h/\Cq F d=true
inductive IB(H:Hp)(n g l:Xg)(zs:Xm Xg)(ds:Xm ED)(i:Nat)(σ:St)(f:Hp):Prop
 |mk(o:Xk V)(Xu:Xm (Key×V))(F:FH)(e:σ=[some (.ref n),some (.ref g),o])(s:cH H f)(q:f l=some (.lst (zs.map V.ref)))(p:f g=some (.dK Xu))(v:Xu.length<=i)(w:PH f Xu F)(c:∀j a d,j<i->zs[j]? =some a->lZ H a d->Cq F d=true->∃b,b<=d.2.1/\F d.1=some b)(r:PK H Xu ds F)(m:∀z h,F z=some h->∀j a,i<=j->zs[j]? =some a->h<=LX H a)
inductive Qq(vs:Xm V)(H:Hp)(Q:VK):Prop
 |mk(g:Xg)(as:Xm Xg)(ds:Xm ED)(e:vs=[.ref g])(he:H g=some (.lst (as.map V.ref)))(al:as.length<=400)(i:∀a∈as,∃d∈ds,lZ H a d)(h:∀d∈ds,∃a∈as,lZ H a d)
   (k:∀(f:Xg)(Xu:Xm (Key×V))(F:FH)(H':Hp),cH H H'->H f=none->H' f=some (.dK Xu)->PK H' Xu ds F->FE ds F->Q (.ref f) H')
def Mf:Sp:=λa H Q _=>Qq a H Q
def m7:cK ["entries","known","entry"] ["entries"] (cI gj):={}
def NB (D:Df K mg "first_entries" gj ["entries"] f fd) (T:Txt K mg kw C) (av:Gd P w K mg base 1 "hour_of" GH) (aq:Gd P w K mg base 2 "can_follow" Nl):Gd P w K mg base 4 "first_entries" Mf:=by
 refine aG D m7 λX H vs Q E L h=>?_;obtain⟨en,as,ds,rfl,he,al,ed,de,k⟩:=h;have hu:=d5 L.room;have XH:=Q0;obtain⟨S0,S1,S2,_⟩:=L.fg [0,1,2];refine⟨_,(af (au S1 L.nd J.ki)
 (af (aZ L.own L.calm (aQ<|J.My (L.b T.b_sorted) (L.Oz av rfl (by first|decide|exact QJ _)<|by decide)<|aj<|aa S0) (aN S2 L.nd)
 (ag (aH (a7<|bg (J.sQ hu (ai aE (aa S2) ae ah)<|aa S1)<|bq<|bh<|ak (L.c aq)<|aB (aa S1)<|aa S2)
 (ag<|bN hu (aa S1) (ai aE (aa S2) ae ah)<|aa S2)
 aI)))
 (ag<|aw<|aa S1))),?_⟩
 intro A ac;generalize ap:upd H A _=H1;obtain⟨s1,ax⟩:=nx ac ap;refine⟨_,rfl,en,as,LX H,rfl,cN.of<|s1 _ _ he,λa B Q' q'=>?_,λl G nl pm pw _=>?_⟩
 ·obtain⟨d,_,ad⟩:=ed a B
  rw[yG ad]at q';obtain⟨wa,h1,_⟩:=ad;exact⟨a,_,_,_,rfl,s1 _ _ h1,q'⟩
 have s2:=s1.trans<|cH.upd (o:=.lst<|G.map V.ref) nl;have ab:upd H1 l (.lst<|G.map V.ref) l=some (.lst<|G.map V.ref):=cE;have am:=cH.upd (o:=.lst<|G.map V.ref) nl _ _ ax;generalize upd H1 l (.lst<|G.map V.ref)=H2 at s2 ab am;have zl:G.length<=400:=by rw[pm.length_eq];exact al
 have an:∀{i j:Nat}{a b:Xg},i<j->G[i]? =some a->G[j]? =some b->LX H a<=LX H b:=λ{i j a b} ij B hb=>by
  obtain⟨h1,I⟩:=gI0.mp B;obtain⟨h2,O⟩:=gI0.mp hb;have:=UJ.mp pw i j h1 h2 ij
  rwa [I,O]at this
 refine⟨l,rfl,⟨_,cN.of ab⟩,c6 (xs:=G.map V.ref) (IB H en A l G ds) ⟨none,[],λ_=>none,rfl,s2,ab,am,QJ 0,⟨λ_ _=>rfl,λ_ _ e=>by cases e⟩,λj a d Y=>by lia,(λ_ _ e=>by cases e),λ_ _ e=>by cases e⟩ ?_ ?_ ?_⟩
 ·rintro i σ H3 hi ⟨O,Xu,F,rfl,R,s,p,kl,S,c,so,m⟩
  exact cN.of s
 ·rintro i v σ H3 hv ⟨O,Xu,F,rfl,R,s,p,kl,S,c,so,m⟩
  rw[QR]at hv;obtain⟨a,B,rfl⟩:=Rt.mp hv;have il:=(gI0.mp B).1;obtain⟨d,md,N⟩:=(λh=>ed _<|pm.mem_iff.mp<|QH h) B;have W:=yG N;obtain⟨wa,h1,h2⟩:=id N;have h3:=R _ _ h1;have dg:=dJ.k (k:=Sum.inr d.1) p;have gh:(Cq F d=true->∃b,b<=d.2.1/\F d.1=some b)->IB H en A l G ds (i+1) [some<|.ref en,some<|.ref A,some<|.ref a] H3:=λcd=>
   ⟨_,Xu,F,rfl,R,s,p,by lia,S,λj M d' Y g y cf=>by
    by_cases e:j=i
    ·subst e
     rw[B]at g;cases g;rw[<-zq N y]at cf ⊢;exact cd cf
    ·exact c j M d' (by lia) g y cf,so,λz h e j M Y g=>m z h e j M (by lia) g⟩
  cases Z:F d.1 with
  |some b=>
   obtain⟨ea,w2,I,_⟩:=S.yes _ _ Z;rw[I]at dg;exact⟨_,rfl,xT h3 rfl ⟨_,rfl,A,_,rfl,dg,_,rfl,dH<|dH<|gh λ_=>⟨b,by rw[<-W];exact m _ _ Z i a (QJ _) B,Z⟩⟩⟩
  |none=>
   rw[S.no _ Z]at dg;refine⟨_,rfl,xT h3 rfl ⟨_,rfl,A,_,rfl,dg,_,rfl,fO ⟨_,rfl,_,rfl,A,a,Xu,F,d,rfl,p,S,N.mono<|Tk.of R,_,rfl,?_⟩⟩⟩;cases hc:Cq F d with
   |false=>exact dH (gh λh=>by rw[hc]at h;cases h)
   |true=>
    refine fO ⟨_,rfl,_,rfl,_,rfl,xT h3 rfl ⟨A,_,rfl,j8.k (k:=Sum.inr d.1) p<|by lia,?_⟩⟩;have ay:a≠A:=λe=>by rw[e,p]at h3;cases h3
    have ar:l≠A:=λe=>by rw[e,p]at s;cases s
    have kp:∀b o,b≠A->H3 b=some o->upd H3 A (.dK<|putK Xu (Sum.inr d.1)<|.ref a) b=some o:=λb o n e=>by rw[cG n];exact e
    refine⟨_,putK Xu (Sum.inr d.1)<|.ref a,xQ F d.1 d.2.1,rfl,λb o e=>kp b o (cF e ac)<|R _ _ e,kp _ _ ar s,cE,Rn (dj _ _ _)<|by lia,⟨λz e=>?_,λz h e=>?_⟩,λj M d' Y g y cf=>?_,λz h e=>?_,λz h e j M Y g=>?_⟩
    ·by_cases q:z=d.1
     ·rw[q,kB]at e
      cases e
     ·rw[iM q]at e
      rw[cP,QG λx=>q<|SV x];exact S.no z e
    ·by_cases q:z=d.1
     ·rw[q,kB]at e
      cases e;exact⟨a,.ref wa,by rw[cP,QI<|by rw[q]],by rw[q];exact kp _ _ ay h3⟩
     ·rw[iM q]at e
      obtain⟨ea,w2,I,U⟩:=S.yes z h e;exact⟨ea,w2,by rw[cP,QG λx=>q<|SV x];exact I,kp _ _ (λx=>by rw[x,p]at U;cases U) U⟩
    ·by_cases e:j=i
     ·subst e
      rw[B]at g;cases g;rw[<-zq N y];exact⟨_,Uw _,kB⟩
     ·have le:d'.2.1<=d.2.1:=by
       rw[<-yG y,<-W];exact an (by lia) g B
      obtain⟨b,b1,b2⟩:=c j M d' (by lia) g y<|JH (d:=d) cf le;exact⟨b,b1,by rw[iM λx=>by rw[x,Z]at b2;cases b2];exact b2⟩
    ·by_cases q:z=d.1
     ·rw[q,kB]at e
      cases e;exact⟨a,d,by rw[cP,QI<|by rw[q]],N,md,q.symm,rfl,Ar Z hc⟩
     ·rw[iM q]at e
      obtain⟨M,d',I,O,e3,e4,e5,e6⟩:=so z h e;exact⟨M,d',by rw[cP,QG λx=>q<|SV x];exact I,O,e3,e4,e5,Ar Z e6⟩
    ·by_cases q:z=d.1
     ·rw[q,kB]at e
      cases e;rw[<-W];exact an (by lia) B g
     ·rw[iM q]at e
      exact m z h e j M (by lia) g
 ·rintro σ H3 ⟨O,Xu,F,rfl,R,s,p,kl,S,c,so,m⟩
  refine⟨_,rfl,k A Xu F H3 R ac p (λz h e=>let ⟨a,d,I,O,r⟩:=so z h e;⟨a,d,I,O.mono<|Tk.of R,r⟩) λd hd cf=>?_⟩;obtain⟨a,B,N⟩:=de d hd;obtain⟨j,Y⟩:=QZ<|pm.mem_iff.mpr B;have jl:=(gI0.mp Y).1;exact c j a d (by rw[QF];exact jl) Y N cf
def kU(H:Hp)(v:V)(d:ED):Prop:=∃a,v=.ref a/\lZ H a d
def kU.mono{H H':Hp}(s:Tk H H')(v:V)(d:ED)(h:kU H v d):kU H' v d:=by
 obtain⟨a,e,h⟩:=h;exact⟨a,e,h.mono s⟩
def F7(a:Xm GD)(i:Nat):ED:=match a[i]? with
 |some g=>(g.1,g.2,.saw i)
 |none=>("",0,.saw i)
def Ho(a:Xm QD)(t:TK):ED:=(t.2.2,cJ a t.1,.hrd t.1 t.2.1)
def IC(a:Xm GD)(e:Xm QD)(sd:Xm SD):Xm ED:=((List.range a.length).filter<|oe a<|cS sd).map (F7 a)++((fD 0<|fA e).filter<|c4 e sd).map (Ho e)
inductive Mi(x n tb l:Xg)(p:Hp)(f:Xm ED)(h:Xm ED)(i:Nat)(σ:St)(a:Hp):Prop
 |mk(us:Xm V)(m g j:Xk V)(e:σ=[some (.ref x),some (.ref n),some (.ref tb),some (.ref l),m,g,j])(q:∀b o,p b=some o->b≠l->a b=some o)(r:a l=some (.lst us))(ul:us.length<=24+i)(s:Lz kU a us (f++h.take i))
inductive Qf(C:Xg)(vs:Xm V)(H:Hp)(Q:VK):Prop
 |mk(x p s t y:Xg)(ps:Xm Xn)(ss g ys:Xm V)(f:Xm GD)(a:Xm QD)(sd:Xm SD)(e:vs=[.ref x])(bk:Bk C H x p s t y ps ss g ys)(q:ps.length<=24)(sl:ss.length<=24)(h:g.length<=120)(n:Lz dI H ss f)(m:∀d∈f,d.1∈ps)(o:Lz dz H g a)(i:∀d∈a,lV ps d)(j:Sys H ys sd)(l:ys.length<=60)
   (k:∀(l:Xg)(us:Xm V)(H':Hp),cH H H'->H l=none->H' l=some (.lst us)->Lz kU H' us (IC f a sd)->us.length<=400->Q (.ref l) H')
def Nk(C:Xg):Sp:=λa H Q _=>Qf C a H Q
def oA:cK ["book","sights","talks","entries","k","teller","hearer"] ["book"] (cI gJ):={}
def Ob (D:Df K mg "open_entries" gJ ["book"] f fd) (T:Txt K mg kw C) (a9:Md P w K mg base 1 C "sights" (dC C λ_ s _ _=>s)) (be:Md P w K mg base 1 C "talks" (dC C λ_ _ t _=>t)) (bb:Gd P w K mg base 4 "open_sights" (tZ C)) (a3:Gd P w K mg base 4 "open_tellings" (uP C)):Gd P w K mg base 5 "open_entries" (Nk C):=by
 refine aG D oA λX H vs Q E z h=>?_;obtain⟨x,p,s,t,y,ps,ss,G,ys,r,g,sd,rfl,bk,pl,sl,tl,gs,gp,qs,qk,sy,XO,k⟩:=h;have XH:=Q0;obtain⟨S0,S1,S2,S3,S4,S5,S6,_⟩:=z.fg [0,1,2,3,4,5,6];refine⟨_,(af (au S1 z.nd<|bE (z.met a9<|by decide) (aa S0) rfl)
 (af (au S2 z.nd<|bE (z.met be<|by decide) (aa S0) rfl)
 (af (bY (is:=[1]) (xs:=["i"]) (ns:=["sights"]) S3 z.nd z.calm (aQ<|ak (z.gN bb rfl (by lia)<|by decide)<|aj<|aa S0) {} (λ_ _ _ _ _=>a6 (i:=0)) (λ_ _ _ _ _=>bU) (λ_ _ _ _ _=>aL<|aP (ai bp (ai cD (aS (i:=1)) (aM (i:=0)) aR) ae ah) (ai bp (ai cD (aS (i:=1)) (aM (i:=0)) aR) ae ah)<|aL<|aB ao<|aM (i:=0)) z.hsc z.hN (by decide+kernel))
 (af (aZ z.own z.calm (aQ<|ak (z.gN a3 rfl (by lia)<|by decide)<|aj<|aa S0) (bO z.calm<|aT (aN S4 z.nd)<|aT (aN S5 z.nd)<|aT (aN S6 z.nd) bH)
 (ag<|br<|bw RV Rq Rv bF (aa S3)<|aj<|aL<|aP (aa S6) (ai aE (ai aU (aa S2) (aa S4) aR) ae ah)<|aL<|aP ao (aa S4)<|aa S5))
 (ag<|aw<|aa S3))))),?_⟩
 obtain⟨⟨dx,hx⟩,hp,hs,ht,hy⟩:=id bk;refine⟨_,rfl,x,dx,_,rfl,hx,fZ _ _ _ _ (by decide+kernel) (by decide+kernel) (by decide+kernel)<|by decide+kernel,x,p,s,t,y,ss,rfl,⟨dx,hx⟩,hs,λsb a2=>?_⟩;generalize bc:upd H sb _=H1;obtain⟨s1,al⟩:=nx a2 bc;refine⟨_,rfl,x,dx,_,rfl,s1 _ _ hx,fZ _ _ _ _ (by decide+kernel) (by decide+kernel) (by decide+kernel)<|by decide+kernel,x,p,s,t,y,G,rfl,⟨dx,s1 _ _ hx⟩,s1 _ _ ht,λtb ap=>?_⟩;have s2:=s1.trans<|cH.upd (o:=.lst G) ap;have N:=cH.upd (o:=.lst G) ap _ _ al;have L:upd H1 tb (.lst G) tb=some (.lst G):=cE;generalize upd H1 tb (.lst G)=H2 at s2 N L;refine⟨_,rfl,x,p,s,t,y,ps,ss,G,ys,r,sd,rfl,bk.mono s2,pl,sl,gs.mono<|dI.mono<|Tk.of s2,gp,sy.mono<|Tk.of s2,XO,λlo H3 s3 cd Yl=>?_⟩;have J:=s2.trans s3;have M:=s3 _ _ L;have gl:=gs.1;have ol:=y8 r sd r.length;refine⟨lo,rfl,⟨_,cN.of Yl⟩,wL (λj H' v=>∃i,((List.range r.length).filter<|oe r<|cS sd)[j]? =some i/\kU H' v (F7 r i)) (λj v H H' A ⟨i,e,h⟩=>⟨i,e,h.mono A⟩) (cN.of Yl) (by lia) ?_ ?_⟩
 ·intro j v H4 K1 O s4 k1
  unfold lq at O;rw[QR]at O;obtain⟨i,hi,rfl⟩:=Rt.mp O;have il:i<r.length:=Sk.mp (QV.mp<|QH hi).1;obtain⟨vg,ac⟩:∃vg,ss[i]? =some vg:=⟨_,QB<|by lia⟩;have hg:r[i]? =some r[i]:=QB il;obtain⟨ga,b3,rfl,bf⟩:=gs.2 _ _ _ ac hg;have ax:=s4 _ _<|J _ _ bf;have as:=s4 _ _<|s3 _ _ N;have a4:F7 r i=(r[i].1,r[i].2,.saw i):=by
   unfold F7;rw[hg]
  refine⟨_,rfl,_,rfl,xL as (dq ac)<|xT ax rfl ⟨_,rfl,_,rfl,xL as (dq ac)<|xT ax rfl ⟨_,rfl,sZ,λwa Z=>⟨uA,λta I=>?_⟩⟩⟩⟩;refine k1 _ _ ((cH.upd Z).trans<|cH.upd I) ⟨i,hi,ta,rfl,?_⟩;rw[a4];exact⟨wa,cE,cH.upd I _ _ cE⟩
 ·intro l W H4 nl s4 hl bx ur
  have F:=J.trans s4;have bi:Lz kU H4 W (((List.range r.length).filter<|oe r<|cS sd).map<|F7 r):=by
   refine⟨by rw[bx,QF];unfold lq;rw[QF],λj v d O hd=>?_⟩;obtain⟨i,hi,he⟩:=ur j v O;rw[QR,hi]at hd;cases hd;exact he
  have b1:W.length<=24:=by lia
  refine⟨_,rfl,x,p,s,t,y,ps,ss,G,ys,g,sd,rfl,bk.mono F,pl,tl,qs.mono<|dz.mono<|Tk.of F,qk,sy.mono<|Tk.of F,XO,λm vs H5 s5 nm hm tu=>?_⟩;have av:=F.trans s5;have a1:=s5 _ _ hl;have ad:=s5 _ _<|s4 _ _ M;have b4:=tu.1;have b2:=iZ (fA g) 0;have ca:(fA g).length=g.length:=QF _;have cc:=qs.1;have fl:=RB (c4 g sd)<|fD 0<|fA g;have bn:m≠l:=λe=>by rw[e,hl]at nm;cases nm
  have bd:tb≠l:=λe=>by rw[<-e,M]at nl;cases nl
  refine⟨m,rfl,⟨_,cN.of hm⟩,c6 (K:=X.K) (a:=m) (xs:=vs) (Mi x sb tb l H5 (((List.range r.length).filter<|oe r<|cS sd).map<|F7 r)<|((fD 0<|fA g).filter<|c4 g sd).map<|Ho g) ⟨W,none,none,none,rfl,λb o e _=>e,a1,by lia,by rw[Ue,Rm];exact bi.mono<|kU.mono<|Tk.of s5⟩ ?_ ?_ ?_⟩
  ·rintro i σ H6 hi ⟨Y,e4,e5,e6,rfl,R,B,ul,lz⟩
   exact cN.of<|R _ _ hm bn
  ·rintro i v σ H6 O ⟨Y,e4,e5,e6,rfl,R,B,ul,lz⟩
   have il:=(gI0.mp O).1;obtain⟨A,X4⟩:∃A,((fD 0<|fA g).filter<|c4 g sd)[i]? =some A:=⟨_,QB<|by rw[<-tu.1];exact il⟩;obtain⟨a,rfl,ha⟩:=tu.2 _ _ _ O X4;obtain⟨q,hq,_⟩:=pP qk (QV.mp<|QH X4).1;obtain⟨vq,ay⟩:∃vq,G[A.1]? =some vq:=⟨_,QB<|by rw[qs.1];exact(gI0.mp hq).1⟩;obtain⟨aq,rfl,b0⟩:=qs.2 _ _ _ ay hq;have S:∀{b:Xg}{zs:Xm V},H5 b=some (.tup zs)->b≠l:=λh e=>by rw[e,a1]at h;cases h
   have U:=av _ _ b0;have bv:=R _ _ ha<|S ha;have am:=R _ _ U<|S U;have an:=R _ _ ad bd;refine⟨a,_,rfl,fh.of bv,rfl,_,_,rfl,_,_,rfl,_,_,rfl,rfl,?_⟩;refine⟨_,rfl,.inl ⟨rfl,_,cN.of B⟩,_,rfl,_,rfl,_,rfl,xL an (dq ay)<|xT am rfl ⟨_,rfl,_,rfl,uA,λwa Z=>⟨uA,λta I=>?_⟩⟩⟩;have sA:=cH.upd (o:=.tup [.str "heard",.int (A.1:Nat),.str A.2.1]) Z;have sB:=cH.upd (o:=.tup [.str A.2.2,.int q.1,.ref wa]) I;have ab:=sA.trans sB;have a0:=ab _ _ B;refine⟨l,Y,.ref ta,rfl,rfl,a0,by lia,?_⟩;have ar:=Tk.upd a0 (ys:=Y++[.ref ta]);have bm:Ho g A=(A.2.2,q.1,.hrd A.1 A.2.1):=by
    unfold Ho;rw[fe hq]
   have tt:(((fD 0<|fA g).filter<|c4 g sd).map<|Ho g).take (i+1)=(((fD 0<|fA g).filter<|c4 g sd).map<|Ho g).take i++[Ho g A]:=by
    rw[RE,QR,X4];rfl
   refine⟨Y++[.ref ta],_,_,_,rfl,λb o e n=>by rw[cG n];exact ab _ _<|R b o e n,cE,by rw[QC];show Y.length+1<=_;lia,?_⟩;rw[tt,<-QL];refine Lz.snoc ((lz.mono<|kU.mono<|Tk.of ab).mono<|kU.mono ar) ⟨ta,rfl,?_⟩;rw[bm];exact lZ.mono ar ⟨wa,cE,sB _ _ cE⟩
  ·rintro σ H6 ⟨Y,e4,e5,e6,rfl,R,B,ul,lz⟩
   refine⟨_,rfl,k l Y H6 (λb o e=>R b o (av _ _ e)<|cF e<|J.free nl) (J.free nl) B ?_ (by lia)⟩;rw[R7<|by rw[QF];lia]at lz;exact lz
end K43
namespace K43
variable {P:Xi}{w:Xj}{K:Frag}{mg:Xr}{base:Heap}{kw C:Xg}{f:Xg}{fd:FuncData}
abbrev Pl:=NK.Pl
def jj(z:Xn):Pl:=.inl<|.inr z
def ne_nil(l:σ[i]? =some (some<|.ref a))(h:H a=some (.lst xs))(k:∀H',cH H H'->Q (.bl<|!xs.isEmpty) H'):Fg (λx y H Q=>FI K x y H Q) (je i) (Fu kT) σ H Q:=by
 refine⟨_,l,by decide,λe n=>?_⟩;have f:=cH.upd (o:=.lst []) n;cases xs with
 |nil=>exact .same a e [] [] [] rfl rfl (cN.of<|f _ _ h) (cN.of cE) rfl rfl (λi u v c m=>by cases m)<|k _ f
 |cons g j=>exact .other a e (g::j) [] rfl rfl (cN.of<|f _ _ h) (cN.of cE) (by grind)<|k _ f
theorem iW{α:Type} [DecidableEq α]:∀{xs ys:Xm α},xs.Nodup->(∀x∈xs,x∈ys)->xs.length<=ys.length
 |[],_,_,_=>RF _
 |x::xs,ys,nd,h=>by
  obtain⟨f,g⟩:=Sw.mp nd;have m:=h x<|.head _;have:=iW (ys:=ys.erase x) g λy a=>(List.mem_erase_of_ne λe=>f<|by rw[<-e];exact a).mpr<|h y<|.tail _ a;grind
section
variable (P:Xi)(w:Xj)
structure L0(H:Hp)(a:Xg)(f:Pl->Xk Int)(B:Nat):Prop where
 ex:∃kv,H a=some (.ext (Dφ (eT P w) a kv))/\DD (eT P w) H a kv/\kv.length<=B/\∀v,jF kv v=(f v).map V.int
structure d7(H:Hp)(r:Xg)(K:Pl->Bool)(G:Pl->Pl->Xk Int)(ia:Pl->Xg)(B:Nat):Prop where
 ex:∃Xu,H r=some (.ext (Dφ (eT P w) r Xu))/\DD (eT P w) H r Xu/\Xu.length<=B/\∀u,jF Xu u=if K u=true then some (.ref (ia u)) else none
 inn:∀u,K u=true->L0 P w H (ia u) (G u) B
 ne:∀u,K u=true->ia u≠r
 inj:∀u v,K u=true->K v=true->ia u=ia v->u=v
 no:∀u,K u=false->∀v,G u v=none
def fN(H:Hp)(d:Xg)(L:Xm (Pl×Pl))(a:Pl×Pl->Int):Prop:=∃f,DD (nE P w) H d f/\f.map (λe=>(e.1,e.2.2))=L.map λl=>([l.1,l.2],V.int<|a l)
end
def qy(G:Pl->Pl->Xk Int)(u v:Pl)(n:Int):Pl->Pl->Xk Int:=λx y=>if x=u/\y=v then some n else G x y
section
variable {P:Xi}{w:Xj}{H H':Hp}{a r:Xg}{f:Pl->Xk Int}{K:Pl->Bool}{G:Pl->Pl->Xk Int}{ia:Pl->Xg}{B B':Nat}{u v:Pl}{y:V}
def L0.keep(h:L0 P w H a f B)(e:H' a=H a)(t:Tk H H')(l:B<=B'):L0 P w H' a f B':=by
 obtain⟨n,j,g,m,i⟩:=h.ex;exact⟨n,by rw[e];exact j,g.mono e t,Rn m l,i⟩
def d7.there(h:d7 P w H r K G ia B)(k:K u=true):∃o,H (ia u)=some o:=let ⟨_,e,_⟩:=(h.inn u k).ex;⟨_,e⟩
def d7.same(h:d7 P w H r K G ia B)(s:cH H H')(l:B<=B'):d7 P w H' r K G ia B':=by
 obtain⟨g,i,a,j,f⟩:=h.ex;refine⟨⟨g,s _ _ i,a.same s,Rn j l,f⟩,λu k=>?_,h.ne,h.inj,h.no⟩;obtain⟨o,e⟩:=h.there k;exact(h.inn u k).keep (by rw[e,s _ _ e]) (Tk.of s) l
def vx [DecidableEq κ]{x:κ}{v:V}(h:jF Xu x=some v):∃e,jg Xu x=some e/\e.2.2=v:=by
 unfold jF at h;obtain⟨e,a,f⟩:=Rt.mp h;grind
def d7.get{Q:VK}(h:d7 P w H r K G ia B)(k:K u=true)(g:iG H u y)(q:Q (.ref<|ia u) H):Ag (eT P w) (.ref r) y H Q:=by
 obtain⟨j,m,f,n,i⟩:=h.ex;have:=i u;rw[QI k]at this;obtain⟨e,a,l⟩:=vx this;exact⟨r,j,u,e,rfl,f,g,a,by rw[l];exact q⟩
def L0.get{n:Int}(h:L0 P w H a f B)(g:f v=some n)(l:iG H v y)(q:Q (.int n) H):Ag (eT P w) (.ref a) y H Q:=by
 obtain⟨o,r,j,s,m⟩:=h.ex;have:=m v;rw[g]at this;obtain⟨e,i,p⟩:=vx this;exact⟨a,o,v,e,rfl,j,l,i,by rw[p];exact q⟩
def d7.put(h:d7 P w H r K G ia B)(k:K u=true)(m:iG H v y)(l:B+2<sizeLine)(bl:B+1<=B'\/((G u v).isSome=true/\B<=B'))(q:∀H',(∀b,b≠ia u->H' b=H b)->d7 P w H' r K (qy G u v n) ia B'->Q H'):wc (eT P w) (.ref<|ia u) y (.int n) H Q:=by
 obtain⟨g,f,i,M,J⟩:=(h.inn u k).ex;refine⟨ia u,g,v,rfl,i,f,m,q _ (λb s=>cG s) ?_⟩;have t:Tk H (upd H (ia u)<|.ext<|Dφ (eT P w) (ia u)<|fE g v y<|.int n):=λb L e=>by
  rw[cG λz=>by rw[z,f]at e;cases e];exact e
 obtain⟨p,F,A,I,E⟩:=h.ex;have j:r≠ia u:=λe=>h.ne u k e.symm;have o:=bl.elim (λz=>by lia) λz=>z.2;refine⟨⟨p,by rw[cG j];exact F,A.mono (cG j) t,Rn I o,E⟩,λx a=>?_,h.ne,h.inj,λx a z=>?_⟩
 ·by_cases e:x=u
  ·subst e
   refine⟨_,cE,i.put f m<|by lia,?_,λz=>?_⟩
   ·obtain bl|⟨bl,N⟩:=bl
    ·have:=l5 g v y (.int n)
     lia
    ·rw[wu<|by grind,QF]
     lia
   ·rw[u7]
    unfold qy;by_cases q:z=v
    ·grind
    ·grind
  ·have C:=λz=>e (h.inj x u a k z)
   have D:qy G u v n x=G x:=funext λz=>QG λq=>e q.1;rw[D];exact(h.inn x a).keep (cG C) t o
 ·exact(QG λ(q:x=u/\z=v)=>by rw[q.1,k]at a;cases a).trans (h.no x a z)
def d7.sd(h:d7 P w H r K G ia B)(U:iG H u y)(E:H q=none)(L:(q==sysModules)=false)(l:B+2<sizeLine)
  (k:∀z H' D f,(∀b o,H b=some o->b≠r->H' b=some o)->d7 P w H' r D G f (B+1)->D u=true->(∀x,D x=true↔(K x=true\/x=u))->(∀x,D x=true->(K x=true/\f x=ia x)\/H (f x)=none)->Q z H'):N7 (eT P w) r y (.ref q) (upd H q<|.ext<|Dφ (eT P w) q []) Q:=by
 have s:=cH.upd (o:=.ext<|Dφ (eT P w) q []) E;have F:upd H q (.ext<|Dφ (eT P w) q []) q=some (.ext<|Dφ (eT P w) q []):=cE;generalize upd H q (.ext<|Dφ (eT P w) q [])=H1 at s F;have I:=h.same (B':=B) s<|QJ _;obtain⟨C,J,M,Y,T⟩:=I.ex;have i:=U.mono<|Tk.of s;have g:=T u;refine⟨C,u,M,J,i,λe p=>?_,λp=>?_⟩
 ·have m:K u=true:=by
   unfold jF at g;rw[p]at g;by_cases z:K u=true
   ·exact z
   ·grind
  exact k _ H1 K ia (λb o e _=>s _ _ e) (I.same (cH.refl _)<|by lia) m (λx=>⟨.inl,λz=>z.elim id λz=>by rw[z];exact m⟩) λx a=>.inl ⟨a,rfl⟩
 ·have W:jF C u=none:=by
   unfold jF;rw[p];rfl
  have m:K u=false:=by grind
  rw[<-qh W];obtain⟨_,R,_⟩:=h.ex;have A:q≠r:=λe=>by rw[e,R]at E;cases E
  have t:Tk H1 (upd H1 r<|.ext<|Dφ (eT P w) r<|fE C u y<|.ref q):=λb X e=>by
   rw[cG λz=>by rw[z,J]at e;cases e];exact e
  have key:∀x,(decide (x=u)||K x)=true↔(K x=true\/x=u):=λx=>by grind
  have no:∀x,K x=true->ia x≠q/\x≠u:=λx a=>by
   obtain⟨o,e⟩:=h.there a;exact⟨cF e E,λz=>by rw[z,m]at a;cases a⟩
  refine k _ _ (λx=>decide (x=u)||K x) (λx=>if x=u then q else ia x) (λb o e n=>by rw[cG n];exact s _ _ e) ⟨⟨_,cE,M.put J i<|by lia,?_,λx=>?_⟩,λx a=>?_,λx a=>?_,λx z a S e=>?_,λx a z=>?_⟩ ((key u).mpr<|.inr rfl) key λx a=>?_
  ·have:=l5 C u y (.ref q)
   lia
  ·rw[u7]
   by_cases e:x=u
   ·grind
   ·grind
  ·by_cases e:x=u
   ·subst e
    rw[QI rfl];exact⟨[],by rw[cG A];exact F,⟨.inl<|by rw[cG A];exact F,(λe p=>nomatch p),Uz,L,by grind⟩,RF _,λv=>by rw[h.no x m v];rfl⟩
   ·have j:=((key x).mp a).resolve_right e
    rw[QG e];exact(I.inn x j).keep (cG<|h.ne x j) t (by lia)
  ·by_cases e:x=u
   ·grind
   ·rw[QG e]
    exact h.ne x<|((key x).mp a).resolve_right e
  ·by_cases O:x=u
   ·grind
   ·by_cases N:z=u
    ·grind
    ·rw[QG O,QG N]at e
     exact h.inj x z (((key x).mp a).resolve_right O) (((key z).mp S).resolve_right N) e
  ·exact h.no x (RA.mpr λq=>by rw[(key x).mpr<|.inl q]at a;cases a) z
  ·grind
end
def y9(L:Xm (Pl×Pl))(u v:Pl):Prop:=(u,v)∈L\/(v,u)∈L
noncomputable instance decL (l:Pl×Pl)(L:Xm (Pl×Pl)):Decidable (l∈L):=Classical.propDecidable _
noncomputable instance decA (L:Xm (Pl×Pl))(u v:Pl):Decidable (y9 L u v):=Classical.propDecidable _
noncomputable def jQ (L:Xm (Pl×Pl))(R:Pl->Pl->Int):Pl->Pl->Xk Int:=λu v=>if y9 L u v then some (R u v) else none
noncomputable def R0 (L:Xm (Pl×Pl))(a:Pl×Pl->Int):Pl->Pl->Int:=λu v=>if(u,v)∈L then a (u,v) else 0
def FN(n:(b,a) ∉ L)(ne:a≠b):jQ (L++[(a,b)]) (R0 (L++[(a,b)]) cap)=qy (qy (jQ L<|R0 L cap) a b<|cap (a,b)) b a 0:=by
 funext u v
 have mem:∀x y:Pl,(x,y)∈L++[(a,b)]↔((x,y)∈L\/(x=a/\y=b)):=λx y=>by grind
 unfold qy;by_cases q:u=b/\v=a
 ·rw[QI q,q.1,q.2]
  unfold jQ R0;rw[QI<|.inr<|(mem a b).mpr<|.inr ⟨rfl,rfl⟩,QG λz=>((mem b a).mp z).elim n λw=>ne w.2]
 ·rw[QG q]
  by_cases e:u=a/\v=b
  ·rw[QI e,e.1,e.2]
   unfold jQ R0;have m:=(mem a b).mpr<|.inr ⟨rfl,rfl⟩;rw[QI<|.inl m,QI m]
  ·rw[QG e]
   have g:y9 (L++[(a,b)]) u v↔y9 L u v:=or_congr (by grind) (by grind);unfold jQ R0;by_cases f:(u,v)∈L
   ·grind
   ·grind
inductive Qw(P:Xi)(w:Xj)(vs:Xm V)(H:Hp)(Q:VK):Prop
 |mk(d:Xg)(L:Xm (Pl×Pl))(a:Pl×Pl->Int)(e:vs=[.ref d])(g:fN P w H d L a)(js:FL.Net L)(h:L.length<=100000)
  (k:∀(r:Xg)(H':Hp)(K:Pl->Bool)(f:Pl->Xg),(∀b o,H b=some o->b≠d->H' b=some o)->fN P w H' d L a->d7 P w H' r K (jQ L (R0 L a)) f (4*L.length)->H r=none->(∀u,K u=true->H (f u)=none)->(∀u,K u=true↔∃v,y9 L u v)->Q (.ref r) H')
def KP(P:Xi)(w:Xj):Sp:=λa H Q _=>Qw P w a H Q
inductive MC(P:Xi)(w:Xj)(d r:Xg)(g:Hp)(L:Xm (Pl×Pl))(a:Pl×Pl->Int)(i:Nat)(σ:St)(f:Hp):Prop
 |mk(n l m j:Xk V)(K:Pl->Bool)(h:Pl->Xg)(e:σ=[some (.ref d),some (.ref r),n,l,m,j])(rd:d7 P w f r K (jQ (L.take i) (R0 (L.take i) a)) h (4*i))(q:∀b o,g b=some o->f b=some o)(fr:∀u,K u=true->g (h u)=none)(p:∀u,K u=true↔∃v,y9 (L.take i) u v)
def fN.at{P:Xi}{w:Xj}{H:Hp}{d:Xg}{L:Xm (Pl×Pl)}{a:Pl×Pl->Int}{Xu:Xm (Xm Pl×V×V)}(v:DD (nE P w) H d Xu)(p:Xu.map (λe=>(e.1,e.2.2))=L.map λl=>([l.1,l.2],V.int<|a l)){i:Nat}{e:Xm Pl×V×V}(he:Xu[i]? =some e):∃l b g m,L[i]? =some l/\e.1=[l.1,l.2]/\e.2.1=.ref b/\e.2.2=.int (a l)/\H b=some (.tup [g,m])/\iG H l.1 g/\iG H l.2 m:=by
 have h:(Xu.map λe=>(e.1,e.2.2))[i]? =some (e.1,e.2.2):=by rw[QR,he];rfl
 rw[p,QR]at h;obtain⟨l,s,q⟩:=Rt.mp h;obtain⟨q1,z⟩:=T8 q;obtain⟨b,A,o,f,j⟩:=v.r e<|QH he;rw[<-q1]at j;cases j with
 |cons x t=>
  cases t with
  |cons y n=>
   cases n;exact⟨l,b,_,_,s,q1.symm,o,z.symm,f,x,y⟩
def xk:cK ["links","room","link","most","one","other"] ["links"] (cI kZ):={}
def NV {fd:FuncData}(D:Df K mg "rooms_of" kZ ["links"] f fd):Gd P w K mg base 1 "rooms_of" (KP P w):=by
 refine aG D xk λX H vs Q E j h=>?_;obtain⟨d,L,bi,rfl,⟨a,G,ek⟩,js,ll,k⟩:=h;obtain⟨rfl,rfl⟩:=And.intro j.pr j.wd;have g:=jc j.room;have XH:=Q0;have kl:a.length=L.length:=by
  have:=RH List.length ek
  rwa [QF,QF]at this
 obtain⟨S0,O,S2,S3,S4,S5,_⟩:=j.fg [0,1,2,3,4,5];refine⟨_,(af (au O j.nd J.zy)
 (af (aZ j.own j.calm (J.Lx<|aa S0) (bO j.calm<|aT (aN S2 j.nd)<|aT (aN S3 j.nd) bH)
 (af (au S4 j.nd<|ai aE (aa S2) ae ah)
 (af (au S5 j.nd<|ai aE (aa S2) ae ah)
 (af (br<|J.Ea g (aa O) (aa S4) J.zy)
 (af (br<|J.Ea g (aa O) (aa S5) J.zy)
 (af (J.Eo g (bM g (aa O) (aa S4) aR) (aa S5)<|aa S3)
 (ag<|J.Eo g (bM g (aa O) (aa S5) aR) (aa S4) ae)))))))
 (ag<|aw<|aa O))),?_⟩
 intro r nr bf;have s1:=cH.upd (o:=.ext<|Dφ (eT X.prog X.w) r []) nr;have s:upd H r (.ext<|Dφ (eT X.prog X.w) r []) r=some (.ext<|Dφ (eT X.prog X.w) r []):=cE;generalize upd H r (.ext<|Dφ (eT X.prog X.w) r [])=H1 at s1 s;obtain⟨od,hd⟩:∃od,H d=some od:=G.h.elim (λz=>⟨_,z⟩) λ⟨_,z⟩=>⟨_,z⟩;have x:r≠d:=λe=>by rw[e,hd]at nr;cases nr
 refine⟨_,rfl,d,a,rfl,G.same s1,λo H2 eb ed=>?_⟩;have an:∀b u,upd H d (.ext<|Fz d o<|Dφ (nE X.prog X.w) d a) b=some u->H2 b=some u:=λb u e=>by
  by_cases z:b=d
  ·rw[z]at e ⊢
   rw[cE]at e;rw[ed];exact e
  ·rw[cG z]at e
   rw[eb b z];exact s1 _ _ e
 have A:upd H d (.ext<|Fz d o<|Dφ (nE X.prog X.w) d a) r=none:=by rw[cG x];exact nr
 have M:upd H d (.ext<|Fz d o<|Dφ (nE X.prog X.w) d a) d=some (.ext<|Fz d o<|Dφ (nE X.prog X.w) d a):=cE;have back:∀b u,H b=some u->b≠d->upd H d (.ext<|Fz d o<|Dφ (nE X.prog X.w) d a) b=some u:=λb u e n=>by rw[cG n];exact e
 have non:∀b,upd H d (.ext<|Fz d o<|Dφ (nE X.prog X.w) d a) b=none->H b=none:=λb e=>by
  by_cases z:b=d
  ·grind
  ·rw[cG z]at e
   exact e
 have B:DD (nE X.prog X.w) (upd H d<|.ext<|Fz d o<|Dφ (nE X.prog X.w) d a) d a:=by
  have t:∀b N,H b=some (.tup N)->upd H d (.ext<|Fz d o<|Dφ (nE X.prog X.w) d a) b=some (.tup N):=λb N e=>back b _ e λz=>by
   rw[z]at e;rcases G.h with h|⟨_,h⟩<;>(rw[h]at e;cases e)
  exact⟨.inr ⟨o,M⟩,λe he=>(nE X.prog X.w).mono t<|G.r e he,G.nd,G.ns,G.l⟩
 generalize upd H d (.ext<|Fz d o<|Dφ (nE X.prog X.w) d a)=m at an A M back non B;refine JD (MC X.prog X.w d r m L bi) ⟨none,none,none,none,λ_=>false,λ_=>0,rfl,⟨⟨[],by rw[eb r x];exact s,⟨.inl<|by rw[eb r x];exact s,(λe he=>nomatch he),Uz,bf,by show 0<sizeLine;decide⟩,RF _,λu=>rfl⟩,(λu k=>by cases k),(λu k=>by cases k),(λu v k=>by cases k),λu _ v=>?_⟩,an,(λu k=>by cases k),λu=>⟨(λz=>by cases z),λ⟨v,z⟩=>by rw[Ue]at z;exact z.elim (λz=>nomatch z) λz=>nomatch z⟩⟩ ?_ ?_ ?_
 ·rw[Ue]
  exact QG λz=>z.elim (λz=>nomatch z) λz=>nomatch z
 ·rintro i σ H3 hi ⟨e2,e3,e4,e5,K',ia,rfl,rd,F,fr,Y⟩
  exact F _ _ M
 ·rintro i e p σ H3 he np ⟨e2,e3,e4,e5,K',ia,rfl,rd,F,fr,Y⟩
  obtain⟨l,b,y1,y2,hl,ea,a0,ev,hb,p1,p2⟩:=fN.at (B.same F) ek he;have il:i<L.length:=(gI0.mp hl).1;have ml:l∈L:=QH hl;have tk:L.take (i+1)=L.take i++[(l.1,l.2)]:=by
   rw[RE,hl];rfl
  rw[a0,ev];generalize bm:upd H3 p _=H4;obtain⟨Z,ay⟩:=nx np bm;have T:=rd.same (B':=4*i) Z<|QJ _;have aq:∀b o,m b=some o->H4 b=some o:=λb o e=>Z _ _<|F b o e;have ar:=Z _ _ hb;have U:=p1.mono<|Tk.of Z;have ax:=p2.mono<|Tk.of Z;refine⟨p,_,rfl,fh.of ay,rfl,_,_,rfl,_,_,rfl,rfl,?_⟩;refine⟨_,rfl,xT ar rfl ⟨_,rfl,xT ar rfl ?_⟩⟩;obtain⟨bb,r1,r2,r3,r4⟩:=T.ex;refine⟨_,rfl,r,bb,rfl,r2,_,rfl,λq nq I=>T.sd U nq I (by lia) λz5 H5 K5 ac f5 am k5 bn a1=>?_⟩;have ap:∀b o,m b=some o->H5 b=some o:=λb o e=>f5 b o (aq b o e)<|cF e A;have a4:∀u,K5 u=true->m (ac u)=none:=λu k=>(a1 u k).elim (λz=>by rw[z.2];exact fr u z.1) λz=>by
   cases w:m (ac u) with
   |none=>rfl
   |some o=>rw[aq _ _ w]at z;cases z
  have t5:Tk H4 H5:=λb N e=>f5 b _ e ((λe z=>by rw[z,r1]at e;cases e) e);have as:=U.mono t5;have W:=ax.mono t5;obtain⟨ab,a2,av,b0,bx⟩:=am.ex;refine⟨_,rfl,r,ab,rfl,av,_,rfl,λq nq I=>am.sd W nq I (by lia) λz6 H6 K6 C f6 y k6 S a9=>?_⟩;have b1:∀b o,m b=some o->H6 b=some o:=λb o e=>f6 b o (ap b o e)<|cF e A;have a3:∀u,K6 u=true->m (C u)=none:=λu k=>(a9 u k).elim (λz=>by rw[z.2];exact a4 u z.1) λz=>by
   cases w:m (C u) with
   |none=>rfl
   |some o=>rw[ap _ _ w]at z;cases z
  have t6:Tk H5 H6:=λb N e=>f6 b _ e λz=>by rw[z,a2]at e;cases e
  have al:=as.mono t6;have ad:=W.mono t6;have Yt:K6 l.1=true:=(S _).mpr<|.inl k5;refine⟨_,rfl,_,rfl,_,rfl,y.get Yt al ⟨_,rfl,y.put (B':=4*i+3) Yt ad (by lia) (.inl<|by lia) λH7 f7 R=>?_⟩⟩;have t7:Tk H6 H7:=λb N e=>by
   rw[f7 b λz=>by
    obtain⟨kv,e1,_⟩:=(y.inn _ Yt).ex;rw[z,e1]at e;cases e]
   exact e
  have bv:∀b o,m b=some o->H7 b=some o:=λb o e=>by grind
  have bc:=al.mono t7;have be:=ad.mono t7;refine⟨_,rfl,_,rfl,R.get k6 be ⟨_,rfl,R.put (B':=4*(i+1)) k6 bc (by lia) (.inl<|by lia) λH8 f8 bd=>?_⟩⟩;refine⟨_,_,_,_,K6,C,rfl,?_,λb o e=>?_,a3,λu=>?_⟩
  ·rw[tk,FN (λz=>js.one l ml<|SI z)<|js.ne l ml]
   exact bd
  ·grind
  ·rw[S,bn,Y,tk]
   constructor
   ·rintro((⟨v,z⟩|z)|z)
    ·exact⟨v,z.elim (λz=>.inl<|Ra _ z) λz=>.inr<|Ra _ z⟩
    ·exact⟨l.2,.inl<|by grind⟩
    ·exact⟨l.1,.inr<|by grind⟩
   ·rintro⟨v,z|z⟩
    ·obtain z|z:=Rg.mp z
     ·exact .inl<|.inl ⟨v,.inl z⟩
     ·grind
    ·obtain z|z:=Rg.mp z
     ·exact .inl<|.inl ⟨v,.inr z⟩
     ·grind
 ·rintro σ H3 ⟨e2,e3,e4,e5,K',ia,rfl,rd,F,fr,Y⟩
  rw[kl,RR]at rd Y;exact⟨_,rfl,k r H3 K' ia (λb o e n=>F b o<|back b o e n) ⟨a,B.same F,ek⟩ rd nr (λu z=>non _<|fr u z) Y⟩
def jb(R:Hp->V->δ->Prop)(dl:Xm δ)(p:δ->Bool)(mono:∀v d H H',Tk H H'->R H v d->R H' v d)(hz:dl.length<=sizeLine)(T:∀i a,cH H a->i<dl.length->J.go i a)(X:∀a,cH H a->J.stop dl.length a)
  (he:∀(i:Nat)(F:St) v d a E (O:VK)(M:Hp->Prop),dl[i]? =some d->F.length=n->cH H a->J.yld i a v E->(p d=true->∀y x,cH a x->R x y d->O y x)->(p d=false->∀l,cH a l->M l)->
   g v (F++ee is σ) E λj H4=>(∃r:St,r.length=n/\j=r++ee is σ)/\tc j H4 λb l=>if b=true then te j l O else M l)
  (q:∀D ys H',H D=none->cH H H'->H' D=some (.lst ys)->Lz R H' ys (dl.filter p)->Q (.ref D) H'):eJ J n is g tc te σ H Q:=by
 intro D s;refine⟨λi m ys a=>m=dl.length-i/\i<=dl.length/\cH H a/\a D=some (.lst ys)/\Lz R a ys ((dl.take i).filter p),⟨_,rfl,RF _,cH.upd s,cE,rfl,λi v d h=>by cases h⟩,?_⟩;rintro i m ys a ⟨rfl,W,C,A,G⟩;refine⟨A,?_⟩;have U:ys.length<=i:=by
  rw[G.1];grind
 by_cases f:i<dl.length
 ·have I:=QB f
  have N:dl.take (i+1)=dl.take i++[dl[i]]:=by simp_all
  refine .inr ⟨T i a C f,λF v E K y=>he i F v dl[i] a E _ _ I K C y (λP z x B S=>⟨B _ _ A,by lia,dl.length-(i+1),by lia,rfl,f,λb o e=>?_,cE,?_⟩) λP l L=>⟨dl.length-(i+1),by lia,rfl,f,C.trans L,L _ _ A,?_⟩⟩
  ·rw[cG<|cF e s]
   exact B _ _<|C _ _ e
  ·have w:=Tk.upd (B _ _ A) (ys:=ys++[z])
   rw[N,Sz,show List.filter p [dl[i]]=[dl[i]] by rw[R8,QI P];rfl];exact Lz.snoc (G.mono λv d h=>mono v d _ _ ((Tk.of B).trans w) h)<|mono _ _ _ _ w S
  ·rw[N,Sz,show List.filter p [dl[i]]=[] by rw[R8,QG<|by grind];rfl,Rm]
   exact G.mono λv d h=>mono _ _ _ _ (Tk.of L) h
 ·grind
def O8(n:Nat):seqIndex? 0 (n+1)=some 0:=by
 unfold seqIndex?;grind
def Ff{os:St}(h:os.length=1):∃o,os=[o]:=by
 cases os with
 |nil=>cases h
 |cons a r=>exact⟨a,by rw[Rc<|Ss h]⟩
def Oi{os:St}(h:os.length=2):∃o e,os=[o,e]:=by
 cases os with
 |nil=>cases h
 |cons a r=>
  obtain⟨o,rfl⟩:=Ff<|Ss h;exact⟨a,o,rfl⟩
def xU{f:δ->V}(h:Lz (λ_ v d=>v=f d) H ys ds):ys=ds.map f:=by
 refine UN λi=>?_;rw[QR];by_cases g:i<ys.length
 ·have e:=QB g
  have a:ds[i]? =some (ds[i]'(by rw[<-h.1];exact g)):=QB _;rw[e,a,h.2 i _ _ e a];rfl
 ·rw[Tp<|by lia,Tp<|by rw[<-h.1];lia]
  rfl
def tD:V->Bool
 |.int n=>decide<|0<n
 |_=>false
def KG(s:Xn)(G:Pl->Pl->Xk Int)(Xu:Xm (Pl×V×V)):Prop:=∀(j:Nat) e,Xu[j]? =some e->(j=0/\e.1=jj s/\e.2.2=.non)\/∃(f:Nat) (a:Pl×V×V) (n:Int),f<j/\Xu[f]? =some a/\e.2.2=a.2.1/\G a.1 e.1=some n/\0<n
structure ju(P:Xi)(w:Xj)(H:Hp)(cm:Xg)(s:Xn)(G:Pl->Pl->Xk Int)(Xu:Xm (Pl×V×V)):Prop where
 hm:H cm=some (.ext (Dφ (eT P w) cm Xu))
 dd:DD (eT P w) H cm Xu
 ck:KG s G Xu
 st:jj s∈Xu.map (·.1)
 cl:∀u∈Xu.map (·.1),∀v n,G u v=some n->0<n->v∈Xu.map (·.1)
 sub:∀e∈Xu,e.1=jj s\/∃u n,G u e.1=some n
inductive Qn(P:Xi)(w:Xj)(vs:Xm V)(H:Hp)(Q:VK):Prop
 |mk(r:Xg)(s:Xn)(K:Pl->Bool)(G:Pl->Pl->Xk Int)(g:Pl->Xg)(B:Nat)(f:Xm Pl)(e:vs=[.ref r,.str s])(hr:d7 P w H r K G g B)(bl:B<=400000)(i:∀u v n,G u v=some n->v∈f)(h:f.length<=400000)
  (k:∀(a:Xg)(Xu:Xm (Pl×V×V))(H':Hp),cH H H'->H a=none->ju P w H' a s G Xu->Q (.ref a) H')
def JR(P:Xi)(w:Xj):Sp:=λa H Q _=>Qn P w a H Q
inductive IE(P:Xi)(w:Xj)(r:Xg)(s:Xn)(H1:Hp)(f g:Xg)(G:Pl->Pl->Xk Int)(p:Xm Pl)(m:Nat)(σ:St)(a:Hp):Prop
 |mk(o h l q:Xk V)(Xu:Xm (Pl×V×V))(i:Nat)(e:σ=[some (.ref r),some (.str s),some (.ref f),some (.ref g),o,h,l,q])(hm:m=p.length+1-i)(y:cH H1 a)(z:a f=some (.ext (Dφ (eT P w) f Xu)))(B:DD (eT P w) a f Xu)(hw:a g=some (.lst ((Xu.drop i).map (·.2.1))))(x:i<=Xu.length)(A:KG s G Xu)(st:jj s∈Xu.map (·.1))
  (cl:∀(j:Nat) e v n,j<i->Xu[j]? =some e->G e.1 v=some n->0<n->v∈Xu.map (·.1))(sub:∀e∈Xu,e.1=jj s\/∃u n,G u e.1=some n)
inductive MZ(P:Xi)(w:Xj)(r:Xg)(s:Xn)(H1 i:Hp)(g h fl:Xg)(pv:V)(Xu fr:Xm (Pl×V×V))(wl:Xm V)(j:Nat)(σ:St)(a:Hp):Prop
 |mk(l m:Xk V)(e:σ=[some (.ref r),some (.str s),some (.ref g),some (.ref h),some pv,l,some (.ref fl),m])(n:cH H1 a)(o:Tk i a)(p:a g=some (.ext (Dφ (eT P w) g (Xu++(fr.take j).map λf=>(f.1,f.2.1,pv)))))(q:DD (eT P w) a g (Xu++(fr.take j).map λf=>(f.1,f.2.1,pv)))(hw:a h=some (.lst wl))(hf:a fl=some (.lst (fr.map (·.2.1))))
def oy:cK ["room","start","came","waiting","place","around","fresh","other"] ["room","start"] (cI gL):={}
def MQ (D:Df K mg "reached_from" gL ["room","start"] f fd):Gd P w K mg base 1 "reached_from" (JR P w):=by
 refine aG D oy λX H vs Q E R h=>?_;obtain⟨r,s,K',G,ia,B,PL,rfl,hr,bl,pl,ll,k⟩:=h;obtain⟨rfl,rfl⟩:=And.intro R.pr R.wd;have hu:=d5 R.room;have a4:=jc R.room;have XH:sizeLine=16777216:=Q0;obtain⟨S0,S1,S2,S3,S4,S5,S6,S7,_⟩:=R.fg [0,1,2,3,4,5,6,7];refine⟨_,(af (au S2 R.nd<|J.q1 (aa S1) bL)
 (af (au S3 R.nd<|a5<|aj<|aa S1)
 (af (cy R.own (aF (J.lM hu) (aa S3) (a5 bz)<|cM _)
 (af (au S4 R.nd<|bw RV PySem.F.slot_list_pop PySem.F.type_list_pop J.p5 (aa S3)<|aj ae)
 (af (au S5 R.nd<|J.Kn a4 (aa S0) (aa S4) J.zy)
 (af (J.Mp<|bY (is:=[2,5]) (xs:=["other"]) (ns:=["came","around"]) S6 R.nd R.calm (J.NX<|aa S5) {} (λ_ _ _ _ _=>a6 (i:=0)) (λ_ _ _ _ _=>bC<|a7<|bg (aF bR (J.xC a4 (aS (i:=2)) (aM (i:=0)) aR) ae<|cM _)<|bq<|J.oh a4 (aM (i:=0))<|aS (i:=1)) (λ_ _ _ _ _=>aM (i:=0)) R.hsc R.hN (by decide+kernel))
 (af (aZ R.own R.calm (aQ<|aa S6) (aN S7 R.nd)
 (ag<|J.Eo a4 (aa S2) (aa S7)<|aa S4))
 (ag<|br<|bw RV PySem.F.slot_list_extend PySem.F.type_list_extend J.mP (aa S3)<|aj<|aa S6))))))
 (ag<|aw<|aa S2)))),?_⟩
 intro I a1 b4;refine⟨_,rfl,_,_,rfl,s,rfl,cE,?_⟩;rw[zA];have s1:=cH.upd (o:=.ext<|Dφ (eT X.prog X.w) I [(.inl<|.inr s,.str s,.non)]) a1;have b2:upd H I (.ext<|Dφ (eT X.prog X.w) I [(.inl<|.inr s,.str s,.non)]) I=some (.ext<|Dφ (eT X.prog X.w) I [(jj s,.str s,.non)]):=cE;generalize upd H I (.ext<|Dφ (eT X.prog X.w) I [(.inl<|.inr s,.str s,.non)])=H1 at s1 b2;refine⟨_,rfl,L1,λN bf=>?_⟩;have s2:=cH.upd (o:=.lst [.str s]) bf;have cp:upd H1 N (.lst [.str s]) N=some (.lst [.str s]):=cE;generalize upd H1 N (.lst [.str s])=H2 at s2 cp;have as:=s2 _ _ b2;have ay:H N=none:=s1.free bf;have ar:I≠N:=λe=>by rw[<-e,b2]at bf;cases bf
 refine⟨IE X.prog X.w r s H I N G PL,⟨_,none,none,none,none,[(jj s,.str s,.non)],0,rfl,rfl,s1.trans s2,as,⟨.inl as,λe C=>by rw[QK.mp C];exact rfl,Ts _ _,b4,by show 1<sizeLine;decide⟩,cp,RF _,λj e C=>?_,QK.mpr rfl,λj e v n hj=>by lia,λe C=>.inl<|by rw[QK.mp C]⟩,?_⟩
 ·cases j with
  |zero=>
   cases C;exact .inl ⟨rfl,rfl,rfl⟩
  |succ j=>cases C
 rintro m σ H3 ⟨e4,e5,e6,e7,q,i,rfl,rfl,kp,hc,dd,hw,il,ck,st,cl,bv⟩;have dk:q.length<=PL.length+1:=by
  have:=iW (ys:=jj s::PL) dd.nd λx hx=>by
   obtain⟨e,C,rfl⟩:=Rk.mp hx;obtain z|⟨u,n,z⟩:=bv e C
   ·rw[z]
    exact .head _
   ·exact .tail _<|pl _ _ _ z
  rwa [QF,Rz]at this
 refine ne_nil (K:=X.K) rfl hw λH4 s4=>⟨_,rfl,?_⟩;cases aq:q.drop i with
 |nil=>
  refine dH ?_;have hi:i=q.length:=by
   have:=RH List.length aq;rw[So]at this;have z:([]:Xm (Pl×V×V)).length=0:=rfl;lia
  subst hi;exact⟨_,rfl,k I q H4 (kp.trans s4) a1 ⟨s4 _ _ hc,dd.same s4,ck,st,λu hu v n g p=>by
   obtain⟨e,C,rfl⟩:=Rk.mp hu;obtain⟨j,hj⟩:=QZ C;exact cl j e v n (gI0.mp hj).1 hj g p,bv⟩⟩
 |cons A Y=>
  have db:i<q.length:=by
   have:=RH List.length aq;rw[So,Rz]at this;lia
  have YG:q[i]? =some A:=by
   have:(q.drop i)[0]? =some A:=by rw[aq];rfl
   rw[TB]at this;exact this
  have cn:q.drop (i+1)=Y:=by
   rw[<-drop_drop,aq];rfl
  refine fO ⟨IE X.prog X.w r s H I N G PL<|PL.length+1-(i+1),λdm H' z=>⟨_,by lia,z⟩,?_⟩;rw[aq]at hw;have dc:=kp.trans s4;have c1:=s4 _ _ hc;have c2:=dd.same s4;have bn:=s4 _ _ hw;clear hc dd hw kp s4;refine⟨_,rfl,.inl ⟨rfl,_,cN.of bn⟩,N,_,0,0,A.2.1,rfl,rfl,bn,by decide,by decide,O8 _,rfl,?_⟩;have bi:cH H (upd H4 N<|.lst<|Y.map (·.2.1)):=λb o e=>by
   rw[cG<|cF e ay];exact dc _ _ e
  have b0:upd H4 N (.lst<|Y.map (·.2.1)) N=some (.lst<|Y.map (·.2.1)):=cE;have be:upd H4 N (.lst<|Y.map (·.2.1)) I=some (.ext<|Dφ (eT X.prog X.w) I q):=by rw[cG ar];exact c1
  have bb:DD (eT X.prog X.w) (upd H4 N<|.lst<|Y.map (·.2.1)) I q:=c2.mono (cG ar)<|Tk.upd bn;show eU 4 A.2.1 _ (upd H4 N<|.lst<|Y.map (·.2.1)) _;generalize upd H4 N (.lst<|Y.map (·.2.1))=H5 at bi b0 be bb;have am:iG H5 A.1 A.2.1:=bb.r A<|QH YG;have b1:=hr.same (B':=B) bi<|QJ _;obtain⟨bc,r1,r2,r3,r4⟩:=b1.ex;refine⟨_,rfl,r,bc,rfl,r2,_,rfl,λp np co=>?_⟩;have s6:=cH.upd (o:=.ext<|Dφ (eT X.prog X.w) p []) np;have a9:upd H5 p (.ext<|Dφ (eT X.prog X.w) p []) p=some (.ext<|Dφ (eT X.prog X.w) p []):=cE;generalize upd H5 p (.ext<|Dφ (eT X.prog X.w) p [])=H6 at s6 a9;refine⟨bc,A.1,r2.same s6,am.mono<|Tk.of s6,?_⟩;have around:∃O L,((jg bc A.1).map (·.2.2)).getD (.ref p)=.ref O/\H6 O=some (.ext<|Dφ (eT X.prog X.w) O L)/\DD (eT X.prog X.w) H6 O L/\L.length<=400000/\(∀v,jF L v=(G A.1 v).map V.int)/\I≠O:=by
   have c5:(jg bc A.1).map (·.2.2)=_:=r4 A.1;rw[c5];cases hk:K' A.1 with
   |true=>
    obtain⟨L,h1,h2,h3,h4⟩:=(b1.inn _ hk).ex;obtain⟨o,ho⟩:=hr.there hk;exact⟨_,L,rfl,s6 _ _ h1,h2.same s6,Rn h3 bl,h4,(cF ho a1).symm⟩
   |false=>exact⟨p,[],rfl,a9,⟨.inl a9,(λe C=>nomatch C),Uz,co,by show 0<sizeLine;decide⟩,RF _,λv=>by rw[hr.no _ hk v];rfl,cF be np⟩
  obtain⟨O,L,ea,ap,M,cd,va,b3⟩:=around;rw[ea];have de:=bi.trans s6;have a0:=s6 _ _ b0;have a3:=s6 _ _ be;have cs:=bb.same s6;have dg:=am.mono<|Tk.of s6;clear s6 a9 r4 r3 r2 r1 b1 ea np co bi b0 be bb am;refine⟨_,rfl,O,L,rfl,M,λo H7 S W=>?_⟩;have t7:Tk H6 H7:=λb xs e=>by
   rw[S b λz=>by rw[z,ap]at e;cases e];exact e
  have al:DD (eT X.prog X.w) H7 O L:=⟨.inr ⟨o,W⟩,λe C=>(M.r e C).mono t7,M.nd,M.ns,M.l⟩;have ct:H7 I=some (.ext<|Dφ (eT X.prog X.w) I q):=by rw[S I b3];exact a3
  have cr:DD (eT X.prog X.w) H7 I q:=cs.mono (S I b3) t7;have cg:N≠O:=λe=>by rw[<-e,a0]at ap;cases ap
  have da:H7 N=some (.lst<|Y.map (·.2.1)):=by rw[S N cg];exact a0
  refine jb (λ_ v (f:Pl×V×V)=>v=f.2.1) L (λf=>tD f.2.2 && !(jg q f.1).isSome) (λv d _ _ _ h=>h) (by lia) (λj H8 s8 hj=>⟨s8 _ _ W,hj⟩) (λH8 s8=>⟨s8 _ _ W,QJ _⟩) ?_ ?_
  ·intro j os v d H8 H9 K1 K2 hd c3 s8 y k1 k2
   obtain⟨e9,d',ce,rfl⟩:=y;subst e9;rw[hd]at ce;cases ce;obtain⟨o1,rfl⟩:=Ff c3;have md:=QH hd;have cc:=ES M.nd md;obtain⟨n,gn,dn⟩:∃n,G A.1 d.1=some n/\d.2.2=.int n:=by
    have:=va d.1;unfold jF at this;rw[cc]at this;cases hg:G A.1 d.1 with
    |none=>rw[hg]at this;cases this
    |some n=>rw[hg]at this;exact⟨n,rfl,Ri this⟩
   have av:=(al.same s8).r d md;refine⟨⟨[some d.2.1],rfl,rfl⟩,⟨_,rfl,_,rfl,O,L,d.1,d,rfl,al.same s8,av,cc,?_⟩⟩;rw[dn]at k1 k2 ⊢;refine⟨n,0,rfl,rfl,_,rfl,?_⟩;by_cases hn:0<n
   ·have hp:tD (.int n)=true:=dT0 hn
    rw[hp,R6]at k1 k2;refine fH (dT0 hn) ⟨_,rfl,_,rfl,I,q,d.1,rfl,cr.same s8,av,_,rfl,dF (λz=>⟨_,rfl,k1 z _ _ (cH.refl _) rfl⟩) λz=>k2 (RA.mpr z) _<|cH.refl _⟩
   ·have hp:tD (.int n)=false:=QM hn
    rw[hp,SK]at k2;exact gP (λz=>hn<|QO z)<|dH<|k2 rfl _<|cH.refl _
  ·intro fl ys H8 a2 s8 bx lz
   have ey:=xU (f:=λf:Pl×V×V=>f.2.1) lz;clear lz;subst ey;have fk:∀f∈L.filter λf=>tD f.2.2 && !(jg q f.1).isSome,f∈L/\f.1 ∉ q.map (·.1)/\∃n,G A.1 f.1=some n/\0<n:=λf hf=>by
    obtain⟨h1,h2⟩:=QV.mp hf;rw[RZ]at h2;refine⟨h1,λz=>?_,?_⟩
    ·have:=iL.mpr z
     unfold jF at this;rw[TZ]at this;rw[this]at h2;exact absurd h2.2 (by decide)
    ·have:=va f.1
     unfold jF at this;rw[ES M.nd h1]at this;cases hg:G A.1 f.1 with
     |none=>rw[hg]at this;cases this
     |some n=>
      rw[hg]at this;have e:f.2.2=.int n:=Ri this;rw[e]at h2;exact⟨n,rfl,QO h2.1⟩
   have fa:∀v n,G A.1 v=some n->0<n->v ∉ q.map (·.1)->v∈(L.filter λf=>tD f.2.2 && !(jg q f.1).isSome).map (·.1):=λv n g hn nv=>by
    have:=va v;rw[g]at this;obtain⟨f,hf,ef⟩:=vx this;obtain⟨k1,k2⟩:=oQ hf;refine Rk.mpr ⟨f,QV.mpr ⟨k2,?_⟩,k1⟩;have z:(jg q f.1).isSome=false:=RA.mpr λw=>nv (by
     rw[<-k1];refine iL.mp ?_;unfold jF;rw[TZ];exact w)
    rw[z,ef];exact U8.mpr ⟨dT0 hn,rfl⟩
   have ca:((L.filter λf=>tD f.2.2 && !(jg q f.1).isSome).map (·.1)).Nodup:=SM (List.Sublist.map _ Th) M.nd;have c7:(L.filter λf=>tD f.2.2 && !(jg q f.1).isSome).length<=400000:=Rn (RB _ _) cd;have an:∀f∈L.filter λf=>tD f.2.2 && !(jg q f.1).isSome,iG H6 f.1 f.2.1:=λf hf=>M.r f (fk f hf).1;generalize L.filter (λf=>tD f.2.2 && !(jg q f.1).isSome)=T at fk fa ca c7 an bx;refine⟨O,o,L,s8 _ _ W,?_⟩;have ch:fl≠O:=λe=>by rw[e,W]at a2;cases a2
   have U:cH H6 (upd H8 O<|.ext<|Dφ (eT X.prog X.w) O L):=λb u e=>by
    by_cases z:b=O
    ·rw[z]at e ⊢
     rw[cE,<-e,ap]
    ·rw[cG z]
     exact s8 _ _<|(S b z).trans e
   have ab:upd H8 O (.ext<|Dφ (eT X.prog X.w) O L) fl=some (.lst<|T.map (·.2.1)):=by rw[cG ch];exact bx
   have ax:H6 fl=none:=by rw[<-S fl ch];exact a2
   generalize upd H8 O (.ext<|Dφ (eT X.prog X.w) O L)=H9 at U ab;have cx:I≠fl:=cF a3 ax;have dl:N≠fl:=cF a0 ax;clear a2 s8 bx S W t7 al ct cr cg da ap M cd va b3;dsimp only;refine⟨_,rfl,fl,rfl,⟨_,cN.of ab⟩,c6 (K:=X.K) (a:=fl) (xs:=T.map (·.2.1)) (MZ X.prog X.w r s H H6 I N fl A.2.1 q T<|Y.map (·.2.1)) ?_ ?_ ?_ ?_⟩
   ·exact⟨_,e7,rfl,de.trans U,Tk.of U,by rw[Ue];exact(Rm q).symm ▸ U _ _ a3,by rw[Ue];exact(Rm q).symm ▸ cs.same U,U _ _ a0,ab⟩
   ·rintro j σ HA hj ⟨e5,e7,rfl,kp,tk,hc,dd,hw,hf⟩
    exact cN.of hf
   ·rintro j v σ HA hv ⟨e5,e7,rfl,kp,tk,hc,dd,hw,hf⟩
    rw[QR]at hv;obtain⟨f,bd,rfl⟩:=Rt.mp hv;have jl:=(gI0.mp bd).1;have mf:=QH bd;refine⟨_,rfl,_,rfl,_,rfl,I,_,f.1,rfl,dd,hc,(an f mf).mono tk,?_⟩;have vn:jF (q++(T.take j).map λf=>(f.1,f.2.1,A.2.1)) f.1=none:=by
     cases h:jF (q++(T.take j).map λf=>(f.1,f.2.1,A.2.1)) f.1 with
     |none=>rfl
     |some z=>
      exfalso
      have:=iL.mp (by rw[h];rfl);rw[Si,Rg]at this;obtain m|m:=this
      ·exact(fk f mf).2.1 m
      ·rw[Tc]at m
       obtain⟨f',Z,e'⟩:=Rk.mp m;obtain⟨j',Ym,rfl⟩:=VB Z;rw[RK]at Ym;have e2:T[j'].1=f.1:=by
        have e3:(T.take j)[j'].1=f.1:=e';rw[List.getElem_take]at e3;exact e3
       obtain⟨q1,q2⟩:=gI0.mp bd;have:j'=j:=(TJ (h₀:=by rw[QF];lia) (h₁:=by rw[QF];lia) ca).mp (by rw[Ug,Ug,q2,e2]);lia
    have ep:fE (q++(T.take j).map λf=>(f.1,f.2.1,A.2.1)) f.1 f.2.1 A.2.1=q++(T.take<|j+1).map λf=>(f.1,f.2.1,A.2.1):=by
     rw[qh vn,RE,bd,Si,QL];rfl
    have c0:(q++(T.take j).map λf=>(f.1,f.2.1,A.2.1)).length+1<sizeLine:=by
     rw[QC,QF,RK];lia
    have cf:=dd.put (v:=A.2.1) hc ((an f mf).mono tk) c0;rw[ep]at cf ⊢;refine⟨_,_,rfl,λb u e=>?_,λb xs e=>?_,cE,cf,?_,?_⟩
    ·rw[cG<|cF e a1]
     exact kp _ _ e
    ·rw[cG λz=>by rw[z,a3]at e;cases e]
     exact tk _ _ e
    ·rw[cG ar.symm]
     exact hw
    ·rw[cG cx.symm]
     exact hf
   ·rintro σ HA ⟨e5,e7,rfl,kp,tk,hc,dd,hw,hf⟩
    rw[QF,RR]at hc dd;refine⟨_,rfl,.inl ⟨rfl,_,cN.of hw⟩,_,rfl,N,fl,_,_,rfl,rfl,hw,hf,?_,?_⟩
    ·rw[QF,QF,<-cn,So]
     lia
    have ew:Y.map (·.2.1)++T.map (·.2.1)=((q++T.map λf=>(f.1,f.2.1,A.2.1)).drop<|i+1).map (·.2.1):=by
     rw[List.drop_append_of_le_length db,cn,Si,Tc];rfl
    rw[ew];have bm:∀{j:Nat}{e:Pl×V×V},q[j]? =some e->(q++T.map λf=>(f.1,f.2.1,A.2.1))[j]? =some e:=λh=>by
     rw[QX (gI0.mp h).1];exact h
    have ac:∀{x:Pl},x∈q.map (·.1)->x∈(q++T.map λf=>(f.1,f.2.1,A.2.1)).map (·.1):=λh=>by
     rw[Si];exact Ra _ h
    refine⟨_,_,_,_,q++T.map λf=>(f.1,f.2.1,A.2.1),i+1,rfl,rfl,λb u e=>?_,?_,?_,cE,?_,λj e C=>?_,ac st,λj e v n hj C g hn=>?_,λe C=>?_⟩
    ·rw[cG<|cF e ay]
     exact kp _ _ e
    ·rw[cG ar]
     exact hc
    ·exact dd.mono (cG ar)<|Tk.upd hw
    ·rw[QC]
     lia
    ·by_cases jl:j<q.length
     ·rw[QX jl]at C
      obtain z|⟨j',e',n,h1,h2,h3⟩:=ck j e C
      ·exact .inl z
      ·exact .inr ⟨j',e',n,h1,bm h2,h3⟩
     ·rw[QQ<|by lia,QR]at C
      obtain⟨f,Z,rfl⟩:=Rt.mp C;obtain⟨_,_,n,g,hn⟩:=fk f<|QH Z;exact .inr ⟨i,A,n,by lia,bm YG,rfl,g,hn⟩
    ·by_cases ji:j<i
     ·rw[QX<|by lia]at C
      exact ac<|cl j e v n ji C g hn
     ·have ej:j=i:=by lia
      subst ej;rw[bm YG]at C;cases C;by_cases m:v∈q.map (·.1)
      ·exact ac m
      ·rw[Si,Tc]
       exact QP _<|fa v n g hn m
    ·obtain h|h:=Rg.mp C
     ·exact bv e h
     ·obtain⟨f,Z,rfl⟩:=Rk.mp h
      obtain⟨_,_,n,g,_⟩:=fk f Z;exact .inr ⟨A.1,n,g⟩
def NT(m:y9 L b a)(ne:b≠a):qy (qy (jQ L R) b a<|R b a-1) a b (R a b+1)=jQ L (FL.way R b a):=by
 funext x y
 unfold qy;by_cases q:x=a/\y=b
 ·rw[QI q,q.1,q.2]
  unfold jQ;rw[QI<|show y9 L a b from m.symm,FL.tQ ne]
 ·rw[QG q]
  by_cases e:x=b/\y=a
  ·rw[QI e,e.1,e.2]
   unfold jQ;rw[QI m,FL.ua]
  ·rw[QG e]
   unfold jQ;rw[FL.nN e q]
def Hj{L:Xm (Pl×Pl)}{R:Pl->Pl->Int}{s:Xn}{Xu:Xm (Pl×V×V)}(nd:(Xu.map (·.1)).Nodup)(W:KG s (jQ L R) Xu)(st:jj s∈Xu.map (·.1)):
  ∃N M,FL.Mw L R (jj s) (Xu.map (·.1)) N M/\(∀(j:Nat) e,Xu[j]? =some e->M e.1=j)/\∀(j:Nat) e,Xu[j]? =some e->e.1≠jj s->∃(m:Nat) (a:Pl×V×V),m<j/\Xu[m]? =some a/\e.2.2=a.2.1/\N e.1=a.1:=by
 have B:∀{i j:Nat}{e f:Pl×V×V},Xu[i]? =some e->Xu[j]? =some f->e.1=f.1->i=j:=λ{i j e f} C A h=>by
  obtain⟨a1,a2⟩:=gI0.mp C;obtain⟨b1,X⟩:=gI0.mp A;exact(TJ (h₀:=by rw[QF];lia) (h₁:=by rw[QF];lia) nd).mp (by rw[Ug,Ug,a2,X,h])
 have pick:∀x:Pl,∃p:Nat×Pl,∀(j:Nat) e,Xu[j]? =some e->e.1=x->p.1=j/\(x≠jj s->∃(m:Nat) (a:Pl×V×V) (n:Int),m<j/\Xu[m]? =some a/\e.2.2=a.2.1/\p.2=a.1/\jQ L R a.1 x=some n/\0<n):=λx=>by
  by_cases h:x∈Xu.map (·.1)
  ·obtain⟨e,r,rfl⟩:=Rk.mp h
   obtain⟨j,w⟩:=QZ r;obtain ⟨_,z,_⟩|⟨m,a,n,C,A,Y,T,U⟩:=W j e w
   ·exact⟨(j,e.1),λi f D H=>⟨B w D H.symm,λl=>absurd z l⟩⟩
   ·refine⟨(j,a.1),λi f D H=>?_⟩
    have S:=B w D H.symm;subst S;rw[w]at D;cases D;exact⟨rfl,λ_=>⟨m,a,n,C,A,Y,rfl,T,U⟩⟩
  ·exact⟨(0,x),λj e r I=>absurd (Rk.mpr ⟨e,QH r,I⟩) h⟩
 obtain⟨F,G⟩:=UT pick;have get:∀x∈Xu.map (·.1),∃(j:Nat) (e:Pl×V×V),Xu[j]? =some e/\e.1=x:=λx o=>by
  obtain⟨e,r,rfl⟩:=Rk.mp o;obtain⟨j,w⟩:=QZ r;exact⟨j,e,w,rfl⟩
 have key:∀x∈Xu.map (·.1),x≠jj s->(F x).2∈Xu.map (·.1)/\(F (F x).2).1<(F x).1/\∃n,jQ L R (F x).2 x=some n/\0<n:=λx o l=>by
  obtain⟨j,e,w,I⟩:=get x o;obtain⟨C,A⟩:=G x j e w I;obtain⟨m,a,n,K,E,P,J,Z,Q⟩:=A l;have:=(G a.1 m a E rfl).1;rw[J,this,C];exact⟨Rk.mpr ⟨a,QH E,rfl⟩,K,n,Z,Q⟩
 have y:∀{u v:Pl}{n:Int},jQ L R u v=some n->y9 L u v/\R u v=n:=λ{u v n} h=>by
  unfold jQ at h;by_cases q:y9 L u v
  ·rw[QI q]at h
   exact⟨q,Ri h⟩
  ·rw[QG q]at h
   cases h
 refine⟨λx=>(F x).2,λx=>(F x).1,⟨st,λx o l=>(key x o l).1,λx o l=>(key x o l).2.1,λx o l=>?_,λx o l=>?_⟩,λj e r=>(G e.1 j e r rfl).1,λj e r l=>?_⟩
 ·obtain⟨_,_,n,g,O⟩:=key x o l
  show 0<R (F x).2 x;rw[(y g).2];exact O
 ·obtain⟨_,_,n,g,O⟩:=key x o l
  exact(y g).1
 ·obtain⟨m,a,n,K,E,P,J,_⟩:=(G e.1 j e r rfl).2 l
  exact⟨m,a,K,E,P,J⟩
inductive Qk(P:Xi)(w:Xj)(vs:Xm V)(H:Hp)(Q:VK):Prop
 |mk(r g:Xg)(s t:Xn)(K:Pl->Bool)(f:Pl->Xg)(B:Nat)(L:Xm (Pl×Pl))(a:Pl×Pl->Int)(R:Pl->Pl->Int)(Xu:Xm (Pl×V×V))(e:vs=[.ref r,.ref g,.str t])(hr:d7 P w H r K (jQ L R) f B)(bl:B<=400000)(cd:ju P w H g s (jQ L R) Xu)(mt:jj t∈Xu.map (·.1))(js:FL.Net L)(l:FL.gS L a R)(ne:s≠t)(i:∀u,K u=true↔∃v,y9 L u v)(j:∀u,K u=true->f u≠g)
  (k:∀(H':Hp)(h:Pl->Pl->Int),(∀b o,H b=some o->(∀u,K u=true->b≠f u)->H' b=some o)->d7 P w H' r K (jQ L h) f B->FL.gS L a h->(∀n,FL.Flow L a (FL.fl R) (jj s) (jj t) n->FL.Flow L a (FL.fl h) (jj s) (jj t) (n+1))->Q .non H')
def Kr(P:Xi)(w:Xj):Sp:=λa H Q _=>Qk P w a H Q
inductive IW(P:Xi)(w:Xj)(r j:Xg)(s t:Xn)(H1:Hp)(K:Pl->Bool)(h:Pl->Xg)(B:Nat)(L:Xm (Pl×Pl))(a:Pl×Pl->Int)(R:Pl->Pl->Int)(Xu:Xm (Pl×V×V))(i:Pl->Pl)(n:Pl->Nat)(m:Nat)(σ:St)(f:Hp):Prop
 |mk(l:Xk V)(e:Pl×V×V)(g:Pl->Pl->Int)(es:σ=[some (.ref r),some (.ref j),some (.str t),some e.2.1,l])(he:Xu[m]? =some e)(q:∀b o,H1 b=some o->(∀u,K u=true->b≠h u)->f b=some o)(hr:d7 P w f r K (jQ L g) h B)(p:FL.tL L a R g (jj s) (jj t) (Xu.map (·.1)) i n e.1)
def KA{H:Hp}:∀{x:Pl}{y:V},iG H x y->y≠.non
 |.inl (.inr _),_,h,e=>by rw[e]at h;cases h
 |.inl (.inl _),_,h,_=>h.elim
 |.inr _,_,⟨b,h,_⟩,e=>by rw[e]at h;cases h
def wA:cK ["room","came","end","place","before"] ["room","came","end"] (cI kP):={}
def Oc (D:Df K mg "take_way" kP ["room","came","end"] f fd):Gd P w K mg base 1 "take_way" (Kr P w):=by
 refine aG D wA λX H vs Q E v h=>?_;obtain⟨r,N,s,t,U,ia,B,L,ac,R,M,rfl,hr,bl,q,mt,js,rm,ne,ku,nc,k⟩:=h;obtain⟨rfl,rfl⟩:=And.intro v.pr v.wd;have g:=jc v.room;have XH:sizeLine=16777216:=Q0;obtain⟨S0,S1,S2,I,S4,_⟩:=v.fg [0,1,2,3,4];refine⟨_,(af (au I v.nd<|aa S2)
 (ag (cy v.own (aF J.oR (bM g (aa S1) (aa I) aR) bL<|cM _)
 (af (au S4 v.nd<|bM g (aa S1) (aa I) aR)
 (af (J.Jn g JK (bM g (aa S0) (aa S4) aR) (aa I) ae λ_ _ _=>rfl)
 (af (J.Jn g JP (bM g (aa S0) (aa I) aR) (aa S4) ae λ_ _ _=>rfl)
 (ag<|au I v.nd<|aa S4))))))),?_⟩
 obtain⟨bf,rk,x,Z,ar⟩:=Hj q.dd.nd q.ck q.st;obtain⟨et,met,ab⟩:=Rk.mp mt;obtain⟨jt,ap⟩:=QZ met;have aq:et.2.1=.str t:=by
  have:=q.dd.r et met;rw[ab]at this;exact this
 refine⟨_,rfl,IW X.prog X.w r N s t H U ia B L ac R M bf rk,⟨jt,none,et,R,by rw[aq];rfl,ap,λb o e _=>e,hr,by rw[ab];exact FL.tL.first rm mt⟩,?_⟩;rintro m σ H2 ⟨e4,e,A,rfl,W,kp,j,wi⟩;have t2:Tk H H2:=λb xs e=>kp b _ e λu hu z=>by
  obtain⟨_,z1,_⟩:=(hr.inn u hu).ex;rw[<-z,e]at z1;cases z1
 have am:H2 N=H N:=by rw[q.hm];exact kp _ _ q.hm λu hu z=>nc u hu z.symm
 have l:=q.dd.mono am t2;have me:=QH W;have p:=l.r e me;have O:=ES l.nd me;refine⟨_,rfl,_,rfl,N,M,e.1,e,rfl,l,p,O,rfl,_,rfl,?_⟩;by_cases S:e.1=jj s
 ·have C:e.2.2=.non:=by
   obtain ⟨_,_,z⟩|⟨j',i,n,h1,h2,h3,h4,h5⟩:=q.ck m e W
   ·exact z
   ·exfalso
    obtain⟨C,YG⟩:∃C,M[0]? =some C:=⟨_,QB (by have:=(gI0.mp W).1;lia)⟩;obtain ⟨_,z,_⟩|⟨j2,_,_,h,_⟩:=q.ck 0 C YG
    ·have:=Z 0 C YG
     rw[z,<-S,Z m e W]at this;lia
    ·lia
  rw[C];refine iN<|k H2 A kp j wi.rm λn F=>?_;rw[S]at wi;exact wi.last (λz=>ne<|by injection z with z;injection z) F
 ·obtain⟨j',i,h1,h2,h3,h4⟩:=ar m e W S
  have ad:=QH h2;have a:=l.r i ad;have nn:(!decide (e.2.2=V.non))=true:=by
   rw[QM<|by rw[h3];exact KA a];rfl
  refine fH nn ⟨IW X.prog X.w r N s t H U ia B L ac R M bf rk j',λas H' z=>⟨j',h1,z⟩,?_⟩;have mS:e.1∈M.map (·.1):=Rk.mpr ⟨e,me,rfl⟩;have G:y9 L i.1 e.1:=by
   have:=x.link e.1 mS S;rw[h4]at this;exact this
  have T:i.1≠e.1:=G.elim (λz=>js.ne _ z) λz=>(js.ne _ z).symm;have Y:U i.1=true:=(ku _).mpr ⟨_,G⟩;have k2:U e.1=true:=(ku _).mpr ⟨_,G.symm⟩;have g1:jQ L A i.1 e.1=some (A i.1 e.1):=QI G;refine⟨_,rfl,_,rfl,N,M,e.1,e,rfl,l,p,O,?_⟩;rw[h3];refine⟨_,rfl,_,rfl,j.get Y a ⟨_,rfl,(j.inn _ Y).get g1 p ⟨_,_,rfl,rfl,j.put (B':=B) Y p (by lia) (.inr ⟨by rw[g1];rfl,QJ _⟩) λH3 f3 y=>?_⟩⟩⟩;have al:∀b o,H b=some o->(∀u,U u=true->b≠ia u)->H3 b=some o:=λb o e n=>by
   rw[f3 b<|n _ Y];exact kp b o e n
  have t3:Tk H2 H3:=λb xs e=>by
   rw[f3 b λz=>by
    obtain⟨_,z1,_⟩:=(j.inn _ Y).ex;rw[z,z1]at e;cases e]
   exact e
  have g2:qy (jQ L A) i.1 e.1 (A i.1 e.1-1) e.1 i.1=some (A e.1 i.1):=by
   unfold qy;rw[QG λz=>T z.1.symm];exact QI G.symm
  refine⟨_,rfl,_,rfl,y.get k2 (p.mono t3) ⟨_,rfl,(y.inn _ k2).get g2 (a.mono t3) ⟨_,_,rfl,rfl,y.put (B':=B) k2 (a.mono t3) (by lia) (.inr ⟨by rw[g2];rfl,QJ _⟩) λH4 f4 an=>?_⟩⟩⟩;refine⟨_,rfl,_,i,FL.way A i.1 e.1,rfl,h2,λb o e n=>?_,?_,?_⟩
  ·rw[f4 b<|n _ k2]
   exact al b o e n
  ·rw[<-NT G T]
   exact an
  ·have:=wi.step js x S
   rw[h4]at this;exact this
def vf(H:Hp)(v:V)(l:Pl×Pl):Prop:=∃a e f,v=.ref a/\H a=some (.tup [e,f])/\iG H l.1 e/\iG H l.2 f
def vf.mono(t:Tk H H')(h:vf H v l):vf H' v l:=by
 obtain⟨a,j,m,e,g,f,i⟩:=h;exact⟨a,j,m,e,t _ _ g,f.mono t,i.mono t⟩
def ju.mono(h:ju P w H cm s G Xu)(x:cH H H'):ju P w H' cm s G Xu:=⟨x _ _ h.hm,h.dd.same x,h.ck,h.st,h.cl,h.sub⟩
def ju.keep(h:ju P w H cm s G Xu)(e:H' cm=H cm)(t:Tk H H'):ju P w H' cm s G Xu:=⟨e.trans h.hm,h.dd.mono e t,h.ck,h.st,h.cl,h.sub⟩
def d7.keep{K:Pl->Bool}(h:d7 P w H r K G ia B)(e:H' r=H r)(j:∀u,K u=true->H' (ia u)=H (ia u))(t:Tk H H'):d7 P w H' r K G ia B:=by
 obtain⟨g,i,a,l,f⟩:=h.ex;exact⟨⟨g,e.trans i,a.mono e t,l,f⟩,λu k=>(h.inn u k).keep (j u k) t<|QJ _,h.ne,h.inj,h.no⟩
inductive OW(P:Xi)(w:Xj)(vs:Xm V)(H:Hp)(Q:VK):Prop
 |mk(d:Xg)(s t:Xn)(L:Xm (Pl×Pl))(a:Pl×Pl->Int)(e:vs=[.ref d,.str s,.str t])(h:fN P w H d L a)(js:FL.Net L)(i:L.length<=100000)(ne:s≠t)(j:∀l∈L,0<=a l)
  (k:∀(g ul f:Xg)(us:Xm V)(Xu:Xm (Pl×V×V))(R:Pl->Pl->Int)(n:Int)(H':Hp),(∀b o,H b=some o->b≠d->H' b=some o)->H' g=some (.tup [.ref ul,.ref f])->H' ul=some (.lst us)->Lz vf H' us (L.filter λl=>decide (0<R l.2 l.1))->ju P w H' f s (jQ L R) Xu->jj t ∉ Xu.map (·.1)->FL.gS L a R->FL.Flow L a (FL.fl R) (jj s) (jj t) n->Q (.ref g) H')
def Cu(P:Xi)(w:Xj):Sp:=λa H Q _=>OW P w a H Q
inductive Ep(P:Xi)(w:Xj)(d r:Xg)(s t:Xn)(H1:Hp)(K:Pl->Bool)(h:Pl->Xg)(L:Xm (Pl×Pl))(a:Pl×Pl->Int)(m:Nat)(σ:St)(f:Hp):Prop
 |mk(g:Xg)(i:Xk V)(Xu:Xm (Pl×V×V))(R:Pl->Pl->Int)(n:Int)(e:σ=[some (.ref d),some (.str s),some (.str t),some (.ref r),some (.ref g),i])(hm:m=((L.map λl=>FL.ind (l.1=jj s) (a l)).sum-n).toNat)(j:∀b o,H1 b=some o->b≠d->f b=some o)(p:fN P w f d L a)(hr:d7 P w f r K (jQ L R) h (4*L.length))(cd:ju P w f g s (jQ L R) Xu)(v:FL.gS L a R)(x:FL.Flow L a (FL.fl R) (jj s) (jj t) n)(q:∀u,K u=true->h u≠g)(nd:g≠d)
def fN.mono(h:fN P w H d L cap)(e:H' d=H d)(t:Tk H H'):fN P w H' d L cap:=let ⟨f,g,a⟩:=h;⟨f,g.mono e t,a⟩
def fN.same(h:fN P w H d L cap)(s:cH H H'):fN P w H' d L cap:=let ⟨e,f,a⟩:=h;⟨e,f.same s,a⟩
def fN.there(h:fN P w H d L cap):∃φ,H d=some (.ext φ):=let ⟨e,a,_⟩:=h;a.h.elim (λz=>⟨_,z⟩) λ⟨_,z⟩=>⟨_,z⟩
def NY(h:jQ L R u v=some n):v∈L.map (·.1)++L.map (·.2):=by
 unfold jQ at h;by_cases q:y9 L u v
 ·exact q.elim (λz=>QP _<|Rk.mpr ⟨_,z,rfl⟩) λz=>Ra _<|Rk.mpr ⟨_,z,rfl⟩
 ·grind
def AW:cK ["links","start","end","room","came","used"] ["links","start","end"] (cI pj):={}
def Jx {fd:FuncData}(D:Df K mg "filled" pj ["links","start","end"] f fd) (b3:Gd P w K mg base 1 "rooms_of" (KP P w)) (bc:Gd P w K mg base 1 "reached_from" (JR P w)) (b0:Gd P w K mg base 1 "take_way" (Kr P w)):Gd P w K mg base 2 "filled" (Cu P w):=by
 refine aG D AW λX H vs Q E g h=>?_;obtain⟨d,s,t,L,a,rfl,p,js,ll,ne,cp,k⟩:=h;obtain⟨rfl,rfl⟩:=And.intro g.pr g.wd;have an:=g.gN bc rfl (by lia) (by decide);have U:=jc g.room;have XH:=Q0;obtain⟨S0,S1,S2,S3,S4,S5,_⟩:=g.fg [0,1,2,3,4,5];refine⟨_,(af (au S3 g.nd<|ak (g.gN b3 rfl (by lia)<|by decide)<|aj<|aa S0)
 (af (au S4 g.nd<|ak an<|aB (aa S3)<|aa S1)
 (af (cy g.own (J.AB U (aa S2)<|aa S4)
 (af (br<|ak (g.gN b0 rfl (by lia)<|by decide)<|aP (aa S3) (aa S4)<|aa S2)
 (ag<|au S4 g.nd<|ak an<|aB (aa S3)<|aa S1)))
 (af (bY (is:=[3]) (xs:=["one","other"]) (ns:=["room"]) S5 g.nd g.calm (J.N5<|aa S0) {} (λ_ _ _ _ _=>J.uV (n:=2) g.calm<|aT (a6 (i:=0))<|aT (a6 (i:=1)) bH) (λ_ _ _ _ _=>bC<|aF bR (J.xC U (J.xC U (aS (i:=2)) (aM (i:=1)) aR) (aM (i:=0)) aR) ae<|cM _) (λ_ _ _ _ _=>aL<|aB (aM (i:=0))<|aM (i:=1)) g.hsc g.hN (by decide+kernel))
 (ag<|aw<|aL<|aB (aa S5)<|aa S4))))),?_⟩
 have ay:(L.map (·.1)++L.map (·.2)).length<=400000:=by
  rw[QC,QF,QF];lia
 obtain⟨φ,hd⟩:=p.there;refine⟨_,rfl,d,L,a,rfl,p,js,ll,λr H1 K' ia a4 ap M nr fr ku=>?_⟩;have bb:FL.gS L a (R0 L a):=by
  have e1:∀l∈L,R0 L a l.1 l.2=a l:=λl p=>QI p;have e2:∀l∈L,R0 L a l.2 l.1=0:=λl p=>QG<|js.one l p;exact⟨λl p=>by rw[e1 l p,e2 l p,WM],λl p=>by rw[e1 l p];exact cp l p,λl p=>by rw[e2 l p];exact Uw _⟩
 have be:FL.Flow L a (FL.fl<|R0 L a) (jj s) (jj t) 0:=FL.Flow.zero (λl p=>QG<|js.one l p) cp;refine⟨_,rfl,_,rfl,r,s,K',jQ L<|R0 L a,ia,4*L.length,L.map (·.1)++L.map (·.2),rfl,M,by lia,λu v n=>NY,ay,λW S H2 s2 ar cd=>?_⟩;refine⟨Ep X.prog X.w d r s t H K' ia L a,⟨_,W,none,S,R0 L a,0,rfl,rfl,λb o e n=>s2 _ _<|a4 b o e n,ap.same s2,M.same s2<|QJ _,cd,bb,be,λu C=>?_,?_⟩,?_⟩
 ·obtain⟨o,ho⟩:=M.there C
  exact cF ho ar
 ·obtain⟨cc,bv⟩:=ap.there
  exact(cF bv ar).symm
 rintro m σ H3 ⟨W,e5,S,R,n,rfl,rfl,kp,G,O,cd,rm,fw,nc,bn⟩;refine⟨_,rfl,_,rfl,W,S,jj t,rfl,cd.dd,rfl,_,rfl,dF (λN=>?_) λno=>?_⟩
 ·have mt:jj t∈S.map (·.1):=iL.mp (by unfold jF;rw[TZ];exact N)
  refine⟨λa2 H'=>Ep X.prog X.w d r s t H K' ia L a (((L.map λl=>FL.ind (l.1=jj s)<|a l).sum-(n+1)).toNat) a2 H'/\n+1<=(L.map λl=>FL.ind (l.1=jj s)<|a l).sum,λa2 H' z=>⟨_,by have:=z.2;lia,z.1⟩,?_⟩;refine⟨_,rfl,_,rfl,_,rfl,r,W,s,t,K',ia,4*L.length,L,a,R,S,rfl,O,by lia,cd,mt,js,rm,ne,ku,nc,λZ R' I F b4 av=>?_⟩;have t4:Tk H3 Z:=λb xs e=>I b _ e λu C z=>by
   obtain⟨_,z1,_⟩:=(O.inn u C).ex;rw[<-z,e]at z1;cases z1
  have ce:∀u,K' u=true->d≠ia u:=λu C=>cF hd<|fr u C;obtain⟨b1,am⟩:=G.there;have bx:=G.mono (by grind) t4;have ab:∀b o,H b=some o->b≠d->Z b=some o:=λb o e n=>I b o (kp b o e n) λu C=>cF e<|fr u C;refine⟨_,rfl,_,rfl,r,s,K',jQ L R',ia,4*L.length,L.map (·.1)++L.map (·.2),rfl,F,by lia,λu v n=>NY,ay,λa9 ad H5 x al a3=>?_⟩;refine⟨⟨a9,e5,ad,R',n+1,rfl,rfl,λb o e n=>x _ _<|ab b o e n,bx.same x,F.same x<|QJ _,a3,b4,av n fw,λu C=>?_,?_⟩,(av n fw).bound⟩
  ·obtain⟨o,ho⟩:=F.there C
   exact cF ho al
  ·grind
 ·have nt:jj t ∉ S.map (·.1):=λz=>no (by
   have:=iL.mpr z;unfold jF at this;rw[TZ]at this;exact this)
  obtain⟨T,A,ek⟩:=id G;have kl:T.length=L.length:=by
   have:=RH List.length ek
   rwa [QF,QF]at this
  refine⟨_,rfl,d,T,rfl,A,λo Z B Y=>?_⟩;have bm:∀{b:Xg}{xs:Xm V},H3 b=some (.tup xs)->b≠d:=λe z=>by
   obtain⟨b1,am⟩:=G.there;rw[z,am]at e;cases e
  have t4:Tk H3 Z:=λb xs e=>by rw[B b<|bm e];exact e
  have ac:DD (nE X.prog X.w) Z d T:=⟨.inr ⟨o,Y⟩,λe he=>(nE X.prog X.w).mono t4<|A.r e he,A.nd,A.ns,A.l⟩;have bf:=cd.keep (B W bn) t4;have F:=O.keep (B r (cF hd nr).symm) (λu C=>B _ (cF hd<|fr u C).symm) t4;have I:∀b o,H b=some o->b≠d->Z b=some o:=λb o e n=>by
   rw[B b n];exact kp b o e n
  refine jb vf L (λl=>decide<|0<R l.2 l.1) (λv d _ _ t h=>h.mono t) (by lia) (λj H5 x hj=>⟨x _ _ Y,by rw[kl];exact hj⟩) (λH5 x=>⟨x _ _ Y,SS kl⟩) ?_ ?_
  ·intro j os v l H5 H6 K1 K2 as bi x y k1 k2
   obtain⟨e6,e,he,rfl⟩:=y;subst e6;obtain⟨o1,o2,rfl⟩:=Oi bi;obtain⟨l',b,y1,y2,a0,ea,eb,ev,hb,p1,p2⟩:=fN.at (ac.same x) ek he;rw[as]at a0;cases a0;rw[eb];have ml:=QH as;have a1:y9 L l.2 l.1:=.inr ml;have g1:jQ L R l.2 l.1=some (R l.2 l.1):=QI a1;have aq:=(ku l.2).mpr ⟨_,a1⟩;have ax:=F.same (B':=4*L.length) x<|QJ _;refine⟨b,_,rfl,fh.of hb,rfl,_,_,rfl,_,_,rfl,rfl,⟨[some y1,some y2],rfl,rfl⟩,?_⟩;refine⟨_,rfl,_,rfl,ax.get aq p2 ⟨_,rfl,(ax.inn _ aq).get g1 p1 ⟨_,_,rfl,rfl,_,rfl,dF (λN=>?_) λno=>k2 (RA.mpr no) _<|cH.refl _⟩⟩⟩;exact⟨_,rfl,_,rfl,sZ,λq nq=>k1 N _ _ (cH.upd nq) ⟨q,y1,y2,rfl,cE,p1.mono<|Tk.of<|cH.upd nq,p2.mono<|Tk.of<|cH.upd nq⟩⟩
  ·intro ul us H5 ca x b2 lz
   refine⟨_,rfl,_,rfl,sZ,λtp bd=>?_⟩;have s6:=cH.upd (o:=.tup [.ref ul,.ref W]) bd;exact k tp ul W us S R n _ (λb o e n=>s6 _ _<|x _ _<|I b o e n) cE (s6 _ _ b2) (lz.mono λ_ _ h=>h.mono<|Tk.of s6) (bf.mono<|x.trans s6) nt rm fw
def dX(k:Nat):Pl:=.inr [.inr "into",.inl (k:Int)]
def eO(k:Nat):Pl:=.inr [.inr "out",.inl (k:Int)]
abbrev sP:Pl:=jj "start"
abbrev eP:Pl:=jj "end"
def II:¬("out" :Xn)= "into" :=by decide+kernel
def IT:("start" :Xn)≠ "end" :=by decide+kernel
def kQ(h:dX k=dX l):k=l:=by
 injection (SV h) with _ h2
 grind
def qu(h:eO k=eO l):k=l:=by
 injection (SV h) with _ h2
 grind
def kJ(h:dX k=eO l):False:=by
 injection (SV h) with h2
 exact II (SV h2).symm
def fB(h:dX k=jj z):False:=nomatch h
def eL(h:eO k=jj z):False:=nomatch h
def IZ(h:sP=eP):False:=IT (by injection h with h;injection h)
def qL(f:Xm QD)(F:FH)(z:Xn)(a:Xm TK)(u v:Pl):Prop:=(∃t∈a,u=dX t.1/\v=eO t.1)\/(∃t∈a,eX F t.2.1 (cJ f t.1)=true/\u=sP/\v=dX t.1)\/(∃t∈a,t.2.2=z/\u=eO t.1/\v=eP)\/∃t∈a,∃e∈a,eN f t e=true/\u=eO t.1/\v=dX e.1
def eY(l:Pl×Pl):Int:=match l.1 with
 |.inr (.inr a::_)=>if a= "into" then 1 else 2
 |_=>2
def yK:eY (dX k,v)=1:=by
 show(if("into" :Xn)= "into" then(1:Int) else 2)=1;grind
def ux:eY (eO k,v)=2:=by
 show(if("out" :Xn)= "into" then(1:Int) else 2)=2;exact QG II
def Lf(l:Pl×Pl):0<=eY l:=by
 unfold eY;split
 ·split<;>decide
 ·decide
structure kD(qd:Xm QD)(F:FH)(z:Xn)(tl:Xm TK)(L:Xm (Pl×Pl)):Prop where
 nd:L.Nodup
 mem:∀u v,(u,v)∈L↔qL qd F z tl u v
section
variable {qd:Xm QD}{F:FH}{z:Xn}{tl:Xm TK}{L:Xm (Pl×Pl)}{f:Pl×Pl->Int}{n:Int}
def kC{t u:TK}(h:eN qd t u=true):t.2.2=u.2.1/\cJ qd t.1<cJ qd u.1:=by
 unfold eN at h;rw[RZ]at h;exact⟨QO h.1,QO h.2⟩
def qL.pD(h:qL qd F z tl (dX k) v):v=eO k/\∃t∈tl,t.1=k:=by
 obtain ⟨t,m,a,e⟩|⟨t,m,_,a,e⟩|⟨t,m,_,a,e⟩|⟨t,m,f,g,_,a,e⟩:=h
 ·have:=kQ a
  grind
 ·exact(fB a).elim
 ·exact(kJ a).elim
 ·exact(kJ a).elim
def qL.D3{k:Nat}{u:Pl}(h:qL qd F z tl u (dX k)):∃t∈tl,t.1=k/\((u=sP/\eX F t.2.1 (cJ qd k)=true)\/∃t'∈tl,eN qd t' t=true/\u=eO t'.1):=by
 obtain ⟨t,m,e,a⟩|⟨t,m,s,e,a⟩|⟨t,m,_,e,a⟩|⟨t,m,t',f,l,e,a⟩:=h
 ·exact(kJ a).elim
 ·have:=kQ a
  exact⟨t,m,this.symm,.inl ⟨e,by rw[this];exact s⟩⟩
 ·exact(fB a).elim
 ·exact⟨t',f,(kQ a).symm,.inr ⟨t,m,l,e⟩⟩
def qL.qm(h:qL qd F z tl (eO k) v):∃t∈tl,t.1=k/\((v=eP/\t.2.2=z)\/∃t'∈tl,eN qd t t'=true/\v=dX t'.1):=by
 obtain ⟨t,m,a,e⟩|⟨t,m,s,a,e⟩|⟨t,m,q,a,e⟩|⟨t,m,t',f,l,a,e⟩:=h
 ·exact(kJ a.symm).elim
 ·exact(eL a).elim
 ·exact⟨t,m,(qu a).symm,.inl ⟨e,q⟩⟩
 ·exact⟨t,m,(qu a).symm,.inr ⟨t',f,l,e⟩⟩
def qL.Iz(h:qL qd F z tl u (eO k)):u=dX k:=by
 obtain ⟨t,m,e,a⟩|⟨t,m,s,e,a⟩|⟨t,m,q,e,a⟩|⟨t,m,g,f,l,e,a⟩:=h
 ·rw[e,qu a]
 ·exact(kJ a.symm).elim
 ·exact(eL a).elim
 ·exact(kJ a.symm).elim
def qL.wY(h:qL qd F z tl u sP):False:=by
 obtain ⟨t,m,e,a⟩|⟨t,m,s,e,a⟩|⟨t,m,q,e,a⟩|⟨t,m,g,f,l,e,a⟩:=h
 ·exact eL a.symm
 ·exact fB a.symm
 ·exact IZ a
 ·exact fB a.symm
def qL.LA(h:qL qd F z tl eP v):False:=by
 obtain ⟨t,m,a,e⟩|⟨t,m,s,a,e⟩|⟨t,m,q,a,e⟩|⟨t,m,g,f,l,a,e⟩:=h
 ·exact fB a.symm
 ·exact IZ a.symm
 ·exact eL a.symm
 ·exact eL a.symm
def qL.O7{v:Pl}(h:qL qd F z tl sP v):∃t∈tl,eX F t.2.1 (cJ qd t.1)=true/\v=dX t.1:=by
 obtain ⟨t,m,a,e⟩|⟨t,m,s,a,e⟩|⟨t,m,q,a,e⟩|⟨t,m,g,f,l,a,e⟩:=h
 ·exact(fB a.symm).elim
 ·exact⟨t,m,s,e⟩
 ·exact(eL a.symm).elim
 ·exact(eL a.symm).elim
def kD.js(T:kD qd F z tl L):FL.Net L:=by
 have key:∀u v,qL qd F z tl u v->u≠v/\¬qL qd F z tl v u:=λu v h=>by
  obtain ⟨t,m,rfl,rfl⟩|⟨t,m,s,rfl,rfl⟩|⟨t,m,q,rfl,rfl⟩|⟨t,m,i,j,l,rfl,rfl⟩:=h
  ·refine⟨λe=>kJ e,λh=>?_⟩
   obtain⟨a,_,g,⟨e,_⟩|⟨b,_,l,e⟩⟩:=h.qm
   ·exact fB e
   ·have:=(kC l).2
    rw[g,<-kQ e]at this;lia
  ·exact⟨λe=>fB e.symm,λh=>h.wY⟩
  ·exact⟨λe=>eL e,λh=>h.LA⟩
  ·refine⟨λe=>kJ e.symm,λh=>?_⟩
   have:=(kC l).2;have e:=qu h.pD.1;grind
 exact⟨T.nd,λl f=>(key _ _<|(T.mem _ _).mp f).1,λl f h=>(key _ _<|(T.mem _ _).mp f).2<|(T.mem _ _).mp h⟩
def kD.Il(T:kD qd F z tl L)(m:t∈tl):(dX t.1,eO t.1)∈L:=(T.mem _ _).mpr<|.inl ⟨t,m,rfl,rfl⟩
def kD.BR(T:kD qd F z tl L)(W:FL.Flow L eY f sP eP n)(m:(dX k,eO k)∈L):f (dX k,eO k)<=1:=by
 have:=W.hi _ m
 rwa [yK]at this
def kD.into(T:kD qd F z tl L)(W:FL.Flow L eY f sP eP n)(m:(u,dX k)∈L):(dX k,eO k)∈L/\f (u,dX k)<=f (dX k,eO k):=by
 obtain⟨t,i,e,_⟩:=((T.mem _ _).mp m).D3;have g:=T.Il i;rw[e]at g;exact⟨g,W.into T.nd m g rfl (λe=>fB e) (λe=>fB e) λq h e=>by
  obtain⟨a,b⟩:=q;have e:=e;subst e;rw[((T.mem _ _).mp h).pD.1]⟩
def kD.vV(T:kD qd F z tl L)(W:FL.Flow L eY f sP eP n)(m:(eO k,v)∈L):(dX k,eO k)∈L/\f (eO k,v)<=f (dX k,eO k):=by
 obtain⟨t,i,e,_⟩:=((T.mem _ _).mp m).qm;have g:=T.Il i;rw[e]at g;exact⟨g,W.vV T.nd m g rfl (λe=>eL e) (λe=>eL e) λq h e=>by
  obtain⟨a,b⟩:=q;have e:=e;subst e;rw[((T.mem _ _).mp h).Iz]⟩
def kD.low(T:kD qd F z tl L)(W:FL.Flow L eY f sP eP n)(m:(u,v)∈L):f (u,v)<=1/\(eY (u,v)=2\/∃k,u=dX k/\v=eO k):=by
 obtain ⟨t,a,rfl,rfl⟩|⟨t,a,s,rfl,rfl⟩|⟨t,a,q,rfl,rfl⟩|⟨t,a,g,e,l,rfl,rfl⟩:=(T.mem _ _).mp m
 ·exact⟨T.BR W m,.inr ⟨_,rfl,rfl⟩⟩
 ·have h:=T.into W m
  have:=T.BR W h.1;exact⟨by have:=h.2;lia,.inl rfl⟩
 ·have h:=T.vV W m
  have:=T.BR W h.1;exact⟨by have:=h.2;lia,.inl ux⟩
 ·have h:=T.vV W m
  have:=T.BR W h.1;exact⟨by have:=h.2;lia,.inl ux⟩
theorem vk{β:Type} [DecidableEq β]{g:β->Int}{x y:β}:∀{M:Xm β},(∀l∈M,0<=g l)->x∈M->y∈M->x≠y->g x+g y<=(M.map g).sum
 |[],_,h,_,_=>nomatch h
 |a::r,p,hx,hy,ne=>by
  rw[RC,Tw];have q:=p a<|.head _;have f:=λl n=>p l<|.tail _ n;obtain j|i:=Rf.mp hx
  ·subst j
   have:=FL.qe f<|(Rf.mp hy).resolve_left λe=>ne e.symm;lia
  ·obtain o|m:=Rf.mp hy
   ·subst o
    have:=FL.qe f i;lia
   ·have:=vk f i m ne
    lia
def kD.zI(T:kD qd F z tl L)(W:FL.Flow L eY f sP eP n){v i:Pl}(m:(eO k,v)∈L)(r:(eO k,i)∈L)(p:0<f (eO k,v))(y:0<f (eO k,i)):v=i:=by
 apply RJ;intro j;obtain⟨g,_⟩:=T.vV W m;have l:=FL.k7 L f<|eO k;rw[W.no _ (λe=>eL e) λe=>eL e]at l;have s:FL.Ik L f (eO k)<=f (dX k,eO k):=by
  have:=FL.iY (f:=λq:Pl×Pl=>FL.ind (q.2=eO k)<|f q) T.nd (FL.hU<|W.lo _ g) λq h j=>FL.c8 λw=>j (by
   obtain⟨a,b⟩:=q;have w:=w;subst w;rw[((T.mem _ _).mp h).Iz])
  rwa [FL.c9 rfl]at this
 have o:=vk (g:=λq:Pl×Pl=>FL.ind (q.1=eO k)<|f q) (λq h=>FL.hU<|W.lo q h) m r λe=>j (T8 e).2;rw[FL.c9 rfl,FL.c9 rfl]at o;have x:_=FL.rg L f (eO k):=rfl;have:=T.BR W g;unfold FL.rg at l;lia
def kD.xO(T:kD qd F z tl L)(W:FL.Flow L eY f sP eP n){u j:Pl}(m:(u,dX k)∈L)(o:(j,dX k)∈L)(p:0<f (u,dX k))(v:0<f (j,dX k)):u=j:=by
 apply RJ;intro i;obtain⟨g,_⟩:=T.into W m;have l:=FL.k7 L f<|dX k;rw[W.no _ (λe=>fB e) λe=>fB e]at l;have s:FL.rg L f (dX k)<=f (dX k,eO k):=by
  have:=FL.iY (f:=λq:Pl×Pl=>FL.ind (q.1=dX k)<|f q) T.nd (FL.hU<|W.lo _ g) λq h i=>FL.c8 λw=>i (by
   obtain⟨a,b⟩:=q;have w:=w;subst w;rw[((T.mem _ _).mp h).pD.1])
  rwa [FL.c9 rfl]at this
 have r:=vk (g:=λq:Pl×Pl=>FL.ind (q.2=dX k)<|f q) (λq h=>FL.hU<|W.lo q h) m o λe=>i (T8 e).1;rw[FL.c9 rfl,FL.c9 rfl]at r;have:=T.BR W g;unfold FL.Ik at l;lia
structure qR(qd:Xm QD)(F:FH)(z:Xn)(tl:Xm TK)(S:Xm Pl):Prop where
 nd:S.Nodup
 s:sP∈S
 e:eP ∉ S
 Il:∀u v,qL qd F z tl u v->u∈S->v ∉ S->∃k,u=dX k/\v=eO k
noncomputable instance decP (x:Pl)(S:Xm Pl):Decidable (x∈S):=Classical.propDecidable _
noncomputable def gY (S:Xm Pl)(N:Nat):Xm Nat:=(List.range N).filter λk=>decide (dX k∈S/\eO k ∉ S)
theorem kf{β:Type}(p:β->Prop) [DecidablePred p]:∀M:Xm β,(M.map λl=>if p l then(1:Int) else 0).sum=((M.filter λl=>decide<|p l).length:Int)
 |[]=>rfl
 |a::r=>by
  rw[RC,Tw,kf p r,R8];by_cases h:p a
  ·grind
  ·grind
def pQ{S:Xm Pl}{N:Nat}(T:kD qd F z tl L)(C:qR qd F z tl S)(i:∀t∈tl,t.1<N){l:Pl×Pl}(m:l∈L)(h:l.1∈S/\l.2 ∉ S):eY l=1/\∃k∈gY S N,l=(dX k,eO k):=by
 obtain⟨u,v⟩:=l;have f:=(T.mem _ _).mp m;obtain⟨k,a,e⟩:=C.Il u v f h.1 h.2;have a:u=dX k:=a;have e:v=eO k:=e;subst a e;obtain⟨_,t,g,j⟩:=f.pD;refine⟨yK,k,QV.mpr ⟨Sk.mpr<|by rw[<-j];exact i t g,dT0 h⟩,rfl⟩
def sr{S:Xm Pl}{N:Nat}(T:kD qd F z tl L)(C:qR qd F z tl S)(f:∀t∈tl,t.1<N):(L.filter λl=>decide<|l.1∈S/\l.2 ∉ S).length<=(gY S N).length:=by
 have:=iW (xs:=L.filter λl=>decide<|l.1∈S/\l.2 ∉ S) (ys:=(gY S N).map λk=>(dX k,eO k)) (SM Th T.nd) λl a=>by
  obtain⟨m,h⟩:=QV.mp a;obtain⟨_,k,mk,e⟩:=pQ T C f m<|QO h;exact Rk.mpr ⟨k,mk,e.symm⟩
 rwa [QF]at this
def kD.E7(T:kD qd F z tl L)(W:FL.Flow L eY f sP eP n)(C:qR qd F z tl S)(i:∀t∈tl,t.1<N):n<=((gY S N).length:Int):=by
 have v:n=(L.map λl=>FL.ind (l.1∈S) (f l)-FL.ind (l.2∈S) (f l)).sum:=by
  have j:=FL.tY L f C.nd;rw[FL.zM C.nd C.s W.ns λx r o=>W.no x o λq=>C.e<|by rw[<-q];exact r]at j;rw[j];grind
 have m:(L.map λl=>FL.ind (l.1∈S) (f l)-FL.ind (l.2∈S) (f l)).sum<=(L.map λl=>if l.1∈S/\l.2 ∉ S then(1:Int) else 0).sum:=FL.lG λl g=>by
  by_cases a:l.1∈S
  ·by_cases b:l.2∈S
   ·grind
   ·rw[FL.c9 a,FL.c8 b,QI ⟨a,b⟩]
    have:=W.hi l g;rw[(pQ T C i g ⟨a,b⟩).1]at this;lia
  ·rw[FL.c8 a,QG λh=>a h.1]
   have:=FL.hU (p:=l.2∈S)<|W.lo l g;lia
 rw[kf]at m;have w:=sr T C i;lia
def kD.cut(T:kD qd F z tl L)(W:FL.Flow L eY (FL.fl R) sP eP n)(j:FL.gS L eY R)(nd:S.Nodup)(w:sP∈S)(he:eP ∉ S)(cl:∀u∈S,∀v n,jQ L R u v=some n->0<n->v∈S)(y:∀t∈tl,t.1<N)(sub:∀x∈S,x=sP\/∃u n,jQ L R u x=some n):qR qd F z tl S/\n=((gY S N).length:Int):=by
 have p:∀l∈L,l.1∈S->l.2 ∉ S->R l.1 l.2=0:=λl f a b=>by
  apply RJ;intro o;have:=j.on l f;exact b (cl _ a l.2 _ (QI<|.inl f)<|by lia)
 have C:qR qd F z tl S:=⟨nd,w,he,λu v A a b=>by
  have m:=(T.mem _ _).mpr A;obtain⟨J,i⟩:=T.low W m;obtain i|i:=i
  ·have I:=j.all _ m
   have E:=p _ m a b;have M:FL.fl R (u,v)=R v u:=rfl;grind
  ·exact i⟩
 refine⟨C,?_⟩;have H:=FL.cut W nd w he (λl f a b=>by
  have I:=j.all l f;have E:=p l f a b;show R l.2 l.1=eY l;lia) λl f a b=>by
  apply RJ;intro o;have:0<=R l.2 l.1:=j.off l f;have o:¬R l.2 l.1=0:=o;exact a (cl _ b l.1 (R l.2 l.1) (QI<|.inr f)<|by lia)
 have e:n=(L.map λl=>if l.1∈S/\l.2 ∉ S then(1:Int) else 0).sum:=by
  rw[<-H];refine FL.eG λl f=>?_;by_cases h:l.1∈S/\l.2 ∉ S
  ·rw[QI h,QI h,(pQ T C y f h).1]
  ·grind
 rw[kf]at e;have K:=sr T C y;have D:=iW (xs:=(gY S N).map λk=>(dX k,eO k)) (ys:=L.filter λl=>decide<|l.1∈S/\l.2 ∉ S) (by
  refine Vf.mpr<|List.Pairwise.imp (λh e=>h<|kQ (T8 e).1)<|show(gY S N).Nodup from SM Th VO) λl f=>by
  obtain⟨k,mk,rfl⟩:=Rk.mp f;have r:=QO (QV.mp mk).2;refine QV.mpr ⟨?_,dT0 r⟩;obtain e|⟨u,n,g⟩:=sub _ r.1
  ·exact(fB e).elim
  ·have G:y9 L u (dX k):=by
    apply RJ;intro q;unfold jQ at g;grind
   have B:∃t∈tl,t.1=k:=by
    obtain h|h:=G
    ·obtain⟨t,s,e,_⟩:=((T.mem _ _).mp h).D3
     grind
    ·exact((T.mem _ _).mp h).pD.2
   obtain⟨t,s,rfl⟩:=B;exact T.Il s
 rw[QF]at D;lia
end
def Ec(a:Xm QD)(F:FH)(z:Xn)(e:Xm TK)(N n:Nat):Prop:=(∃L f,kD a F z e L/\FL.Flow L eY f sP eP (n:Int))/\∃S,qR a F z e S/\(gY S N).length=n
def Ec.one(g:∀t∈tl,t.1<N)(a:Ec qd F z tl N n)(b:Ec qd F z tl N m):n=m:=by
 obtain⟨⟨L,f,T,W⟩,S,C,e⟩:=a;obtain⟨⟨r,q,i,j⟩,l,h,s⟩:=b;have p:=T.E7 W h g;have o:=i.E7 j C g;lia
def rD(L:Xm (Pl×Pl))(f:Pl×Pl->Int)(u v:Pl):Prop:=(u,v)∈L/\0<f (u,v)
inductive Way(U:Pl->Pl->Prop):Nat->Xm Nat->Prop
 |fin {k:Nat}(a:U (dX k) (eO k))(b:U (eO k) eP):Way U k [k]
 |led {k e:Nat}{f:Xm Nat}(a:U (dX k) (eO k))(b:U (eO k) (dX e))(r:Way U e f):Way U k (k::f)
theorem uj{α:Type}{p q:α->Bool}{x:α}:∀{l:Xm α},(∀y∈l,p y=true->q y=true)->x∈l->q x=true->p x=false->(l.filter p).length<(l.filter q).length
 |[],_,h,_,_=>nomatch h
 |a::r,h,m,hq,hp=>by
  have le:∀{l:Xm α},(∀y∈l,p y=true->q y=true)->(l.filter p).length<=(l.filter q).length:=λ{l} h=>by
   induction l with
   |nil=>grind
   |cons b s g=>grind
  rw[R8,R8];obtain e|m:=Rf.mp m
  ·grind
  ·have:=uj (λy f=>h y<|.tail _ f) m hq hp
   grind
section
variable {qd:Xm QD}{F:FH}{z:Xn}{tl:Xm TK}{L:Xm (Pl×Pl)}{f:Pl×Pl->Int}{n:Int}
def J9(T:kD qd F z tl L)(W:FL.Flow L eY f sP eP n):∀(m k:Nat),(tl.filter λt=>decide<|cJ qd k<cJ qd t.1).length<=m->rD L f (dX k) (eO k)->∃x,Way (rD L f) k x:=λm=>by
 induction m with
 |zero=>
  intro k C u;obtain⟨⟨a,v⟩,j,e,o⟩:=W.on u.1 u.2 (λe=>eL e) λe=>eL e;have e:=e;subst e;obtain⟨t,B,A,⟨rfl,_⟩|⟨r,i,l,rfl⟩⟩:=((T.mem _ _).mp j).qm
  ·exact⟨[k],.fin u ⟨j,o⟩⟩
  ·exfalso
   have s:=(kC l).2;rw[A]at s;have:r∈tl.filter λt=>decide (cJ qd k<cJ qd t.1):=QV.mpr ⟨i,dT0 s⟩;grind
 |succ m D=>
  intro k C u;obtain⟨⟨a,v⟩,j,e,o⟩:=W.on u.1 u.2 (λe=>eL e) λe=>eL e;have e:=e;subst e;obtain⟨t,B,A,⟨rfl,_⟩|⟨r,i,l,rfl⟩⟩:=((T.mem _ _).mp j).qm
  ·exact⟨[k],.fin u ⟨j,o⟩⟩
  ·have s:=(kC l).2
   rw[A]at s;have lt:=uj (p:=λt:TK=>decide<|cJ qd r.1<cJ qd t.1) (q:=λt:TK=>decide<|cJ qd k<cJ qd t.1) (λy _ h=>dT0<|by grind) i (dT0 s) (QM<|by lia);have g:=T.into W j;obtain⟨x,w⟩:=D r.1 (by lia) ⟨g.1,by have:=g.2;have o:0<f (eO k,dX r.1):=o;lia⟩;exact⟨k::x,.led u ⟨j,o⟩ w⟩
def Way.first{U:Pl->Pl->Prop}{k:Nat}{e:Xm Nat}(w:Way U k e):e[0]? =some k/\∀(i a b:Nat),e[i]? =some a->e[i+1]? =some b->U (eO a) (dX b):=by
 induction w with
 |fin a b=>exact⟨rfl,λi a b _ h=>by cases i<;>cases h⟩
 | @led k k' e a b r ih=>
  refine⟨rfl,λi x y g f=>?_⟩;cases i with
  |zero=>
   have f:e[0]? =some y:=f;rw[ih.1]at f;cases f;cases g;exact b
  |succ i=>exact ih.2 i x y g f
def Bm(T:kD qd F z tl L)(W:FL.Flow L eY f sP eP n){s x:Nat}{r o:Xm Nat}(A:Way (rD L f) s r)(w:Way (rD L f) x o)(s1:rD L f sP (dX s))(s2:rD L f sP (dX x)):∀(p q j:Nat),r[p]? =some j->o[q]? =some j->s=x:=λp=>by
 have l:∀{B:Xm Nat}{i j:Nat},B[i+1]? =some j->∃a,B[i]? =some a:=λh=>⟨_,QB<|by grind⟩
 induction p with
 |zero=>
  intro q j m g;rw[A.first.1]at m;cases m;cases q with
  |zero=>
   rw[w.first.1]at g;cases g;rfl
  |succ q=>
   obtain⟨a,y⟩:=l g;have u:=w.first.2 q a s y g;exact absurd (T.xO W s1.1 u.1 s1.2 u.2).symm λe=>eL e
 |succ p D=>
  intro q j m g;obtain⟨a,y⟩:=l m;have u:=A.first.2 p a j y m;cases q with
  |zero=>
   rw[w.first.1]at g;cases g;exact absurd (T.xO W u.1 s2.1 u.2 s2.2) λe=>eL e
  |succ q=>
   obtain⟨b,C⟩:=l g;have v:=w.first.2 q b j C g;have e:=qu<|T.xO W u.1 v.1 u.2 v.2;grind
def Way.rise(T:kD qd F z tl L){k:Nat}{i:Xm Nat}(w:Way (rD L f) k i):(∀j∈i,(∃t∈tl,t.1=j)/\(j=k\/cJ qd k<cJ qd j))/\i.Nodup:=by
 induction w with
 | @fin k a b=>exact⟨λj g=>by rw[QK.mp g];exact⟨((T.mem _ _).mp a.1).pD.2,.inl rfl⟩,Ts _ _⟩
 | @led k k' i a b r ih=>
  obtain⟨t,o,m,⟨e,_⟩|⟨p,n,l,e⟩⟩:=((T.mem _ _).mp b.1).qm
  ·exact(fB e).elim
  have lt:=(kC l).2;rw[m,<-kQ e]at lt;have up:∀j∈i,cJ qd k<cJ qd j:=λj g=>by
   obtain h|h:=(ih.1 j g).2
   ·rw[h]
    exact lt
   ·lia
  refine⟨λj g=>?_,Sw.mpr ⟨λh=>?_,ih.2⟩⟩
  ·obtain rfl|g:=Rf.mp g
   ·exact⟨⟨t,o,m⟩,.inl rfl⟩
   ·exact⟨(ih.1 j g).1,.inr<|up j g⟩
  ·have:=up k h
   lia
end
def GP(m:t∈fD 0 (fA qd))(l:t'∈fD 0 (fA qd))(e:t'.1=t.1):t'.2.2=t.2.1\/t'.2.2=t.2.2:=by
 obtain⟨j,d,i,o,f⟩:=lK m;obtain⟨h,p,g,n,a⟩:=lK l;have:h=j:=by lia
 subst this;rw[i]at g;cases g;rcases f with f|f<;>rcases a with a|a<;>rw[f,a]
 ·grind
 ·grind
 ·grind
 ·grind
def l9(a:Xm Nat)(d:ED):Bool:=match d.2.2 with
 |.saw _=>true
 |.hrd k _=>decide<|k∈a
def AV{m:Xm QD}{F:FH}{z:Xn}{s:Xm TK}{L:Xm (Pl×Pl)}{f:Pl×Pl->Int}{E:Xm ED}{B:Xm Nat}{Fk:FH}{h:Int}(T:kD m F z s L)(P:FE (E.filter<|l9 B) Fk)(I:∀t∈s,Ho m t∈E)(p:∀t∈s,t∈fD 0 (fA m)/\cJ m t.1<=h){k:Nat}{y:Xm Nat}(w:Way (rD L f) k y):
  (∀j∈y,j∈B)->∀t∈s,t.1=k->(∃a,Fk t.2.1=some a/\a<cJ m k)->∃b,Fk z=some b/\b<=h:=by
 have both:∀(k:Nat) (t:TK),k∈B->t∈s->t.1=k->(∃a,Fk t.2.1=some a/\a<cJ m k)->∀o∈s,o.1=k->∃b,Fk o.2.2=some b/\b<=cJ m k:=λk t mk q v ⟨a,G,M⟩ o i g=>by
  subst v;have R:=P (Ho m t) (QV.mpr ⟨I t q,dT0 mk⟩) (by
   show(match Fk t.2.1 with|none=>false|some a=>decide<|a<cJ m t.1)=true;rw[G];exact dT0 M)
  obtain e|e:=GP (p t q).1 (p o i).1 g
  ·rw[e]
   exact⟨a,G,by lia⟩
  ·obtain⟨b,H,N⟩:=R
   rw[e];exact⟨b,N,H⟩
 induction w with
 | @fin k a b=>
  intro n t q v A;obtain⟨o,i,g,⟨_,K⟩|⟨_,_,_,e⟩⟩:=((T.mem _ _).mp b.1).qm
  ·obtain⟨c,x,J⟩:=both k t (n k<|.head _) q v A o i g
   rw[K]at x;have:=(p t q).2;rw[v]at this;exact⟨c,x,by lia⟩
  ·exact(fB e.symm).elim
 | @led k k' y a b r ih=>
  intro n t q v A;obtain⟨o,i,g,⟨e,_⟩|⟨u,O,l,e⟩⟩:=((T.mem _ _).mp b.1).qm
  ·exact(fB e).elim
  ·obtain⟨c,x,J⟩:=both k t (n k<|.head _) q v A o i g
   have D:=kC l;rw[D.1]at x;have lt:=D.2;have C:=kQ e;rw[g,<-C]at lt;exact ih (λj Q=>n j<|.tail _ Q) u O C.symm ⟨c,x,by lia⟩
theorem nJ:∀(l:Xm GD) (f:FH),(∀p j,l.foldl dN f p=some j->f p=some j\/∃g∈l,g.1=p/\g.2=j)/\(∀p i,f p=some i->∃j,l.foldl dN f p=some j/\j<=i)/\∀g∈l,∃j,l.foldl dN f g.1=some j/\j<=g.2
 |[],f=>⟨λp j h=>.inl h,λp i h=>⟨i,h,Uw _⟩,λg h=>nomatch h⟩
 |a::r,f=>by
  obtain⟨w,s,y⟩:=nJ r<|dN f a;have z:∃m,dN f a a.1=some m/\m<=a.2/\(m=a.2\/f a.1=some m)/\∀i,f a.1=some i->m<=i:=by
   unfold dN;rw[QI rfl];cases E:f a.1 with
   |none=>grind
   |some j=>grind
  have D:∀p,p≠a.1->dN f a p=f p:=λp h=>QG h;obtain⟨m,v,B,C,A⟩:=z;refine⟨λp j h=>?_,λp i h=>?_,λg o=>?_⟩
  ·obtain h|⟨g,F,e⟩:=w p j h
   ·grind
   ·grind
  ·by_cases q:p=a.1
   ·obtain⟨j,n,x⟩:=s p m (by rw[q];exact v)
    rw[q]at h;have:=A i h;exact⟨j,n,by lia⟩
   ·simp_all
  ·obtain rfl|o:=Rf.mp o
   ·obtain⟨j,n,x⟩:=s _ m v
    exact⟨j,n,by lia⟩
   ·exact y g o
def FA(m:d∈IC sg qd sd)(e:d.2.2=.saw i):∃g∈sg.filter (cS sd),d.1=g.1/\d.2.1=g.2:=by
 unfold IC at m;obtain m|m:=Rg.mp m
 ·obtain⟨j,h,rfl⟩:=Rk.mp m
  obtain⟨n,a⟩:=QV.mp h;have l:=Sk.mp n;have f:sg[j]? =some sg[j]:=QB l;rw[qD f]at a;refine⟨sg[j],QV.mpr ⟨Ta _,a⟩,?_⟩;unfold F7;rw[f];grind
 ·obtain⟨t,_,rfl⟩:=Rk.mp m
  cases e
def Hu(m:g∈sg.filter (cS sd)):∃i,(g.1,g.2,EW.saw i)∈IC sg qd sd:=by
 obtain⟨f,e⟩:=QV.mp m;obtain⟨j,a⟩:=QZ f;refine⟨j,Ra _<|Rk.mpr ⟨j,QV.mpr ⟨Sk.mpr (gI0.mp a).1,by rw[qD a];exact e⟩,?_⟩⟩;unfold F7;rw[a]
def Hz{h:Xm GD}{a:Xm QD}{sd:Xm SD}{d:ED}{k:Nat}{f:Xn}(m:d∈IC h a sd)(e:d.2.2=.hrd k f):(k,f,d.1)∈(fD 0<|fA a).filter (c4 a sd)/\d.2.1=cJ a k:=by
 unfold IC at m;obtain m|m:=Rg.mp m
 ·obtain⟨j,i,rfl⟩:=Rk.mp m
  unfold F7 at e;split at e<;>cases e
 ·obtain⟨t,g,rfl⟩:=Rk.mp m
  cases e;exact⟨g,rfl⟩
def Hv{f:Pl×Pl->Int}(T:kD qd (dB<|sg.filter<|cS sd) z tl L)(n:FE ((IC sg qd sd).filter<|l9 ks) Fk)(a:∀t∈tl,t∈(fD 0<|fA qd).filter (c4 qd sd)/\cJ qd t.1<=h)(w:Way (rD L f) k ks)(u:rD L f sP (dX k)):∃b,Fk z=some b/\b<=h:=by
 obtain⟨t,l,o,⟨_,s⟩|⟨_,_,_,e⟩⟩:=((T.mem _ _).mp u.1).D3
 ·refine AV T n (λt l=>QP _<|Rk.mpr ⟨t,(a t l).1,rfl⟩) (λt l=>⟨(QV.mp (a t l).1).1,(a t l).2⟩) w (λ_ h=>h) t l o ?_
  unfold eX at s;cases m:dB (sg.filter<|cS sd) t.2.1 with
  |none=>grind
  |some j=>
   rw[m]at s;have lt:=QO s;obtain h|⟨g,q,y,v⟩:=(nJ (sg.filter<|cS sd) λ_=>none).1 t.2.1 j m
   ·cases h
   ·obtain⟨i,p⟩:=Hu q
    obtain⟨b,r,x⟩:=n _ (QV.mpr ⟨p,rfl⟩) rfl;grind
 ·exact(eL e.symm).elim
inductive Tr(a:Xm QD)(f:Xm TK)(g:Xm Nat)(z:Xn)(h:Int):Xm TK->Xn->Int->Prop
 |nil {b:Int}(l:b<=h):Tr a f g z h [] z b
 |cons {t:TK}{j:Xm TK}{p:Xn}{b i:Int}(r:Tr a f g z h j p b)(e:t.2.2=p)(n:cJ a t.1=b)(m:t∈f)(mk:t.1∈g)(lt:i<b):Tr a f g z h (t::j) t.2.1 i
section
variable {qd:Xm QD}{ot:Xm TK}{ks:Xm Nat}{z:Xn}{h:Int}{rv:Xm TK}{p:Xn}{b:Int}
def Tr.all(r:Tr qd ot ks z h rv p b):∀t∈rv,t∈ot/\t.1∈ks/\b<cJ qd t.1:=by
 induction r with
 |nil l=>grind
 |cons r e f m mk lt a=>grind
def Tr.nd(r:Tr qd ot ks z h rv p b):(rv.map (·.1)).Nodup:=by
 induction r with
 |nil l=>grind
 | @cons t rv p b b' r e eh m mk lt ih=>
  rw[RC];refine Sw.mpr ⟨λa=>?_,ih⟩;obtain⟨u,f,g⟩:=Rk.mp a;have:=(r.all u f).2.2;grind
def Tr.last(r:Tr qd ot ks z h rv p b):rv≠[]->∃l,rv.getLast? =some l/\l.2.2=z/\cJ qd l.1<=h:=by
 induction r with
 |nil l=>exact λn=>absurd rfl n
 | @cons t rv p b b' r e eh m mk lt ih=>
  intro _;cases r with
  |nil l=>exact⟨t,rfl,e,by lia⟩
  |cons o q j s g a=>
   obtain⟨l,i,f⟩:=ih (by simp);exact⟨l,by rw[Wv];exact i,f⟩
def Tr.chain(r:Tr qd ot ks z h rv p b):∀(i:Nat) x y,rv[i]? =some x->rv[i+1]? =some y->eN qd x y=true:=by
 induction r with
 |nil l=>exact λi x y a=>by cases a
 | @cons t rv p b b' r e eh m mk lt ih=>
  intro i x y a f;cases i with
  |zero=>
   cases a;cases r with
   |nil l=>cases f
   |cons o q n s j g=>
    cases f;unfold eN;rw[dT0 e,dT0 (by lia:cJ qd t.1<cJ qd y.1)];rfl
  |succ i=>exact ih i x y a f
def Tr.line(r:Tr qd ot ks z h rv p b)(v:∀j,F z=some j->h<j)(s:F p=some j)(l:j<=b):pB F qd ot rv z h=true:=by
 cases r with
 |nil A=>grind
 | @cons t rv p b0 b' r e eh m mk lt=>
  have a:Tr qd ot ks z h (t::rv) t.2.1 b:=.cons r e eh m mk lt;obtain⟨B,o,w,C⟩:=a.last (by simp);unfold pB;rw[o];have x:=Se.mpr λu q=>dT0 (a.all u q).1;have y:eX F t.2.1 (cJ qd t.1)=true:=by
   unfold eX;rw[s];grind
  have D:ym qd (t::rv)=true:=by
   unfold ym;refine Se.mpr λi g=>?_;have g:=Sk.mp g;have f:(t::rv)[i]? =some ((t::rv)[i]'(by lia)):=QB _;have n:(t::rv)[i+1]? =some ((t::rv)[i+1]'(by lia)):=QB _;rw[f,n];exact a.chain i _ _ f n
  grind
end
def yq(P:Xi)(w:Xj)(H:Hp)(d:Xg)(M:Xm (Pl×Pl)):Prop:=∃a,H d=some (.ext<|Dφ (nE P w) d a)/\DD (nE P w) H d a/\a.length<=M.length/\(∀e∈a,∃l:Pl×Pl,e.1=[l.1,l.2]/\e.2.2=.int (eY l))/\∀u v,[u,v]∈a.map (·.1)↔(u,v)∈M
def Cv [DecidableEq κ]{y v:V}{e:κ×V×V}(h:e∈fE Xu x y v):e∈Xu\/(e.1=x/\e.2.2=v):=by
 unfold fE at h;split at h
 ·grind
 ·grind
def KS{y:V}{n:Int}{Q:Hp->Prop}(li:yq P w H d M)(r:Ol H [u,v] y)(e:n=eY (u,v))(l:M.length+2<sizeLine)(q:∀H',(∀b,b≠d->H' b=H b)->yq P w H' d (M++[(u,v)])->Q H'):wc (nE P w) (.ref d) y (.int n) H Q:=by
 obtain⟨g,f,i,A,p,s⟩:=li;refine⟨d,g,[u,v],rfl,i,f,r,q _ (λb o=>cG o) ⟨_,cE,i.put f r<|by lia,?_,λm j=>?_,λa b=>?_⟩⟩
 ·rw[QC]
  have:=l5 g [u,v] y<|.int n;show _<=M.length+1;lia
 ·obtain h|⟨z,x⟩:=Cv j
  ·exact p m h
  ·grind
 ·rw[<-iL,u7,Rg,QK,<-s,<-iL]
  by_cases h:[a,b]=[u,v]
  ·grind
  ·grind
def yq.keep(li:yq P w H d M)(s:cH H H'):yq P w H' d M:=let ⟨f,a,e,r⟩:=li;⟨f,s _ _ a,e.same s,r⟩
def yq.there(li:yq P w H d M):∃φ,H d=some (.ext φ):=let ⟨_,a,_⟩:=li;⟨_,a⟩
def yq.link(li:yq P w H d M):∃L,fN P w H d L eY/\L.Nodup/\L.length<=M.length/\∀u v,(u,v)∈L↔(u,v)∈M:=by
 obtain⟨a,s,g,y,m,x⟩:=li;have i:∀a:Xm (Xm Pl×V×V),(∀e∈a,∃l:Pl×Pl,e.1=[l.1,l.2]/\e.2.2=.int (eY l))->∃L:Xm (Pl×Pl),a.map (λe=>(e.1,e.2.2))=L.map λl=>([l.1,l.2],V.int<|eY l):=λa=>by
  induction a with
  |nil=>simp_all
  |cons e r p=>
   intro h;obtain⟨L,f⟩:=p λe o=>h e<|.tail _ o;obtain⟨l,n,j⟩:=h e<|.head _;exact⟨l::L,by rw[RC,RC,f,n,j]⟩
 obtain⟨L,f⟩:=i a m;have q:a.map (·.1)=L.map λl=>[l.1,l.2]:=by
  have:=RH (List.map Prod.fst) f
  rwa [Tc,Tc]at this
 refine⟨L,⟨a,g,f⟩,?_,?_,λu v=>?_⟩
 ·have nd:=g.nd
  grind
 ·have:=RH List.length f
  grind
 ·grind
def qK(a:Xm QD)(F:FH)(z:Xn)(e:Xm TK)(t:TK):Xm (Pl×Pl):=[(dX t.1,eO t.1)]++(if eX F t.2.1 (cJ a t.1)=true then [(sP,dX t.1)] else [])++(if t.2.2=z then [(eO t.1,eP)] else [])++(e.filter<|eN a t).map λu=>(eO t.1,dX u.1)
def Ht{i:Xm QD}{F:FH}{z:Xn}{j:Xm TK}{u v:Pl}:(u,v)∈j.flatMap (qK i F z j)↔qL i F z j u v:=by
 rw[VS];unfold qK;constructor
 ·rintro⟨t,mt,h⟩
  obtain h|h:=Rg.mp h
  ·obtain h|h:=Rg.mp h
   ·obtain h|h:=Rg.mp h
    ·obtain⟨a,f⟩:=T8 (QK.mp h)
     exact .inl ⟨t,mt,a,f⟩
    ·by_cases q:eX F t.2.1 (cJ i t.1)=true
     ·rw[QI q]at h
      obtain⟨a,f⟩:=T8<|QK.mp h;exact .inr<|.inl ⟨t,mt,q,a,f⟩
     ·rw[QG q]at h
      cases h
   ·by_cases q:t.2.2=z
    ·rw[QI q]at h
     obtain⟨a,f⟩:=T8<|QK.mp h;exact .inr<|.inr<|.inl ⟨t,mt,q,a,f⟩
    ·rw[QG q]at h
     cases h
  ·obtain⟨n,g,e⟩:=Rk.mp h
   obtain⟨m,l⟩:=QV.mp g;obtain⟨a,f⟩:=T8 e;exact .inr<|.inr<|.inr ⟨t,mt,n,m,l,a.symm,f.symm⟩
 ·rintro(⟨t,mt,rfl,rfl⟩|⟨t,mt,s,rfl,rfl⟩|⟨t,mt,q,rfl,rfl⟩|⟨t,mt,n,m,l,rfl,rfl⟩)
  ·exact⟨t,mt,Ra _<|Ra _<|Ra _<|.head _⟩
  ·exact⟨t,mt,Ra _<|Ra _<|QP _<|by rw[QI s];exact .head _⟩
  ·exact⟨t,mt,Ra _<|QP _<|by rw[QI q];exact .head _⟩
  ·exact⟨t,mt,QP _<|Rk.mpr ⟨n,QV.mpr ⟨m,l⟩,rfl⟩⟩
def sJ(h:∀t,t∈a↔t∈b)(l:qL qd F z a u v):qL qd F z b u v:=by
 obtain ⟨t,m,e⟩|⟨t,m,e⟩|⟨t,m,e⟩|⟨t,m,f,g,e⟩:=l
 ·exact .inl ⟨t,(h t).mp m,e⟩
 ·exact .inr<|.inl ⟨t,(h t).mp m,e⟩
 ·exact .inr<|.inr<|.inl ⟨t,(h t).mp m,e⟩
 ·exact .inr<|.inr<|.inr ⟨t,(h t).mp m,f,(h f).mp g,e⟩
def nZ(a:Xm QD)(sd:Xm SD)(h:Int):Xm TK:=((fD 0<|fA a).filter<|c4 a sd).filter λt=>decide<|cJ a t.1<=h
inductive Qc(P:Xi)(w:Xj)(C:Xg)(vs:Xm V)(H:Hp)(Q:VK):Prop
 |mk(x p s t y:Xg)(ps:Xm Xn)(ss g ys:Xm V)(f:Xm GD)(a:Xm QD)(sd:Xm SD)(z:Xn)(h:Int)(e:vs=[.ref x,.str z,.int h])(bk:Bk C H x p s t y ps ss g ys)(r:ps.length<=24)(sl:ss.length<=24)(i:g.length<=120)(o:Lz dI H ss f)(n:∀d∈f,d.1∈ps)(q:Lz dz H g a)(j:∀d∈a,lV ps d)(m:Sys H ys sd)(l:ys.length<=60)
   (k:∀d L H',cH H H'->H d=none->fN P w H' d L eY->kD a (dB (f.filter (cS sd))) z (nZ a sd h) L->L.length<=100000->Q (.ref d) H')
def KI(P:Xi)(w:Xj)(C:Xg):Sp:=λa H Q _=>Qc P w C a H Q
inductive NS(P:Xi)(w:Xj)(x:Xg)(z:Xn)(h:Int)(o l to d:Xg)(j:Hp)(g:Xm QD)(F:FH)(a:Xm TK)(i:Nat)(σ:St)(f:Hp):Prop
 |mk(n p q m:Xk V)(e:σ=[some (.ref x),some (.str z),some (.int h),some (.ref o),some (.ref l),some (.ref to),some (.ref d),n,p,q,m])(s:cH j f)(li:yq P w f d ((a.take i).flatMap (qK g F z a)))(r:((a.take i).flatMap (qK g F z a)).length<=400*i)
inductive NO(P:Xi)(w:Xj)(x:Xg)(z:Xn)(h:Int)(p l to d a q g:Xg)(m H1:Hp)(i:Xm QD)(n:Xm TK)(t:TK)(M:Xm (Pl×Pl))(j:Nat)(σ:St)(f:Hp):Prop
 |mk(o:Xk V)(e:σ=[some (.ref x),some (.str z),some (.int h),some (.ref p),some (.ref l),some (.ref to),some (.ref d),some (.ref a),some (.ref q),some (.ref g),o])(r:cH m f)(s:Tk H1 f)(li:yq P w f d (M++((n.take j).filter (eN i t)).map λu=>(eO t.1,dX u.1)))
def B6(H:Hp)(v:V)(t:TK):Prop:=∃a,v=.ref a/\oq H a t
def rb:cK ["book","person","hour","seen","hours","told","links","telling","into","out","later"] ["book","person","hour"] (cI iU):={}
def N4 (D:Df K mg "talk_links" iU ["book","person","hour"] f fd) (c0:Gd P w K mg base 5 "seen_hours" (yV C)) (ct:Gd P w K mg base 5 "hours_of_open" (Io C)) (ea:Gd P w K mg base 1 "saw_ahead_of" DJ) (dr:Gd P w K mg base 1 "leads_to" xM):Gd P w K mg base 6 "talk_links" (KI P w C):=by
 refine aG D rb λX H vs Q E I h=>?_;obtain⟨x,p,s,t,y,ps,ss,ts,ys,sg,l,sd,z,h,rfl,bk,pl,sl,dn,gs,gp,qs,qk,sy,XO,k⟩:=h;obtain⟨rfl,rfl⟩:=And.intro I.pr I.wd;have hu:=d5 I.room;have a2:=jc I.room;have XH:=Q0;obtain⟨S0,S1,S2,S3,S4,S5,S6,S7,S8,S9,bf,_⟩:=I.fg [0,1,2,3,4,5,6,7,8,9,10];refine⟨_,(af (au S3 I.nd<|ak (I.gN c0 rfl (by lia)<|by decide)<|aj<|aa S0)
 (af (au S4 I.nd<|ak (I.gN ct rfl (by lia)<|by decide)<|aj<|aa S0)
 (af (bY (is:=[2,4]) (xs:=["telling"]) (ns:=["hour","hours"]) S5 I.nd I.calm (J.CU<|aa S4) {} (λ_ _ _ _ _=>a6 (i:=0)) (λ_ _ _ _ _=>bC<|aF bG (aK hu (aS (i:=2)) (aM (i:=0)) aR) (aS (i:=1))<|cM _) (λ_ _ _ _ _=>aM (i:=0)) I.hsc I.hN (by decide+kernel))
 (af (au S6 I.nd J.Mr)
 (af (aZ I.own I.calm (aQ<|aa S5) (aN S7 I.nd)
 (af (au S8 I.nd<|aL<|aB ao<|ai aE (aa S7) ae ah)
 (af (au S9 I.nd<|aL<|aB ao<|ai aE (aa S7) ae ah)
 (af (J.ze a2 (aa S6) (aL<|aB (aa S8)<|aa S9) ae)
 (af (aH (bh<|ak (I.gN ea rfl (by lia)<|by decide)<|aP (aa S3) (ai aE (aa S7) ae ah)<|aK hu (aa S4) (aa S7) aR)
 (ag<|J.ze a2 (aa S6) (aL<|aB ao<|aa S8) ae)
 aI)
 (af (aH (aF aO (ai aE (aa S7) ae ah) (aa S1)<|cM _)
 (ag<|J.ze a2 (aa S6) (aL<|aB (aa S9) ao) ae)
 aI)
 (ag (aZ I.own I.calm (aQ<|aa S5) (aN bf I.nd)
 (ag (aH (bh<|ak (I.gN dr rfl (by lia)<|by decide)<|aP (aa S4) (aa S7)<|aa bf)
 (ag<|J.ze a2 (aa S6) (aL<|aB (aa S9)<|aL<|aB ao<|ai aE (aa bf) ae ah) ae)
 aI))))))))))
 (ag<|aw<|aa S6)))))),?_⟩
 refine⟨_,rfl,x,p,s,t,y,ps,ss,ts,ys,sg,sd,rfl,bk,pl,sl,gs,gp,sy,XO,λse ce H1 s1 eh Yi sn=>?_⟩;refine⟨_,rfl,x,p,s,t,y,ps,ss,ts,ys,l,sd,rfl,bk.mono s1,pl,dn,qs.mono<|dz.mono<|Tk.of s1,qk,sy.mono<|Tk.of s1,XO,λho O H2 s2 bb c2 an em ck=>?_⟩;have ca:=s2 _ _ Yi;have dm:=s1.trans s2;have b3:H ho=none:=s1.free bb;unfold nZ at k;generalize hF:dB (sg.filter<|cS sd)=F at sn k;generalize el:(fD 0<|fA l).filter (c4 l sd)=ot at an ck k;obtain⟨B,al⟩:∃B:Xm TK,O.map (·.1)=B.map qF/\∀t∈B,t∈ot:=by
  have ex:∀Xu:Xm (Xm Key×V),(∀kv∈Xu,∃t∈ot,kv.1=qF t)->∃B:Xm TK,Xu.map (·.1)=B.map qF/\∀t∈B,t∈ot:=λXu=>by
   induction Xu with
   |nil=>exact λ_=>⟨[],rfl,λt h=>nomatch h⟩
   |cons e r ih=>
    intro h;obtain⟨T,h1,h2⟩:=ih λe he=>h e<|.tail _ he;obtain⟨t,mt,et⟩:=h e<|.head _;exact⟨t::T,by rw[RC,RC,h1,et],λu hu=>(Rf.mp hu).elim (λe=>by rw[e];exact mt)<|h2 u⟩
  exact ex O ck
 have eg:O.length=B.length:=by
  have:=RH List.length al.1
  rwa [QF,QF]at this
 have cx:∀t,t∈B↔t∈ot:=λt=>⟨al.2 t,λm=>by
  have h1:=an t;rw[QI m]at h1;have h2:qF t∈O.map (·.1):=by
   apply RJ;intro no;have:dS O (qF t)=none:=by
    cases hv:dS O (qF t) with
    |none=>rfl
    |some v=>
     exfalso
     have ha:(O.any λkv=>decide<|kv.1=qF t)=true:=by
      rw[gI,hv];rfl
     obtain⟨kv,d3,e⟩:=UX.mp ha;exact no (Rk.mpr ⟨kv,d3,QO e⟩)
   rw[this]at h1;cases h1
  rw[al.1]at h2;obtain⟨u,mu,e⟩:=Rk.mp h2;rw[<-uY e];exact mu⟩
 refine⟨_,rfl,ho,O,rfl,c2,λo H3 cm a0=>?_⟩;have d1:cH H H3:=λb u e=>by
  rw[cm b<|cF e b3];exact dm _ _ e
 have dl:se≠ho:=λe=>by rw[<-e,Yi]at bb;cases bb
 have b2:H3 se=some (.dK ce):=by rw[cm se dl];exact ca
 refine jb B6 B (λt=>decide<|cJ l t.1<=h) (λv d _ _ tk ⟨a,e,ha⟩=>⟨a,e,tk _ _ ha⟩) (by lia) (λi H4 s4 hi=>⟨s4 _ _ a0,by lia⟩) (λH4 s4=>⟨s4 _ _ a0,by lia⟩) ?_ ?_
 ·intro i os v u H4 H5 K1 K2 hu c5 s4 yl k1 k2
  obtain⟨e5,kv,b,c3,rfl,hb⟩:=yl;subst e5;have ek:kv.1=qF u:=by
   have h1:(O.map (·.1))[i]? =some kv.1:=by rw[QR,c3];rfl
   rw[al.1,QR,hu]at h1;exact(Ri h1).symm
  rw[ek]at hb;obtain⟨o1,rfl⟩:=Ff c5;have dg:=dJ.tr (k:=qF u) (.inr ⟨o,s4 _ _ a0⟩) hb;rw[an u,QI<|al.2 u<|QH hu]at dg;exact⟨⟨[_],rfl,rfl⟩,⟨_,rfl,_,rfl,ho,_,rfl,dg,_,rfl,_,_,rfl,rfl,_,rfl,dF (λW=>⟨_,rfl,k1 W _ _ (cH.refl _) ⟨b,rfl,hb⟩⟩) λno=>k2 (RA.mpr no) _<|cH.refl _⟩⟩
 intro to us H4 ei s4 av lz;have ab:∀t∈B.filter λt=>decide<|cJ l t.1<=h,t∈ot:=λt ht=>al.2 t (QV.mp ht).1;have bi:∀t,t∈B.filter (λt=>decide<|cJ l t.1<=h)↔t∈ot.filter (λt=>decide<|cJ l t.1<=h):=λt=>by rw[QV,QV,cx t]
 have aq:(B.filter λt=>decide<|cJ l t.1<=h).length<=240:=Rn (RB _ _) (by lia);generalize B.filter (λt=>decide<|cJ l t.1<=h)=U at lz ab bi aq;have cg:=d1.trans s4;have b4:=s4 _ _ b2;have ar:=s4 _ _ a0;intro d nd dx;have s5:=cH.upd (o:=.ext<|Dφ (nE X.prog X.w) d []) nd;have bc:upd H4 d (.ext<|Dφ (nE X.prog X.w) d []) d=some (.ext<|Dφ (nE X.prog X.w) d []):=cE;generalize upd H4 d (.ext<|Dφ (nE X.prog X.w) d [])=H5 at s5 bc;have cn:us.length=U.length:=lz.1;refine⟨_,rfl,to,rfl,⟨_,cN.of<|s5 _ _ av⟩,c6 (K:=X.K) (a:=to) (xs:=us) (NS X.prog X.w x z h se ho to d H4 l F U) ⟨none,none,none,none,rfl,s5,⟨[],bc,⟨.inl bc,(λe he=>nomatch he),Uz,dx,by show 0<sizeLine;decide⟩,QJ _,(λe he=>nomatch he),λu v=>⟨(λz=>nomatch z),λz=>nomatch z⟩⟩,QJ _⟩ ?_ ?_ ?_⟩
 ·rintro i σ H6 hi ⟨e7,e8,e9,XJ,rfl,kp,li,ml⟩
  exact cN.of<|kp _ _ av
 ·rintro i v σ H6 hv ⟨e7,e8,e9,XJ,rfl,kp,li,ml⟩
  have il:=(gI0.mp hv).1;obtain⟨t,ht,a,rfl,ha⟩:=lz.at hv;have mt:=QH ht;have Yj:(U.take<|i+1).flatMap (qK l F z U)=(U.take i).flatMap (qK l F z U)++qK l F z U t:=by
   rw[RE,ht,Xe];show _++List.flatMap _ [t]=_;rw[V2,List.flatMap_nil,Rm]
  generalize (U.take i).flatMap (qK l F z U)=M at li ml Yj;have co:oq H6 a t:=kp _ _ ha;refine⟨_,rfl,xT co rfl ⟨sZ,λia dd=>?_⟩⟩;generalize ef:upd H6 ia _=H7;obtain⟨s7,c1⟩:=nx dd ef;refine⟨_,rfl,xT (s7 _ _ co) rfl ⟨sZ,λoa db=>?_⟩⟩;generalize d2:upd H7 oa _=H8;obtain⟨s8,dc⟩:=nx db d2;have b1:=s8 _ _ c1;have cr:=s7.trans s8;have cl:∀{R:Hp},Tk H8 R->iG R (dX t.1) (.ref ia):=λtk=>⟨ia,rfl,tk _ _ b1⟩;have bm:∀{R:Hp},Tk H8 R->iG R (eO t.1) (.ref oa):=λtk=>⟨oa,rfl,tk _ _ dc⟩;have da:=li.keep cr;have c7:=kp.trans cr;have put:∀{Y:Hp}{M':Xm (Pl×Pl)}{u v:Pl}{y:V}{n:Int}{Q':Hp->Prop},cH H4 Y->Tk H8 Y->yq X.prog X.w Y d M'->Ol Y [u,v] y->n=eY (u,v)->M'.length<=400*240+400->(∀R,cH H4 R->Tk H8 R->yq X.prog X.w R d (M'++[(u,v)])->Q' R)->wc (nE X.prog X.w) (.ref d) y (.int n) Y Q':=λ{Y M' u v y n Q'} sA tA lA rA eA mA kA=>
   KS lA rA eA (by lia) λR eb lI=>by
    have d0:∀{b:Xg}{o:HO},H4 b=some o->b≠d:=λe=>cF e nd;refine kA R (λb u e=>by rw[eb b<|d0 e];exact sA _ _ e) (λb xs e=>?_) lI;rw[eb b λz=>by
     obtain⟨φ,cp⟩:=lA.there;rw[z]at e;rw[tA _ _ e]at cp;cases cp]
    exact tA _ _ e
  have ej:M.length<=400*240:=by lia
  have ay:∀{Y:Hp}{u v:Pl}{yu yv:V}{q:Xg},Y q=some (.tup [yu,yv])->iG Y u yu->iG Y v yv->Ol Y [u,v] (.ref q):=λhq pu pv=>⟨_,_,rfl,hq,.cons pu<|.cons pv .nil⟩;refine⟨_,rfl,_,rfl,_,rfl,sZ,λq1 de=>?_⟩;have s9:=cH.upd (o:=.tup [.ref ia,.ref oa]) de;have t9:=Tk.of s9;refine put (c7.trans s9) t9 (da.keep s9) (ay cE (cl t9)<|bm t9) yK.symm (by lia) λY ad b0 bx=>?_;have a9:oq Y a t:=ad _ _ ha;have dg:dJ Y ho (.ref a) (some<|.int<|cJ l t.1):=by
   have:=dJ.tr (k:=qF t) (.inr ⟨o,ad _ _ ar⟩) a9;rw[an t,QI<|ab t mt]at this;exact this
  dsimp only;refine kr (λam R=>am=[some<|.ref x,some<|.str z,some<|.int h,some<|.ref se,some<|.ref ho,some<|.ref to,some<|.ref d,some<|.ref a,some<|.ref ia,some<|.ref oa,XJ]/\cH H4 R/\Tk H8 R/\yq X.prog X.w R d (M++[(dX t.1,eO t.1)]++(if eX F t.2.1 (cJ l t.1)=true then [(sP,dX t.1)] else []))) ?_ (eX F t.2.1<|cJ l t.1) (λQ' q'=>?_) (λW bv N hR=>?_) λno bv N=>?_
  rotate_left
  ·exact⟨_,rfl,_,rfl,xT a9 rfl ⟨_,rfl,_,rfl,ho,_,rfl,dg,se,ce,F,t.2.1,cJ l t.1,rfl,ad _ _ b4,sn,_,rfl,q' _<|cH.refl _⟩⟩
  ·refine⟨_,rfl,_,rfl,sZ,λq2 a3=>?_⟩
   have G:=N.trans<|cH.upd (o:=.tup [.str "start",.ref ia]) a3;have ax:=b0.trans<|Tk.of G;refine put (ad.trans G) ax (bx.keep G) (ay cE (show iG _ sP (.str "start") from rfl)<|cl ax) rfl (by rw[QC];show M.length+1<=_;lia) λa1 g S A=>hR _ _ ⟨rfl,g,S,?_⟩;rw[QI W];exact A
  ·rw[QG<|by rw[no];exact bF0,Rm]
   exact⟨rfl,ad.trans N,b0.trans<|Tk.of N,bx.keep N⟩
  rintro am bv ⟨rfl,N,bd,Z⟩;have ap:(M++[(dX t.1,eO t.1)]++(if eX F t.2.1 (cJ l t.1)=true then [(sP,dX t.1)] else [])).length<=M.length+2:=by grind
  have eM:(U.take<|i+1).flatMap (qK l F z U)=M++[(dX t.1,eO t.1)]++(if eX F t.2.1 (cJ l t.1)=true then [(sP,dX t.1)] else [])++(if t.2.2=z then [(eO t.1,eP)] else [])++(U.filter<|eN l t).map λu=>(eO t.1,dX u.1):=by
   rw[Yj];unfold qK;simp only[append_assoc]
  clear bx ad b0 a9 dg Yj;generalize M++[(dX t.1,eO t.1)]++(if eX F t.2.1 (cJ l t.1)=true then [(sP,dX t.1)] else [])=M2 at Z ap eM;have cf:oq bv a t:=N _ _ ha;refine kr (λam R=>am=[some<|.ref x,some<|.str z,some<|.int h,some<|.ref se,some<|.ref ho,some<|.ref to,some<|.ref d,some<|.ref a,some<|.ref ia,some<|.ref oa,XJ]/\cH H4 R/\Tk H8 R/\yq X.prog X.w R d (M2++(if t.2.2=z then [(eO t.1,eP)] else []))) ?_ (decide<|V.str t.2.2=V.str z) (λQ' q'=>?_) (λW cd G hR=>?_) λno cd G=>?_
  rotate_left
  ·exact⟨_,rfl,xT cf rfl ⟨_,rfl,rfl,_,rfl,q' _<|cH.refl _⟩⟩
  ·have ez:t.2.2=z:=V.str.inj (QO W)
   refine⟨_,rfl,_,rfl,sZ,λq2 a3=>?_⟩;have g:=G.trans<|cH.upd (o:=.tup [.ref oa,.str "end"]) a3;have S:=bd.trans<|Tk.of g;refine put (N.trans g) S (Z.keep g) (ay cE (bm S)<|show iG _ eP (.str "end") from rfl) ux.symm (by lia) λec be a4 ac=>hR _ _ ⟨rfl,be,a4,?_⟩;rw[QI ez];exact ac
  ·rw[QG (λe=>by rw[e,dT0 rfl]at no;cases no),Rm]
   exact⟨rfl,N.trans G,bd.trans<|Tk.of G,Z.keep G⟩
  rintro am cd ⟨rfl,G,ax,as⟩;have cc:(M2++(if t.2.2=z then [(eO t.1,eP)] else [])).length<=M.length+3:=by grind
  clear Z N bd cf ap;generalize M2++(if t.2.2=z then [(eO t.1,eP)] else [])=M3 at as cc eM;refine⟨_,rfl,to,rfl,⟨_,cN.of<|G _ _ av⟩,c6 (K:=X.K) (a:=to) (xs:=us) (NO X.prog X.w x z h se ho to d a ia oa H4 H8 l U t M3) ⟨XJ,rfl,G,ax,by rw[Ue];exact(Rm M3).symm ▸ as⟩ ?_ ?_ ?_⟩
  ·rintro j σ a1 hj ⟨XJ,rfl,g,S,A⟩
   exact cN.of<|g _ _ av
  ·rintro j v σ a1 hv ⟨XJ,rfl,g,S,A⟩
   have jl:=(gI0.mp hv).1;obtain⟨u,hu,b,rfl,hb⟩:=lz.at hv;have mu:=QH hu;have cs:oq a1 b u:=g _ _ hb;have tj:(U.take<|j+1).filter (eN l t)=(U.take j).filter (eN l t)++if eN l t u=true then [u] else []:=by
    rw[RE,hu,Sz]
    congr 1
    show List.filter _ [u]=_;rw[R8];rfl
   have lj:((U.take j).filter<|eN l t).length<=240:=Rn (RB _ _) (Rn (Vk _ _)<|by lia);refine⟨_,rfl,_,rfl,_,rfl,ho,a,b,O,l,ot,t,u,rfl,.inr ⟨o,g _ _ ar⟩,an,g _ _ ha,cs,ab t mt,ab u mu,_,rfl,dF (λW=>?_) λno=>?_⟩
   ·refine⟨_,rfl,_,rfl,_,rfl,xT cs rfl ⟨sZ,λq3 dk=>⟨sZ,λq4 ed=>?_⟩⟩⟩
    have sA:=cH.upd (o:=.tup [.str "into",.int (u.1:Nat)]) dk;have sB:=cH.upd (o:=.tup [.ref oa,.ref q3]) ed;have bn:=sA.trans sB;have ch:=S.trans<|Tk.of bn;refine put (g.trans bn) ch (A.keep bn) (ay cE (bm ch)<|show iG _ (dX u.1) (.ref q3) from ⟨q3,rfl,sB _ _ cE⟩) ux.symm (by grind) λec be a4 ac=>⟨_,rfl,be,a4,?_⟩;rw[tj,QI W,Si,<-QL];exact ac
   ·refine⟨_,rfl,g,S,?_⟩
    rw[tj,QG no,Rm];exact A
  ·rintro σ a1 ⟨XJ,rfl,g,S,A⟩
   rw[cn,RR]at A;rw[<-eM]at A;refine⟨_,_,_,_,rfl,g,A,?_⟩;have lj:(U.filter<|eN l t).length<=240:=Rn (RB _ _) aq;rw[eM,QC,QF];lia
 ·rintro σ H6 ⟨e7,e8,e9,XJ,rfl,kp,li,ml⟩
  rw[cn,RR]at li ml;obtain⟨L,hL,nL,lL,mL⟩:=li.link;exact⟨_,rfl,k d L H6 (cg.trans kp) (cg.free nd) hL ⟨nL,λu v=>(mL u v).trans<|Ht.trans ⟨sJ bi,sJ λt=>(bi t).symm⟩⟩<|by lia⟩
def nums(a:Xm Nat):Xm V:=a.map λk=>V.int (k:Nat)
def Way.inv{U:Pl->Pl->Prop}{k:Nat}{f:Xm Nat}(w:Way U k f):∃e v,f=k::e/\U (dX k) (eO k)/\U (eO k) v/\((v=eP/\e=[])\/∃g,v=dX g/\Way U g e):=by
 cases w with
 |fin a b=>exact⟨[],eP,rfl,a,b,.inl ⟨rfl,rfl⟩⟩
 |led a b r=>exact⟨_,_,rfl,a,b,.inr ⟨_,rfl,r⟩⟩
inductive Qp(P:Xi)(w:Xj)(vs:Xm V)(H:Hp)(Q:VK):Prop
 |mk(f:Xg)(Xu:Xm (Pl×V×V))(g:Nat)(pv:V)(a:Xm Nat)(U:Pl->Pl->Prop)(e:vs=[.ref f,pv])(h:iG H (dX g) pv)(n:DD (eT P w) H f Xu)(m:∀u v,U u v->u≠sP->∃y,jF Xu u=some y/\iG H v y)(i:Way U g a)(j:a.length<=1000)
  (k:∀(l:Xg)(H':Hp),cH H H'->H l=none->H' l=some (.lst (nums a))->Q (.ref l) H')
def Ka(P:Xi)(w:Xj):Sp:=λa H Q _=>Qp P w a H Q
inductive Iu(g l:Xg)(H1:Hp)(U:Pl->Pl->Prop)(h:Xm Nat)(m:Nat)(σ:St)(a:Hp):Prop
 |mk (pv:V) (f rs:Xm Nat) (e:σ=[some (.ref g),some pv,some (.ref l)]) (i:cH H1 a) (n:a l=some (.lst (nums f))) (j:h=f++rs) (hm:m=rs.length) (o:(rs=[]/\pv=.str "end")\/∃k,Way U k rs/\iG H1 (dX k) pv)
def oE:cK ["following","place","talks"] ["following","place"] (cI gK):={}
def N6 {fd:FuncData}(D:Df K mg "talks_behind" gK ["following","place"] f fd):Gd P w K mg base 1 "talks_behind" (Ka P w):=by
 refine aG D oE λX H vs Q E j h=>?_;obtain⟨y,S,k0,pv,F,U,rfl,hp,dd,Y,wy,kl,k⟩:=h;obtain⟨rfl,rfl⟩:=And.intro j.pr j.wd;have i:=jc j.room;have XH:=Q0;obtain⟨T,A,M,_⟩:=j.fg [0,1,2];refine⟨_,(af (au M j.nd<|a5 bz)
 (af (cy j.own (aF (J.u5<|UE (TY _ 3) i) (aa A) ao<|cM _)
 (af (br<|bw RV Rq Rv bF (aa M)<|aj<|ai aE (aa A) ae ah)
 (ag<|au A j.nd<|bM i (aa T) (bM i (aa T) (aa A) aR) cv)))
 (ag<|aw<|aa M))),?_⟩
 refine⟨by decide,λl O=>?_⟩;generalize C:upd H l _=H1;obtain⟨s1,R⟩:=nx O C;refine⟨Iu y l H U F,⟨_,pv,[],F,rfl,s1,R,rfl,rfl,.inr ⟨k0,wy,hp⟩⟩,?_⟩;rintro m σ x ⟨pv,n,rs,rfl,B,N,L,rfl,pl⟩;obtain ⟨rfl,rfl⟩|⟨g,wk,pk⟩:=pl
 ·refine⟨_,rfl,.txt _ _ rfl rfl ⟨_,rfl,gP (by grind) ?_⟩⟩
  rw[Rm]at L;subst L;exact⟨_,rfl,k l x B O N⟩
 ·obtain⟨b,rfl,W⟩:=pk
  have s:x b=some (.tup [.str "into",.int (g:Nat)]):=B _ _ W;obtain⟨q,v,rfl,u1,u2,nx⟩:=wk.inv;obtain⟨y1,v1,p1⟩:=Y _ _ u1 λe=>fB e;obtain⟨y2,v2,p2⟩:=Y _ _ u2 λe=>eL e;obtain⟨e1,a1,G⟩:=vx v1;obtain⟨e2,a2,I⟩:=vx v2;have dl:n.length<=1000:=by grind
  refine⟨_,rfl,.tup b _ _ rfl s rfl ⟨_,rfl,fH rfl ⟨Iu y l H U F q.length,λab H' z=>⟨_,Tn _,z⟩,?_⟩⟩⟩;refine⟨_,rfl,.inl ⟨rfl,_,cN.of N⟩,_,rfl,xT s rfl ⟨l,_,_,rfl,rfl,N,by unfold nums;rw[QF];lia,?_⟩⟩;have a:cH H (upd x l<|.lst<|nums n++[.int (g:Nat)]):=λb' o e=>by
   rw[cG<|cF e O];exact B _ _ e
  have r:upd x l (.lst<|nums n++[.int (g:Nat)]) l=some (.lst<|nums<|n++[g]):=by
   rw[cE];unfold nums;rw[Si];rfl
  generalize upd x l (.lst<|nums n++[.int (g:Nat)])=H3 at a r;have p:=dd.same a;have Z:=Tk.of a;refine⟨_,rfl,_,rfl,_,rfl,y,S,dX g,e1,rfl,p,⟨b,rfl,a _ _ W⟩,a1,?_⟩;rw[G];refine⟨y,S,eO g,e2,rfl,p,p1.mono Z,a2,?_⟩;rw[I];refine⟨y2,n++[g],q,rfl,a,r,by rw[L,QL];rfl,rfl,?_⟩;obtain ⟨rfl,rfl⟩|⟨k',rfl,w'⟩:=nx
  ·exact .inl ⟨rfl,p2⟩
  ·grind
def Fi{H:Hp}{us:Xm V}{ds:Xm ED}(g:Lz kU H us ds):∃f:Xm Xg,us=f.map V.ref/\f.length=ds.length/\∀(i:Nat) a d,f[i]? =some a->ds[i]? =some d->lZ H a d:=by
 have l:∀us:Xm V,(∀v∈us,∃a,v=V.ref a)->∃f:Xm Xg,us=f.map V.ref:=λus=>by
  induction us with
  |nil=>exact λ_=>⟨[],rfl⟩
  |cons v r q=>
   intro h;obtain⟨f,e⟩:=q λu m=>h u<|.tail _ m;obtain⟨a,rfl⟩:=h v<|.head _;exact⟨a::f,by rw[RC,<-e]⟩
 obtain⟨f,rfl⟩:=l us λv o=>by
  obtain⟨i,n⟩:=QZ o;obtain⟨d,_,a,e,_⟩:=g.at n;exact⟨a,e⟩
 refine⟨f,rfl,by rw[<-g.1,QF],λi a d p j=>?_⟩;obtain⟨s,e,h⟩:=g.2 i _ d (by rw[QR,p];rfl) j;cases e;exact h
def in_nums(k:Nat)(a:Xm Nat):IL (.int (k:Nat)) (nums a)=decide (k∈a):=by
 show(a.map λk=>V.int (k:Nat)).any (λy=>vP y<|.int (k:Nat))=_;rw[any_map,Bool.eq_iff_iff,UX,Ro];constructor
 ·rintro⟨j,hj,e⟩
  have f:((j:Int)==(k:Int))=true:=e;grind
 ·intro h
  exact⟨k,h,RS _⟩
def nR(e:Xm Nat):(nums e).all dO=true:=Se.mpr λv a=>by
 obtain⟨k,_,rfl⟩:=Rk.mp a;rfl
def dW.rev(h:dW H us ks):dW H us.reverse ks.reverse:=by
 have l:=h.1;refine⟨by rw[Sa,Sa,l],λi u t a e=>?_⟩;have f:=(gI0.mp a).1;rw[Sa]at f;rw[Ui f]at a;rw[Ui<|by lia,<-l]at e;exact h.2 _ u t a e
inductive Ql(vs:Xm V)(H:Hp)(Q:VK):Prop
 |mk(q n:Xg)(us:Xm V)(E:Xm ED)(a:Xm Nat)(z:Xn)(h:Int)(m:Xm QD)(g:Xm TK)(F:FH)(e:vs=[.ref q,.ref n,.str z])(r:H q=some (.lst us))(w:Lz kU H us E)(ul:us.length<=400)(x:H n=some (.lst (nums a)))(A:a.length<=1000)
  (s:∀Fk,FE (E.filter (l9 a)) Fk->∃b,Fk z=some b/\b<=h)(y:∀d∈E,∀i,d.2.2=.saw i->∃j,F d.1=some j/\j<=d.2.1)(hr:∀d∈E,∀k p,d.2.2=.hrd k p->(k,p,d.1)∈g/\d.2.1=cJ m k)(v:∀j,F z=some j->h<j)
  (k:∀(l:Xg)(o:Xm V)(f:Xm TK)(H':Hp),cH H H'->H l=none->H' l=some (.lst o)->dW H' o f->pB F m g f z h=true->(∀t∈f,t.1∈a/\t∈g)->(f.map (·.1)).Nodup->Q (.ref l) H')
def Oe:Sp:=λa H Q _=>Ql a H Q
inductive Ji(n j f l:Xg)(H1:Hp)(Fk:FH)(ds:Xm ED)(i:Xm QD)(o:Xm TK)(q:Xm Nat)(z:Xn)(h:Int)(m:Nat)(σ:St)(a:Hp):Prop
 |mk(g:Xk V)(p:Xn)(b:Int)(us:Xm V)(ac:Xm TK)(e:σ=[some (.ref n),some (.ref j),some (.str p),some (.ref f),some (.ref l),g])(hm:m=(ds.filter λd=>decide (d.2.1<b)).length)(r:cH H1 a)(s:a l=some (.lst us))(v:dW a us ac)(tr:Tr i o q z h ac.reverse p b)(fp:Fk p=some b)
def uZ:cK ["entries","talks","person","known","line","way"] ["entries","talks","person"] (cI jL):={}
def MG {fd:FuncData}(D:Df K mg "line_over" jL ["entries","talks","person"] f fd) (T:Txt K mg kw C) (a4:Gd P w K mg base 4 "first_entries" Mf):Gd P w K mg base 5 "line_over" Oe:=by
 refine aG D uZ λX H s Q E g h=>?_;obtain⟨en,tk,us,E,I,z,h,qd,ot,F,rfl,M,lz,ul,X4,kl,kn,hs,hr,nz,k⟩:=h;have hu:=d5 g.room;have XH:=Q0;obtain⟨S0,S1,S2,S3,S4,S5,_⟩:=g.fg [0,1,2,3,4,5];refine⟨_,(af (au S3 g.nd<|ak (g.gN a4 rfl (by lia)<|by decide)<|aj<|bB (is:=[1]) (xs:=["entry"]) (ns:=["talks"]) g.calm (aQ<|aa S0) {} (λ_ _ _ _ _=>a6 (i:=0)) (λ_ _ _ _ _=>bC<|a7<|bS (aF aO (ai bp (ai bp (aM (i:=0)) ae ah) ae ah) ao<|cM _)<|b5<|aF J.qx (ai bp (ai bp (aM (i:=0)) ae ah) ae ah) (aS (i:=1)) b6) (λ_ _ _ _ _=>aM (i:=0)) g.hsc g.hN)
 (af (au S4 g.nd<|a5 bz)
 (af (cy g.own (aF aO (ai aE (ai aE (aK hu (aa S3) (aa S2) aR) ae ah) ae ah) ao<|cM _)
 (af (au S5 g.nd<|ai aE (aK hu (aa S3) (aa S2) aR) ae ah)
 (af (br<|bw RV Rq Rv bF (aa S4)<|aj<|aL<|aP (ai aE (aa S5) ae ah) (ai aE (aa S5) ae ah)<|aa S2)
 (ag<|au S2 g.nd<|ai aE (aa S5) ae ah))))
 (ag<|aw<|J.DV g.calm (g.b T.b_list) (g.b T.b_reversed)<|aj<|aa S4)))),?_⟩
 have el:E.length<=400:=by rw[<-lz.1];exact ul
 refine⟨_,rfl,en,rfl,⟨_,cN.of M⟩,jb kU E (l9 I) (λv d _ _ t h=>h.mono t) (by lia) (λi H2 L hi=>⟨us,us[i]'(by rw[lz.1];exact hi),cN.of<|L _ _ M,QB _⟩) (λH2 L=>⟨us,cN.of<|L _ _ M,SS lz.1⟩) ?_ ?_⟩
 ·intro i os v d H2 H3 K1 K2 G a1 L y k1 k2
  obtain⟨e3,y⟩:=y;subst e3;obtain⟨o1,rfl⟩:=Ff a1;have ev:kU _ v d:=(lz.2 i v d (y us<|cN.of<|L _ _ M) G).mono<|Tk.of L;obtain⟨a,rfl,wa,B,A⟩:=id ev;obtain⟨y,b,way⟩:=d;refine⟨⟨[_],rfl,rfl⟩,⟨_,rfl,xT B rfl ?_⟩⟩;cases way with
  |saw j=>exact(xT A rfl ⟨rfl,_,rfl,iP<|fO ⟨_,rfl,k1 rfl _ _ (cH.refl _) ev⟩⟩)
  |hrd kk r=>
   refine(xT A rfl ⟨rfl,_,rfl,iN ⟨_,rfl,xT B rfl<|xT A rfl ⟨_,rfl,tk,_,rfl,.inl<|cN.of<|L _ _ X4,rfl,nR I,?_⟩⟩⟩);rw[in_nums];exact⟨_,rfl,dF (λa0=>⟨_,rfl,k1 a0 _ _ (cH.refl _) ev⟩) λno=>k2 (RA.mpr no) _<|cH.refl _⟩
 intro fl fs H2 bf L ay al;obtain⟨as,rfl,ax,U⟩:=Fi al;have aq:(E.filter<|l9 I).length<=400:=Rn (RB _ _) el;have O:∀d∈E.filter (l9 I),d∈E/\l9 I d=true:=λd G=>QV.mp G;generalize E.filter (l9 I)=ds at al ax U aq O kn;refine⟨fl,as,ds,rfl,ay,by lia,λa B=>?_,λd G=>?_,λkd Xu Fk H3 s3 bn a3 ka fo=>?_⟩
 ·obtain⟨i,hi⟩:=QZ B
  obtain⟨d,G⟩:∃d,ds[i]? =some d:=⟨_,QB<|by grind⟩;exact⟨d,QH G,U i a d hi G⟩
 ·obtain⟨i,hi⟩:=QZ G
  obtain⟨a,B⟩:∃a,as[i]? =some a:=⟨_,QB<|by grind⟩;exact⟨a,QH B,U i a d B hi⟩
 obtain⟨b0,bd,ap⟩:=kn Fk fo;refine⟨Hd,λl nl=>?_⟩;generalize be:upd H3 l _=H4;obtain⟨s4,a9⟩:=nx nl be;have bc:=L.trans s3;have step:∀{p:Xn}{b:Int}{a:Xg}{d:ED},d∈ds->d.1=p->d.2.1=b->∀{k:Nat}{r:Xn},d.2.2=.hrd k r->Cq Fk d=true->∃S,Fk r=some S/\S<b/\(k,r,p)∈ot/\cJ qd k=b/\k∈I:=λ{p b a d} G e1 e2 {k r} e3 c=>by
  obtain⟨dE,dk⟩:=O d G;obtain⟨h1,h2⟩:=hr d dE k r e3;unfold Cq at c;unfold l9 at dk;rw[e3]at c dk;have c':(match Fk r with|none=>false|some a=>decide<|a<d.2.1)=true:=c;cases hT:Fk r with
  |none=>grind
  |some S=>grind
 refine⟨Ji en tk kd l H3 Fk ds qd ot I z h,⟨_,none,z,b0,[],[],rfl,rfl,s4,a9,⟨rfl,λi u t hu=>by cases hu⟩,.nil ap,bd⟩,?_⟩;rintro m σ H5 ⟨e5,p,b,s,ac,rfl,rfl,kp,hl,tu,tr,fp⟩;obtain⟨a,d,va,ev,md,d1,d2,cf⟩:=ka p b fp;obtain⟨wa,av,a2⟩:=id ev;have B:=kp _ _ av;have A:=a2.mono<|Tk.of kp;have dg:=dJ.k (k:=Sum.inr p)<|kp _ _ a3;rw[va]at dg;have bm:ac.length<=1000:=by
  have h1:=tr.nd;have h2:=iW (ys:=I) h1 λx hx=>by
   obtain⟨t,ht,rfl⟩:=Rk.mp hx;exact(tr.all t ht).2.1
  rw[QF,Sa]at h2;lia
 have vl:=tu.1;refine⟨_,rfl,_,rfl,kd,_,rfl,dg,xT B rfl ?_⟩;cases n:d.2.2 with
 |saw i=>
  rw[n]at A;refine(xT A rfl ⟨rfl,_,rfl,iN ?_⟩);obtain⟨j,fj,jl⟩:=hs d (O d md).1 i n;rw[d1]at fj;refine⟨_,rfl,l,_,rfl,cN.of hl,λrl Y=>?_⟩;have ad:=bc.trans kp;have N:=cH.upd (o:=.lst s.reverse) Y;exact k rl s.reverse ac.reverse _ (ad.trans N) (ad.free Y) cE (tu.rev.mono<|Tk.of N) (tr.line nz fj<|by lia) (λt ht=>⟨(tr.all t ht).2.1,(tr.all t ht).1⟩) tr.nd
 |hrd kk r=>
  rw[n]at A;obtain⟨S,Z,lt,mo,eh,mk⟩:=step (a:=a) md d1 d2 n cf;refine(xT A rfl ⟨rfl,_,rfl,iP ⟨Ji en tk kd l H3 Fk ds qd ot I z h<|(ds.filter λd=>decide<|d.2.1<S).length,λbv H' z=>⟨_,?_,z⟩,?_⟩⟩)
  ·obtain⟨a',d',_,_,ar,_,bi,_⟩:=ka r S Z
   exact uj (x:=d') (λy _ h=>dT0<|by grind) ar (dT0<|by lia) (QM<|by lia)
  refine⟨_,rfl,_,rfl,kd,_,rfl,dg,xT B rfl ?_⟩;refine⟨_,rfl,.inl ⟨rfl,_,cN.of hl⟩,_,rfl,xT A rfl ⟨_,rfl,xT A rfl ⟨_,rfl,uA,λq nq=>?_⟩⟩⟩;generalize bb:upd H5 q _=H6;obtain⟨N,hq⟩:=nx nq bb;refine⟨l,s,.ref q,rfl,rfl,N _ _ hl,by lia,?_⟩;have R:=Tk.upd (N _ _ hl) (ys:=s++[.ref q]);have W:cH H3 (upd H6 l<|.lst<|s++[.ref q]):=λb u e=>by
   rw[cG<|cF e nl];exact N _ _<|kp _ _ e
  have ab:dW (upd H6 l<|.lst<|s++[.ref q]) (s++[.ref q]) (ac++[(kk,r,p)]):=((tu.mono<|Tk.of N).mono R).snoc ⟨q,rfl,R _ _ hq⟩;have am:upd H6 l (.lst<|s++[.ref q]) l=some (.lst<|s++[.ref q]):=cE;have an:=(A.mono<|Tk.of N).mono R;generalize upd H6 l (.lst<|s++[.ref q])=H7 at W ab am an;refine⟨_,rfl,xT an rfl ?_⟩;refine⟨_,r,S,_,_,rfl,rfl,W,am,ab,?_,Z⟩;rw[Vi];exact .cons (t:=(kk,r,p)) tr rfl eh mo mk lt
inductive Qd(P:Xi)(w:Xj)(C:Xg)(vs:Xm V)(H:Hp)(Q:VK):Prop
 |mk(x p s t y:Xg)(ps:Xm Xn)(ss g ys:Xm V)(f:Xm GD)(a:Xm QD)(sd:Xm SD)(z:Xn)(h:Int)(e:vs=[.ref x,.str z,.int h])(bk:Bk C H x p s t y ps ss g ys)(E:ps.length<=24)(sl:ss.length<=24)(o:g.length<=120)(A:Lz dI H ss f)(v:∀d∈f,d.1∈ps)(B:Lz dz H g a)(q:∀d∈a,lV ps d)(r:Sys H ys sd)(l:ys.length<=60)
   (D:∀j,dB (f.filter (cS sd)) z=some j->h<j)
   (k:∀(m ul i:Xg) (us:Xm V) (Xu:Xm (Pl×V×V)) (L:Xm (Pl×Pl)) (R:Pl->Pl->Int) (n:Int) (H':Hp),cH H H'->H' m=some (.tup [.ref ul,.ref i])->H' ul=some (.lst us)->Lz vf H' us (L.filter λl=>decide (0<R l.2 l.1))->ju P w H' i "start" (jQ L R) Xu->eP ∉ Xu.map (·.1)->FL.gS L eY R->FL.Flow L eY (FL.fl R) sP eP n->kD a (dB (f.filter (cS sd))) z (nZ a sd h) L->L.length<=100000->Q (.ref m) H')
def JY(P:Xi)(w:Xj)(C:Xg):Sp:=λa H Q _=>Qd P w C a H Q
def tR:cK ["book","person","hour","seen"] ["book","person","hour"] (cI j3):={}
def N3 (D:Df K mg "talk_flow" j3 ["book","person","hour"] f fd) (M:Gd P w K mg base 5 "seen_hours" (yV C)) (F:Gd P w K mg base 2 "filled" (Cu P w)) (r:Gd P w K mg base 6 "talk_links" (KI P w C)):Gd P w K mg base 7 "talk_flow" (JY P w C):=by
 refine aG D tR λX H vs Q E g h=>?_;obtain⟨x,p,s,t,y,W,O,ts,ys,v,qd,sd,z,h,rfl,bk,pl,sl,q,Z,Y,qs,qk,U,XO,nz,k⟩:=h;have hu:=d5 g.room;have XH:sizeLine=16777216:=Q0;obtain⟨S,N,S2,I,_⟩:=g.fg [0,1,2,3];refine⟨_,(af (au I g.nd<|ak (g.c M)<|aj<|aa S)
 (af (aH (a7<|bg (J.Dl hu (aa N)<|aa I)<|bq<|aF bG (aK hu (aa I) (aa N) aR) (aa S2)<|cM _)
 cB
 aI)
 (ag<|aw<|ak (g.c F)<|aP (ak (g.c r)<|aP (aa S) (aa N)<|aa S2) ao ao))),?_⟩
 refine⟨_,rfl,x,p,s,t,y,W,O,ts,ys,v,sd,rfl,bk,pl,sl,Z,Y,U,XO,λm ac H1 i ab Yi sn=>?_⟩;have a:=dJ.k (k:=Sum.inr z) Yi;rw[sn.get]at a;refine both (G:=Gz (pY (Cu P w) [] E0<|dG (pY (KI P w C) [] E0<|dG (je 0)<|dG (je 1)<|dG (je 2) kT)<|dG (tC<|.str "start")<|dG (tC<|.str "end") kT) { nx:=λ_ H'=>Q .non H',rt:=Q } [some<|.ref x,some<|.str z,some<|.int h,some<|.ref m] H1) ?_ λrest=>?_
 ·refine⟨_,rfl,_,rfl,_,rfl,x,p,s,t,y,W,O,ts,ys,v,qd,sd,z,h,rfl,bk.mono i,pl,sl,q,Z.mono<|dI.mono<|Tk.of i,Y,qs.mono<|dz.mono<|Tk.of i,qk,U.mono<|Tk.of i,XO,λd L H2 s2 nd ld T lL=>?_⟩
  refine⟨d,"start","end",L,eY,rfl,ld,T.js,lL,IT,λl _=>Lf l,λtp ul cm us Xu R n H3 kp h1 h2 h3 h4 h5 h6 h7=>?_⟩;exact k tp ul cm us Xu L R n H3 (λb o e=>kp b o (s2 _ _<|i _ _ e)<|cF e<|i.free nd) h1 h2 h3 h4 h5 h6 h7 T lL
 ·cases A:dB (v.filter<|cS sd) z with
  |none=>
   rw[A]at a;exact⟨_,rfl,_,rfl,m,_,rfl,a,_,rfl,gP bF0<|dH rest⟩
  |some j=>
   rw[A]at a;refine⟨_,rfl,_,rfl,m,_,rfl,a,_,rfl,fH rfl ⟨_,rfl,_,rfl,m,_,rfl,a,_,rfl,_,_,rfl,rfl,_,rfl,dF (λB=>?_) λ_=>rest⟩⟩
   ·have:=nz j A
    have:=QO B;lia
section
variable {qd:Xm QD}{F:FH}{z:Xn}{tl:Xm TK}{L:Xm (Pl×Pl)}{f:Pl×Pl->Int}{n:Int}
def kD.Kk(T:kD qd F z tl L)(W:FL.Flow L eY f sP eP n):(((L.filter λl=>decide<|0<f l).filter λl=>decide<|l.1=sP).length:Int)=n:=by
 have i:=FL.k7 L f sP;rw[W.ns]at i;have m:FL.Ik L f sP=0:=FL.fR λl g=>FL.c8 λe=>by
  obtain⟨a,b⟩:=l;have e:=e;subst e;exact((T.mem _ _).mp g).wY
 have j:FL.rg L f sP=(L.map λl=>if l.1=sP/\0<f l then(1:Int) else 0).sum:=FL.eG λl g=>by
  by_cases e:l.1=sP
  ·rw[FL.c9 e]
   have o:=W.lo l g;have h:=(T.low W g).1;have h:f l<=1:=h;by_cases q:0<f l
   ·grind
   ·lia
  ·rw[FL.c8 e,QG λz=>e z.1]
 rw[kf]at j;rw[List.filter_filter];have e:(λl:Pl×Pl=>decide (l.1=sP)&&decide (0<f l))=λl=>decide (l.1=sP/\0<f l):=funext λl=>by rw[Bool.decide_and]
 rw[e];lia
end
theorem wq{κ:Type} [DecidableEq κ]:∀(ps Xu:Xm (κ×V×V)) (x:κ),(∀v,jF (eD Xu ps) x=some v->jF Xu x=some v\/∃q∈ps,q.1=x/\q.2.2=v)/\(((jF Xu x).isSome=true\/∃q∈ps,q.1=x)->(jF (eD Xu ps) x).isSome=true)
 |[],Xu,x=>⟨λv h=>.inl h,λh=>h.elim id λ⟨_,m,_⟩=>nomatch m⟩
 |p::r,Xu,x=>by
  obtain⟨f,a⟩:=wq r (fE Xu p.1 p.2.1 p.2.2) x;have g:=u7 Xu p.1 x p.2.1 p.2.2;refine⟨λv h=>?_,λh=>a ?_⟩
  ·obtain h|⟨q,i,e⟩:=f v h
   ·grind
   ·grind
  ·grind
theorem vO{P:Xi}{w:Xj}{H:Hp}{d:Xg}:∀(ps Xu:Xm (Pl×V×V)),(Xu.map (·.1)).Nodup->(∀e∈Xu,iG H e.1 e.2.1)->(∀e∈ps,iG H e.1 e.2.1)->((eD Xu ps).map (·.1)).Nodup/\(∀e∈eD Xu ps,iG H e.1 e.2.1)/\(eD Xu ps).length<=Xu.length+ps.length
 |[],Xu,nd,h,_=>⟨nd,h,QJ _⟩
 |p::r,Xu,nd,h,hp=>by
  obtain⟨l,j,m⟩:=vO (P:=P) (w:=w) (d:=d) r (fE Xu p.1 p.2.1 p.2.2) (Et nd) (λe f=>by
   obtain ⟨q,i,a,g⟩|⟨a,g⟩:=zo f
   ·rw[a,g]
    exact h q i
   ·rw[a,g]
    exact hp p<|.head _) λe f=>hp e<|.tail _ f
  have:=l5 Xu p.1 p.2.1 p.2.2;exact⟨l,j,by rw[Rz];show(eD (fE Xu p.1 p.2.1 p.2.2) r).length<=_;lia⟩
theorem Ax{H:Hp}:∀{us:Xm V}{ls:Xm (Pl×Pl)},Lz vf H us ls->∃Xu:Xm (Pl×V×V),us.length=Xu.length/\(∀(i:Nat) x f,us[i]? =some x->Xu[i]? =some f->∃a,x=.ref a/\H a=some (.tup [f.2.1,f.2.2])/\iG H f.1 f.2.1)/\(∀f∈Xu,∃l∈ls,l.1=f.1/\iG H l.2 f.2.2)/\∀l∈ls,∃f∈Xu,f.1=l.1
 |[],[],_=>⟨[],rfl,(λi x f h=>by cases h),(λf h=>nomatch h),λl h=>nomatch h⟩
 |[],_::_,h=>by cases h.1
 |_::_,[],h=>by cases h.1
 |v::us,l::ls,h=>by
  obtain⟨Xu,A,s,C,z⟩:=Ax (us:=us) (ls:=ls) ⟨Ss h.1,λi v d D q=>h.2 (i+1) v d D q⟩;obtain⟨a,y,F,e,E,B,w⟩:=h.2 0 v l rfl rfl;refine⟨(l.1,y,F)::Xu,by rw[Rz,Rz,A],λi x f p g=>?_,λf j=>?_,λo n=>?_⟩
  ·cases i with
   |zero=>
    cases p;cases g;exact⟨a,e,E,B⟩
   |succ i=>exact s i x f p g
  ·obtain rfl|j:=Rf.mp j
   ·exact⟨l,.head _,rfl,w⟩
   ·obtain⟨o,m,r⟩:=C f j
    exact⟨o,.tail _ m,r⟩
  ·obtain rfl|n:=Rf.mp n
   ·exact⟨_,.head _,rfl⟩
   ·obtain⟨f,m,r⟩:=z o n
    exact⟨f,.tail _ m,r⟩
def Ic(R:Hp->V->δ->Prop)(dl:Xm δ)(mono:∀D v d H H',v≠.ref D->(∀b o,H b=some o->b≠D->H' b=some o)->(∃ys,H D=some (.lst ys))->R H v d->R H' v d)(hz:dl.length<=sizeLine)(X:∀i f,cH H f->i<dl.length->J.go i f)(XQ:∀f,cH H f->J.stop dl.length f)
  (he:∀(i:Nat)(C:St) v d f B (M:VK),dl[i]? =some d->C.length=n->cH H f->J.yld i f v B->(∀y r,cH f r->(∃a,y=.ref a/\f a=none)->R r y d->M y r)->
   g v (C++ee is σ) B λl H4=>(∃s:St,s.length=n/\l=s++ee is σ)/\te l H4 M)
  (S:∀v σ H (N O:St->Hp->Prop),(∀l H',N l H'->O l H')->g v σ H N->g v σ H O)
  (q:∀D ys H',H D=none->cH H H'->H' D=some (.lst ys)->Lz R H' ys dl->Q (.ref D) H'):eJ J n is g wI te σ H Q:=by
 intro D w;refine⟨λi m ys f=>m=dl.length-i/\i<=dl.length/\cH H f/\f D=some (.lst ys)/\Lz R f ys (dl.take i)/\∀y∈ys,y≠.ref D,⟨_,rfl,RF _,cH.upd w,cE,⟨rfl,λi v d h=>by cases h⟩,λy h=>by cases h⟩,?_⟩;rintro i m ys f ⟨rfl,hi,E,x,F,P⟩;refine⟨x,?_⟩;have Z:ys.length<=i:=by
  rw[F.1];grind
 by_cases p:i<dl.length
 ·have I:=QB p
  have T:dl.take (i+1)=dl.take i++[dl[i]]:=by simp_all
  refine .inr ⟨X i f E p,λC v B K y=>S _ _ _ _ _ (λl H' h=>⟨h.1,Oa h.2⟩)<|he i C v dl[i] f B _ I K E y λz r A U W=>⟨A _ _ x,by lia,dl.length-(i+1),by lia,rfl,p,λb o e=>?_,cE,?_,λu G=>?_⟩⟩
  ·rw[cG<|cF e w]
   exact A _ _<|E _ _ e
  ·have up:∀b o,r b=some o->b≠D->upd r D (.lst<|ys++[z]) b=some o:=λb o e n=>by rw[cG n];exact e
   obtain⟨a,rfl,Y⟩:=U;rw[T];refine Lz.snoc ⟨F.1,λj u d G L=>?_⟩ (mono D _ _ _ _ (λe=>by grind) up ⟨_,A _ _ x⟩ W);exact mono D _ _ _ _ (P u<|QH G) (λb o e n=>up b o (A _ _ e) n) ⟨_,x⟩<|F.2 j u d G L
  ·grind
 ·grind
def Kp(H:Hp)(v:V)(f:Xm TK):Prop:=∃a e,v=.ref a/\H a=some (.lst e)/\dW H e f
structure Ex(F:FH)(qd:Xm QD)(ot:Xm TK)(z:Xn)(h:Int)(XD:Xm (Xm TK)):Prop where
 line:∀sm∈XD,pB F qd ot sm z h=true
 inn:∀sm∈XD,∀t∈sm,t∈ot
 nd:(XD.flatMap λsm=>sm.map (·.1)).Nodup
inductive Qm(C:Xg)(vs:Xm V)(H:Hp)(Q:VK):Prop
 |mk(x p s t y:Xg)(ps:Xm Xn)(ss g ys:Xm V)(f:Xm GD)(a:Xm QD)(sd:Xm SD)(z:Xn)(h:Int)(e:vs=[.ref x,.str z,.int h])(bk:Bk C H x p s t y ps ss g ys)(A:ps.length<=24)(sl:ss.length<=24)(m:g.length<=120)(r:Lz dI H ss f)(q:∀d∈f,d.1∈ps)(v:Lz dz H g a)(n:∀d∈a,lV ps d)(o:Sys H ys sd)(l:ys.length<=60)
   (w:∀j,dB (f.filter (cS sd)) z=some j->h<j)
   (k:∀(l:Xg)(us:Xm V)(i:Xm (Xm TK))(H':Hp),cH H H'->H l=none->H' l=some (.lst us)->Lz Kp H' us i->Ex (dB (f.filter (cS sd))) a ((fD 0 (fA a)).filter (c4 a sd)) z h i->Ec a (dB (f.filter (cS sd))) z (nZ a sd h) a.length i.length->Q (.ref l) H')
def NI(C:Xg):Sp:=λa H Q _=>Qm C a H Q
def LS:(u,v)∈L.filter (λl=>decide<|0<R l.2 l.1)↔rD L (FL.fl R) u v:=by
 rw[QV];exact⟨λh=>⟨h.1,QO h.2⟩,λh=>⟨h.1,dT0 h.2⟩⟩
def oN(a:∀d∈qd,lV ps d)(m:t∈nZ qd sd h):t.1<qd.length:=by
 obtain⟨q,e,_⟩:=pP a (QV.mp (QV.mp m).1).1;grind
def Ng(F:FH)(g:Xm QD)(e:Xm TK)(z:Xn)(h:Int)(U:Pl->Pl->Prop)(l:Pl×Pl)(a:Xm TK):Prop:=∃k f,l.2=dX k/\Way U k f/\pB F g e a z h=true/\(∀t∈a,t.1∈f/\t∈e)/\(a.map (·.1)).Nodup
theorem vo{H:Xm QD}{F Y:FH}{z:Xn}{R ot:Xm TK}{L:Xm (Pl×Pl)}{f:Pl×Pl->Int}{n h:Int}(T:kD H F z R L)(W:FL.Flow L eY f sP eP n):∀{ls:Xm (Pl×Pl)}{v:Xm (Xm TK)},ls.Nodup->(∀l∈ls,l.1=sP/\rD L f l.1 l.2)->ls.length=v.length->(∀(i:Nat) l o,ls[i]? =some l->v[i]? =some o->Ng Y H ot z h (rD L f) l o)->(v.flatMap λo=>o.map (·.1)).Nodup
 |[],[],_,_,_,_=>Uz
 |[],_::_,_,_,e,_=>by cases e
 |_::_,[],_,_,e,_=>by cases e
 |l::ls,o::v,nd,hl,e,ho=>by
  obtain⟨n1,n2⟩:=Sw.mp nd;have ih:=vo T W n2 (λg m=>hl g<|.tail _ m) (Ss e) λi g y h1 A=>ho (i+1) g y h1 A;obtain⟨k,ks,N,w,_,A,h3⟩:=ho 0 l o rfl rfl;rw[V2];refine VJ.mpr ⟨h3,ih,λa ha b X eq=>?_⟩;subst eq;obtain⟨y,Q,ma⟩:=VS.mp X;obtain⟨i,M⟩:=QZ Q;obtain⟨g,s⟩:∃g,ls[i]? =some g:=⟨_,QB (by have:=(gI0.mp M).1;have e':ls.length=v.length:=Ss e;lia)⟩;obtain⟨k',U,x,S,_,D,_⟩:=ho (i+1) g y s M;obtain⟨t,mt,C⟩:=Rk.mp ha;obtain⟨G,B,j⟩:=Rk.mp ma;obtain⟨p,J⟩:=QZ (A t mt).1;obtain⟨q,I⟩:=QZ (D G B).1;have r:=QH s;obtain⟨O,P⟩:=hl l<|.head _;obtain⟨E,K⟩:=hl g<|.tail _ r;rw[O,N]at P;rw[E,x]at K;have C:t.1=a:=C;have j:G.1=a:=j;rw[C]at J;rw[j]at I;have Z:=Bm T W w S P K p q a J I;have:g=l:=V7 (E.trans O.symm) (by rw[N,x,Z]);exact n1 (by rw[<-this];exact r)
theorem zX{α β:Type}{A:Hp->V->β->Prop}{O:α->β->Prop}{H:Hp}:∀{us:Xm V}{ls:Xm α},Lz (λH v l=>∃b,A H v b/\O l b) H us ls->∃bs:Xm β,Lz A H us bs/\ls.length=bs.length/\∀(i:Nat) l b,ls[i]? =some l->bs[i]? =some b->O l b
 |[],[],_=>⟨[],⟨rfl,λi v d h=>by cases h⟩,rfl,λi l b h=>by cases h⟩
 |[],_::_,h=>by cases h.1
 |_::_,[],h=>by cases h.1
 |v::us,l::ls,h=>by
  obtain⟨bs,f,m,o⟩:=zX (us:=us) (ls:=ls) ⟨Ss h.1,λi v d p a=>h.2 (i+1) v d p a⟩;obtain⟨b,q,r⟩:=h.2 0 v l rfl rfl;refine⟨b::bs,⟨by rw[Rz,Rz,f.1],λi u d j a=>?_⟩,by rw[Rz,Rz,m],λi s n e g=>?_⟩
  ·cases i with
   |zero=>
    cases j;cases a;exact q
   |succ i=>exact f.2 i u d j a
  ·cases i with
   |zero=>
    cases e;cases g;exact r
   |succ i=>exact o i s n e g
def pC:cK ["book","person","hour","used","following","firsts","entries"] ["book","person","hour"] (cI hJ):={}
def MR (D:Df K mg "apart_lines" hJ ["book","person","hour"] f fd) (T:Txt K mg kw C) (be:Gd P w K mg base 7 "talk_flow" (JY P w C)) (b1:Gd P w K mg base 5 "open_entries" (Nk C)) (bi:Gd P w K mg base 1 "talks_behind" (Ka P w)) (cp:Gd P w K mg base 5 "line_over" Oe):Gd P w K mg base 8 "apart_lines" (NI C):=by
 refine aG D pC λX H vs Q E A h=>?_;obtain⟨x,p,s,t,y,ps,ss,ts,ys,sg,F,sd,z,h,rfl,bk,pl,sl,as,gs,gp,qs,qk,sy,XO,nz,k⟩:=h;obtain⟨rfl,rfl⟩:=And.intro A.pr A.wd;have ch:=A.ci cp;have cf:=A.ci bi;have b0:=jc A.room;have XH:sizeLine=16777216:=Q0;obtain⟨S0,S1,S2,S3,S4,S5,S6,_⟩:=A.fg [0,1,2,3,4,5,6];refine⟨_,(af (au S3 A.nd<|ai aE (ak (A.c be)<|aP (aa S0) (aa S1)<|aa S2) ae ah)
 (af (au S4 A.nd<|bo (A.b T.b_dict) (J.vj A.room A.calm) uu<|aj<|aa S3)
 (af (bY (is:=[]) (xs:=["one","other"]) (ns:=[]) S5 A.nd A.calm (aQ<|aa S3) {} (λ_ _ _ _ _=>J.uV (n:=2) A.calm<|aT (a6 (i:=0))<|aT (a6 (i:=1)) bH) (λ_ _ _ _ _=>bC<|aF (J.vb<|UE (TY _ 3) b0) (aM (i:=0)) ao<|cM _) (λ_ _ _ _ _=>aM (i:=1)) A.hsc A.hN (by decide+kernel))
 (af (au S6 A.nd<|ak (A.c b1)<|aj<|aa S0)
 (ag<|aw<|bB (is:=[1,4,6]) (xs:=["place"]) (ns:=["person","following","entries"]) A.calm (aQ<|aa S5) {} (λ_ _ _ _ _=>a6 (i:=0)) (λ_ _ _ _ _=>bU) (λ_ _ _ _ _=>ak (ch.lg rfl)<|aP (aS (i:=3)) (ak (cf.lg rfl)<|aB (aS (i:=2))<|aM (i:=0))<|aS (i:=1)) A.hsc A.hN))))),?_⟩
 refine⟨_,rfl,_,rfl,_,rfl,x,p,s,t,y,ps,ss,ts,ys,sg,F,sd,z,h,rfl,bk,pl,sl,as,gs,gp,qs,qk,sy,XO,nz,λtp ul cm us Xu L R n H1 s1 b4 bc an cd nt rm W G lL=>?_⟩;refine(xT b4 rfl ?_);obtain⟨m,l2,t2,f2,b2⟩:=Ax an;have cx:us.length<=100000:=by
  rw[an.1];exact Rn (RB _ _) lL
 refine⟨_,rfl,ul,us,m,rfl,cN.of bc,l2,t2,λZ ca ax=>?_⟩;have s2:=cH.upd (o:=.ext<|Dφ (eT X.prog X.w) Z<|eD [] m) ca;have a9:upd H1 Z (.ext<|Dφ (eT X.prog X.w) Z<|eD [] m) Z=some (.ext<|Dφ (eT X.prog X.w) Z<|eD [] m):=cE;generalize upd H1 Z (.ext<|Dφ (eT X.prog X.w) Z<|eD [] m)=H2 at s2 a9;obtain⟨m1,m2,m3⟩:=vO (P:=X.prog) (w:=X.w) (H:=H2) (d:=Z) m [] Uz (λe he=>nomatch he) λe he=>by
  obtain⟨i,U⟩:=QZ he;obtain⟨v,hv⟩:∃v,us[i]? =some v:=⟨_,QB<|by rw[l2];exact(gI0.mp U).1⟩;obtain⟨a,_,_,r⟩:=t2 i v e hv U;exact r.mono<|Tk.of s2
 have bd:DD (eT X.prog X.w) H2 Z (eD [] m):=⟨.inl a9,m2,m1,ax,by
  have z:([]:Xm (Pl×V×V)).length=0:=rfl;lia⟩
 have fw:∀u v,rD L (FL.fl R) u v->u≠sP->∃y,jF (eD [] m) u=some y/\iG H2 v y:=λu v S ns=>by
  obtain⟨kv,mk,ek⟩:=b2 _<|LS.mpr S;have ek:kv.1=u:=ek;obtain⟨v1,v2⟩:=wq m [] u;cases hv:jF (eD [] m) u with
  |none=>
   have:=v2<|.inr ⟨kv,mk,ek⟩;rw[hv]at this;cases this
  |some y=>
   obtain h0|⟨q,mq,e1,e2⟩:=v1 y hv
   ·cases h0
   ·obtain⟨⟨a,b⟩,ml,e3,pr⟩:=f2 q mq
    have e3:a=q.1:=e3;have ea:a=u:=e3.trans e1;subst ea;have X6:=LS.mp ml;rw[e2]at pr;have eb:b=v:=by
     obtain ⟨t,mt,B,e5⟩|⟨t,mt,s,B,e5⟩|⟨t,mt,q,B,e5⟩|⟨t,mt,t',m',l,B,e5⟩:=(G.mem _ _).mp S.1
     ·have hb:=X6.1
      rw[B]at hb;rw[((G.mem _ _).mp hb).pD.1,e5]
     ·exact absurd B ns
     ·rw[B]at S X6
      exact G.zI W X6.1 S.1 X6.2 S.2
     ·rw[B]at S X6
      exact G.zI W X6.1 S.1 X6.2 S.2
    rw[<-eb];exact⟨y,rfl,pr.mono<|Tk.of s2⟩
 have O:=s2 _ _ bc;have al:=an.mono λ_ _ h=>vf.mono (Tk.of s2) h;have cg:=s1.trans s2;generalize eD [] m=a4 at bd fw;have mU:∀l∈L.filter λl=>decide<|0<R l.2 l.1,rD L (FL.fl R) l.1 l.2:=λl I=>LS.mp I;have a3:(L.filter λl=>decide<|0<R l.2 l.1).Nodup:=SM Th G.nd;have am:=G.Kk W;have am:(((L.filter λl=>decide<|0<R l.2 l.1).filter λl=>decide<|l.1=sP).length:Int)=n:=am;have a0:(L.filter λl=>decide<|0<R l.2 l.1).length<=100000:=Rn (RB _ _) lL;generalize L.filter (λl=>decide<|0<R l.2 l.1)=ls at al mU a3 am a0;refine⟨_,rfl,ul,rfl,⟨_,cN.of O⟩,jb (λH v (l:Pl×Pl)=>iG H l.2 v) ls (λl=>decide<|l.1=sP) (λv d _ _ t h=>h.mono t) (by lia) (λi H3 s3 U=>⟨us,us[i]'(by rw[al.1];exact U),cN.of<|s3 _ _ O,QB _⟩) (λH3 s3=>⟨us,cN.of<|s3 _ _ O,SS al.1⟩) ?_ ?_⟩
 ·intro i os v l H3 H4 K1 K2 I ar s3 y k1 k2
  obtain⟨e3,y⟩:=y;subst e3;have hv:=y us<|cN.of<|s3 _ _ O;obtain⟨o1,o2,rfl⟩:=Oi ar;obtain⟨a,y1,y2,rfl,ha,p1,p2⟩:=vf.mono (Tk.of s3)<|al.2 i v l hv I;refine⟨a,_,rfl,fh.of ha,rfl,_,_,rfl,_,_,rfl,rfl,⟨[some y1,some y2],rfl,rfl⟩,⟨_,rfl,?_⟩⟩;have lk:=(G.mem _ _).mp (mU l<|QH I).1;obtain ⟨t,mt,B,e5⟩|⟨t,mt,s,B,e5⟩|⟨t,mt,q,B,e5⟩|⟨t,mt,t',m',l,B,e5⟩:=lk
  ·rw[B]at p1
   obtain⟨b,eb,hb⟩:=p1;exact .tup _ _ _ eb hb rfl ⟨_,rfl,dH<|k2 (QM λe=>fB<|B.symm.trans e) _<|cH.refl _⟩
  ·rw[B]at p1
   exact .txt _ _ p1 rfl ⟨_,rfl,fH (dT0 rfl) ⟨_,rfl,k1 (dT0 B) _ _ (cH.refl _) p2⟩⟩
  ·rw[B]at p1
   obtain⟨b,eb,hb⟩:=p1;exact .tup _ _ _ eb hb rfl ⟨_,rfl,dH<|k2 (QM λe=>eL<|B.symm.trans e) _<|cH.refl _⟩
  ·rw[B]at p1
   obtain⟨b,eb,hb⟩:=p1;exact .tup _ _ _ eb hb rfl ⟨_,rfl,dH<|k2 (QM λe=>eL<|B.symm.trans e) _<|cH.refl _⟩
 intro fi fv H3 cr s3 cc bb;have ab:=cg.trans s3;have mF:∀l∈ls.filter λl=>decide<|l.1=sP,l.1=sP/\rD L (FL.fl R) l.1 l.2:=λl I=>⟨QO (QV.mp I).2,mU l (QV.mp I).1⟩;have a1:(ls.filter λl=>decide<|l.1=sP).Nodup:=SM Th a3;have co:(ls.filter λl=>decide<|l.1=sP).length<=100000:=Rn (RB _ _) a0;generalize ls.filter (λl=>decide<|l.1=sP)=ad at bb mF a1 co am;refine⟨_,rfl,x,p,s,t,y,ps,ss,ts,ys,sg,F,sd,rfl,bk.mono ab,pl,sl,as,gs.mono<|dI.mono<|Tk.of ab,gp,qs.mono<|dz.mono<|Tk.of ab,qk,sy.mono<|Tk.of ab,XO,λen ev H4 s4 cs cn bf ck=>?_⟩;have a2:=ab.trans s4;have M:=s4 _ _ cc;have av:Lz (λH v (l:Pl×Pl)=>iG H l.2 v) H4 fv ad:=bb.mono λ_ _ h=>h.mono<|Tk.of s4;have bn:=(bd.same s3).same s4;have bx:∀u v,rD L (FL.fl R) u v->u≠sP->∃y,jF a4 u=some y/\iG H4 v y:=λu v S ns=>let ⟨y,h1,h2⟩:=fw u v S ns;⟨y,h1,h2.mono<|Tk.of<|s3.trans s4⟩;have ac:∀t∈nZ F sd h,t∈(fD 0<|fA F).filter (c4 F sd)/\cJ F t.1<=h:=λt ht=>⟨(QV.mp ht).1,QO (QV.mp ht).2⟩;refine⟨_,rfl,fi,rfl,⟨_,cN.of M⟩,Ic (λH v l=>∃sm,Kp H v sm/\Ng (dB<|sg.filter<|cS sd) F ((fD 0<|fA F).filter<|c4 F sd) z h (rD L<|FL.fl R) l sm) ad (λD v d Ha Hb nv up hD ⟨sm,⟨a,xs,ea,ha,tu⟩,o⟩=>⟨sm,⟨a,xs,ea,up a _ ha λe=>nv<|by rw[ea,e],tu.mono λb zs e=>up b _ e λq=>by
  obtain⟨yy,hy⟩:=hD;rw[q,hy]at e;cases e⟩,o⟩) (by lia) (λi H5 Y U=>⟨fv,fv[i]'(by rw[av.1];exact U),cN.of<|Y _ _ M,QB _⟩) (λH5 Y=>⟨fv,cN.of<|Y _ _ M,SS av.1⟩) ?_ (λ_ _ _ _ _ h k=>h _ _ k) ?_⟩
 ·intro i os v l H5 H6 K1 I ar Y yl k1
  obtain⟨e5,yl⟩:=yl;subst e5;have hv:=yl fv<|cN.of<|Y _ _ M;obtain⟨o1,rfl⟩:=Ff ar;have pv:=(av.2 i v l hv I).mono<|Tk.of Y;obtain⟨f1,f2⟩:=mF l<|QH I;obtain⟨a,b⟩:=l;have f1:a=sP:=f1;subst f1;have f2:rD L (FL.fl R) sP b:=f2;obtain⟨t0,ct,_,eb⟩:=((G.mem _ _).mp f2.1).O7;have eb:b=dX t0.1:=eb;subst eb;obtain⟨g1,g2⟩:=G.into W f2.1;obtain⟨ks,wy⟩:=J9 G W _ t0.1 (QJ _) ⟨g1,by have:=f2.2;lia⟩;obtain⟨r1,r2⟩:=wy.rise G;have c0:F.length<=120:=by rw[<-qs.1];exact as
  have kl:ks.length<=1000:=by
   have:=iW (ys:=List.range F.length) r2 λj hj=>by
    obtain⟨⟨t,mt,et⟩,_⟩:=r1 j hj;rw[<-et];exact Sk.mpr<|oN qk mt
   rw[Sy]at this;lia
  refine⟨⟨[some v],rfl,rfl⟩,⟨_,rfl,_,rfl,_,rfl,Z,a4,t0.1,v,ks,rD L<|FL.fl R,rfl,pv,bn.same Y,λu v' S ns=>let ⟨y,h1,h2⟩:=bx u v' S ns;⟨y,h1,h2.mono<|Tk.of Y⟩,wy,kl,λtk H7 s7 c1 X4=>?_⟩⟩;refine⟨_,rfl,en,tk,ev,IC sg F sd,ks,z,h,F,(fD 0<|fA F).filter<|c4 F sd,dB<|sg.filter<|cS sd,rfl,s7 _ _<|Y _ _ cn,bf.mono λ_ _ h=>kU.mono (Tk.of<|Y.trans s7) _ _ h,ck,X4,kl,λFk Z=>Hv G Z ac wy f2,λd hd i e=>?_,λd hd k te e=>Hz hd e,nz,λrl X6 sm H8 s8 ap aq tu lb bv b3=>k1 _ _ (s7.trans s8) ⟨rl,rfl,s7.free ap⟩ ⟨sm,⟨rl,X6,rfl,aq,tu⟩,t0.1,ks,rfl,wy,lb,bv,b3⟩⟩;obtain⟨g,mg,e1,e2⟩:=FA hd e;obtain⟨j,j1,j2⟩:=(nJ (sg.filter<|cS sd) λ_=>none).2.2 g mg;rw[e1,e2];exact⟨j,j1,j2⟩
 ·intro rl rv H5 ap Y aq ce
  obtain⟨XD,bm,le,ho⟩:=zX ce;have ay:=G.cut (N:=F.length) W rm cd.dd.nd cd.st nt cd.cl (λt ht=>oN qk ht) λx hx=>by
   obtain⟨e,he,rfl⟩:=Rk.mp hx;exact cd.sub e he
  obtain⟨C1,C2⟩:=ay;refine k rl rv XD H5 (a2.trans Y) (a2.free ap) aq bm ⟨λsm hm=>?_,λsm hm t ht=>?_,vo G W a1 mF le ho⟩ ⟨⟨L,FL.fl R,G,?_⟩,Xu.map (·.1),C1,?_⟩
  ·obtain⟨i,U⟩:=QZ hm
   obtain⟨l,I⟩:∃l,ad[i]? =some l:=⟨_,QB<|by rw[le];exact(gI0.mp U).1⟩;obtain⟨_,_,_,_,h1,_⟩:=ho i l sm I U;exact h1
  ·obtain⟨i,U⟩:=QZ hm
   obtain⟨l,I⟩:∃l,ad[i]? =some l:=⟨_,QB<|by rw[le];exact(gI0.mp U).1⟩;obtain⟨_,_,_,_,_,h2,_⟩:=ho i l sm I U;exact(h2 t ht).2
  ·have:n=(XD.length:Int):=by lia
   rw[<-this];exact W
  ·exact Int.ofNat.inj (C2.symm.trans (by lia:n=(XD.length:Int)))
inductive Qt(C:Xg)(vs:Xm V)(H:Hp)(Q:VK):Prop
 |mk(x p s t y:Xg)(ps:Xm Xn)(ss g ys:Xm V)(f:Xm GD)(a:Xm QD)(sd:Xm SD)(z:Xn)(h:Int)(e:vs=[.ref x,.str z,.int h])(bk:Bk C H x p s t y ps ss g ys)(w:ps.length<=24)(sl:ss.length<=24)(i:g.length<=120)(q:Lz dI H ss f)(o:∀d∈f,d.1∈ps)(r:Lz dz H g a)(m:∀d∈a,lV ps d)(n:Sys H ys sd)(l:ys.length<=60)
   (v:∀j,dB (f.filter (cS sd)) z=some j->h<j)
   (k:∀(l:Xg)(S:Xm Pl)(H':Hp),cH H H'->H l=none->H' l=some (.lst (nums (gY S a.length)))->qR a (dB (f.filter (cS sd))) z (nZ a sd h) S->Ec a (dB (f.filter (cS sd))) z (nZ a sd h) a.length (gY S a.length).length->Q (.ref l) H')
def MS(C:Xg):Sp:=λa H Q _=>Qt C a H Q
def vF:cK ["book","person","hour","reached"] ["book","person","hour"] (cI k8):={}
def NJ (D:Df K mg "talk_cut" k8 ["book","person","hour"] f fd) (T:Txt K mg kw C) (ad:Gd P w K mg base 7 "talk_flow" (JY P w C)) (al:Md P w K mg base 1 C "talks" (dC C λ_ _ t _=>t)):Gd P w K mg base 8 "talk_cut" (MS C):=by
 refine aG D vF λX H vs Q E a h=>?_;obtain⟨x,p,s,t,y,ps,ss,j,ys,sg,qd,sd,z,h,rfl,bk,pl,sl,ar,gs,gp,qs,qk,sy,XO,nz,k⟩:=h;obtain⟨rfl,rfl⟩:=And.intro a.pr a.wd;have ax:=a.met al (by decide);have F:=jc a.room;have XH:sizeLine=16777216:=Q0;obtain⟨S0,S1,S2,S3,_⟩:=a.fg [0,1,2,3];refine⟨_,(af (au S3 a.nd<|ai aE (ak (a.c ad)<|aP (aa S0) (aa S1)<|aa S2) ae ah)
 (ag<|aw<|bB (is:=[3]) (xs:=["k"]) (ns:=["reached"]) a.calm (b8 (a.b T.b_range)<|aj<|aJ (a.b T.b_len) aY di<|aj<|bE ax (aa S0) rfl) {} (λ_ _ _ _ _=>a6 (i:=0)) (λ_ _ _ _ _=>bC<|a7<|bg (J.Fd F (aL<|aB ao<|aM (i:=0))<|aS (i:=1))<|bq<|J.oh F (aL<|aB ao<|aM (i:=0))<|aS (i:=1)) (λ_ _ _ _ _=>aM (i:=0)) a.hsc a.hN)),?_⟩
 refine⟨_,rfl,_,rfl,_,rfl,x,p,s,t,y,ps,ss,j,ys,sg,qd,sd,z,h,rfl,bk,pl,sl,ar,gs,gp,qs,qk,sy,XO,nz,λtp ul cm us r L R n H1 s1 aq a0 ay I nt rm W TL lL=>?_⟩;refine(xT aq rfl ?_);obtain⟨⟨dx,M⟩,hp,hs,ht,hy⟩:=bk.mono s1;refine⟨_,rfl,x,dx,_,rfl,M,fZ _ _ _ _ (by decide+kernel) (by decide+kernel) (by decide+kernel)<|by decide+kernel,x,p,s,t,y,j,rfl,⟨dx,M⟩,ht,λO ac=>?_⟩;have s2:=cH.upd (o:=.lst j) ac;have A:upd H1 O (.lst j) O=some (.lst j):=cE;generalize upd H1 O (.lst j)=H2 at s2 A;have G:=I.mono s2;have ap:j.length=qd.length:=qs.1;refine⟨O,_,rfl,.inl<|cN.of A,_,rfl,by lia,by lia,rE (lo:=0) (N:=j.length) (λk=>decide<|dX k∈r.map (·.1)/\eO k ∉ r.map (·.1)) (λi=>V.int (i:Nat)) (by lia) ?_ ?_⟩
 ·intro i os S K1 K2 hi an U k1 k2
  obtain⟨o1,rfl⟩:=Ff an;rw[VL];have g:∀{H4:Hp}{u:Pl},(jg r u).isSome=true↔u∈r.map (·.1):=λ{H4 u}=>by
   rw[<-iL];unfold jF;rw[TZ]
  refine⟨⟨[_],rfl,rfl⟩,⟨_,rfl,sZ,λq nq=>?_⟩⟩;have v:=cH.upd (o:=.tup [.str "into",.int (i:Nat)]) nq;have hq:upd S q (.tup [.str "into",.int (i:Nat)]) q=some (.tup [.str "into",.int (i:Nat)]):=cE;generalize upd S q (.tup [.str "into",.int (i:Nat)])=H4 at v hq;refine⟨_,rfl,cm,r,dX i,rfl,(G.mono<|U.trans v).dd,⟨q,rfl,hq⟩,_,rfl,dF (λam=>?_) λno=>?_⟩
  ·refine⟨_,rfl,sZ,λY ab=>?_⟩
   have Z:=cH.upd (o:=.tup [.str "out",.int (i:Nat)]) ab;have B:upd H4 Y (.tup [.str "out",.int (i:Nat)]) Y=some (.tup [.str "out",.int (i:Nat)]):=cE;generalize upd H4 Y (.tup [.str "out",.int (i:Nat)])=H5 at Z B;refine⟨_,rfl,cm,r,eO i,rfl,(G.mono<|(U.trans v).trans Z).dd,⟨Y,rfl,B⟩,_,rfl,dF (λm=>?_) λas=>?_⟩
   ·refine⟨_,rfl,k1 (dT0 ⟨(g (H4:=H4)).mp am,λz=>?_⟩) _<|v.trans Z⟩
    rw[(g (H4:=H4)).mpr z]at m;cases m
   ·refine k2 (QM λz=>as ?_) _ (v.trans Z)
    rw[RA.mpr λw=>z.2<|(g (H4:=H4)).mp w];rfl
  ·exact dH<|k2 (QM λz=>no<|(g (H4:=H4)).mpr z.1) _ v
 ·intro l S nl U hl
  have av:=(s1.trans s2).trans U;rw[ap]at hl;obtain⟨C1,C2⟩:=TL.cut (N:=qd.length) W rm I.dd.nd I.st nt I.cl (λt ht=>oN qk ht) λx M=>by
   obtain⟨e,he,rfl⟩:=Rk.mp M;exact I.sub e he
  refine k l (r.map λe:Pl×V×V=>e.1) S av ((s1.trans s2).free nl) hl C1 ⟨⟨L,FL.fl R,TL,?_⟩,_,C1,rfl⟩;rw[<-C2];exact W
inductive Ct(a:Xm QD)(z:Xn)(h:Int):Xm TK->Prop
 |one (t:TK)(e:t.2.2=z)(l:cJ a t.1<=h):Ct a z h [t]
 |more (t u:TK)(r:Xm TK)(l:eN a t u=true)(c:Ct a z h (u::r)):Ct a z h (t::u::r)
section
variable {qd:Xm QD}{F:FH}{z:Xn}{h:Int}{g:Xm Nat}
def lR{a b:TK}:eN qd a b=true↔a.2.2=b.2.1/\cJ qd a.1<cJ qd b.1:=by
 unfold eN;rw[RZ,Ro,Ro]
theorem DM:∀{a:Xm TK}{b:TK},a.getLast? =some b->(∀k,k+1<a.length->∃x y,a[k]? =some x/\a[k+1]? =some y/\eN qd x y=true)->b.2.2=z->cJ qd b.1<=h->Ct qd z h a
 |[],_,e,_,_,_=>by cases e
 |[t],_,e,_,e1,e2=>by
  cases e;exact .one t e1 e2
 |t::u::r,b,e,c,e1,e2=>by
  obtain⟨x,y,i,g,l⟩:=c 0 (by show 0+1<r.length+1+1;lia);cases i;cases g;refine .more t u r l<|DM (b:=b) ?_ (λk f=>c (k+1)<|Nat.succ_lt_succ f) e1 e2;rw[<-e,Wv]
def wU{n f:Xm TK}(e:pB F qd n f z h=true):∃t r,f=t::r/\eX F t.2.1 (cJ qd t.1)=true/\Ct qd z h (t::r):=by
 unfold pB at e;split at e
 ·rename_i a b g o
  rw[RZ,RZ,RZ,RZ,Ro,Ro]at e;obtain⟨_,j,p,l,m⟩:=e;cases f with
  |nil=>cases g
  |cons t r=>
   obtain rfl:t=a:=Ri g;refine⟨t,r,rfl,j,DM o (λk i=>?_) l m⟩;have c:=Se.mp p k (Sk.mpr<|by lia);rw[QB<|show k<(t::r).length by lia,QB i]at c ⊢;exact⟨_,_,rfl,rfl,c⟩
 ·cases e
theorem zc:∀{r:Xm TK}{t:TK},Ct qd z h (t::r)->∀u∈r,cJ qd t.1<cJ qd u.1
 |[],_,_,u,m=>nomatch m
 |v::r,t,c,u,m=>by
  cases c with
  |more _ _ _ l c=>
   have l:=(lR.mp l).2;obtain rfl|m:=Rf.mp m
   ·exact l
   ·exact Int.lt_trans l<|zc c u m
theorem xD:∀{r:Xm TK}{t:TK},Ct qd z h (t::r)->∀u∈t::r,cJ qd u.1<=h
 |[],t,c,u,m=>by
  cases c with
  |one _ _ l=>rw[QK.mp m];exact l
 |v::r,t,c,u,m=>by
  cases c with
  |more _ _ _ l c=>
   obtain rfl|m:=Rf.mp m
   ·have:=xD c v (.head _)
    have:=(lR.mp l).2;lia
   ·exact xD c u m
theorem rK{S:Xm Pl}{g:Xm TK}(C:qR qd F z g S):∀{r:Xm TK}{t:TK},Ct qd z h (t::r)->(∀u∈t::r,u∈g)->dX t.1∈S->∃u∈t::r,dX u.1∈S/\eO u.1 ∉ S
 |r,t,c,hm,hi=>by
  by_cases o:eO t.1∈S
  ·cases c with
   |one _ e l=>
    obtain⟨k,f,_⟩:=C.Il _ _ (.inr<|.inr<|.inl ⟨t,hm t<|.head _,e,rfl,rfl⟩) o C.e;exact absurd f.symm kJ
   |more _ u r l c=>
    by_cases i:dX u.1∈S
    ·obtain⟨v,a,q⟩:=rK C c (λv a=>hm v<|.tail _ a) i
     exact⟨v,.tail _ a,q⟩
    ·obtain⟨k,f,_⟩:=C.Il _ _ (.inr<|.inr<|.inr ⟨t,hm t<|.head _,u,hm u<|.tail _<|.head _,l,rfl,rfl⟩) o i
     exact absurd f.symm kJ
  ·exact⟨t,.head _,hi,o⟩
def xE{S:Xm Pl}{a:Xm TK}{t:TK}{r:Xm TK}{N:Nat}(C:qR qd F z a S)(j:∀t∈a,t.1<N)(c:Ct qd z h (t::r))(g:eX F t.2.1 (cJ qd t.1)=true)(hm:∀u∈t::r,u∈a):∃u∈t::r,u.1∈gY S N:=by
 have l:dX t.1∈S:=by
  apply RJ;intro i;obtain⟨k,f,_⟩:=C.Il _ _ (.inr<|.inl ⟨t,hm t<|.head _,g,rfl,rfl⟩) C.s i;exact absurd f.symm fB
 obtain⟨u,e,q⟩:=rK C c hm l;exact⟨u,e,QV.mpr ⟨Sk.mpr<|j u<|hm u e,dT0 q⟩⟩
def gC{p:Xn}{b:Int}:eX F p b=true↔∃j,F p=some j/\j<b:=by
 unfold eX;split
 ·rename_i e
  rw[e];exact⟨(λh=>by cases h),λ⟨j,h,_⟩=>by cases h⟩
 ·rename_i j e
  rw[e];exact⟨λh=>⟨j,rfl,QO h⟩,λ⟨k,a,h⟩=>by cases a;exact dT0 h⟩
def step_at(g:GD):∃m,dN F g g.1=some m/\m<=g.2/\(∀j,F g.1=some j->m<=j)/\(m=g.2\/F g.1=some m):=by
 unfold dN;rw[QI rfl];cases e:F g.1 with
 |none=>exact⟨_,rfl,Uw _,(λj h=>by cases h),.inl rfl⟩
 |some j=>
  dsimp only;by_cases l:j<g.2
  ·rw[QI l]
   exact⟨j,rfl,by lia,(λk h=>by cases h;lia),.inr rfl⟩
  ·rw[QG l]
   exact⟨g.2,rfl,by lia,(λk h=>by cases h;lia),.inl rfl⟩
def zW{g:GD}{p:Xn}(n:p≠g.1):dN F g p=F p:=QG n
def Eu{g:GD}{p:Xn}{b:Int}(s:eX F p b=true):eX (dN F g) p b=true:=by
 obtain⟨j,e,l⟩:=gC.mp s;refine gC.mpr ?_;by_cases q:p=g.1
 ·obtain⟨m,a,_,h,_⟩:=step_at (F:=F) g
  have:=h j<|q ▸ e;exact⟨m,q ▸ a,by lia⟩
 ·exact⟨j,(zW q).trans e,l⟩
def GQ{g:GD}{b:Int}(l:g.2<b):eX (dN F g) g.1 b=true:=by
 obtain⟨m,a,h,_⟩:=step_at (F:=F) g;exact gC.mpr ⟨m,a,by lia⟩
def Gs{g:GD}{p:Xn}{b:Int}(s:eX (dN F g) p b=true):eX F p b=true\/p=g.1/\g.2<b:=by
 obtain⟨j,e,l⟩:=gC.mp s;by_cases q:p=g.1
 ·obtain⟨m,a,_,_,h⟩:=step_at (F:=F) g
  rw[q,a]at e;cases e;obtain h|h:=h
  ·exact .inr ⟨q,by lia⟩
  ·exact .inl<|gC.mpr ⟨_,q ▸ h,l⟩
 ·rw[zW q]at e
  exact .inl<|gC.mpr ⟨j,e,l⟩
def fc(a:Xm QD)(g:Xm Nat)(z:Xn)(h:Int):FH->Xm TK->Bool
 |_,[]=>false
 |F,t::r=>if t.1 ∉ g/\eX F t.2.1 (cJ a t.1)=true then(if t.2.2=z/\cJ a t.1<=h then true else fc a g z h (dN F (t.2.2,cJ a t.1)) r) else fc a g z h F r
theorem o8:∀{io:Xm TK}{F:FH}{t:TK}{r:Xm TK},io.Pairwise (λa b=>cJ qd a.1<=cJ qd b.1)->Ct qd z h (t::r)->eX F t.2.1 (cJ qd t.1)=true->(∀u∈t::r,u∈io/\u.1 ∉ g)->fc qd g z h F io=true
 |[],_,t,_,_,_,_,hm=>nomatch (hm t<|.head _).1
 |x::io,F,t,r,pw,c,hs,hm=>by
  obtain⟨p,m⟩:=VN.mp pw;unfold fc;by_cases e:x=t
  ·subst e
   rw[QI ⟨(hm x<|.head _).2,hs⟩];by_cases f:x.2.2=z/\cJ qd x.1<=h
   ·rw[QI f]
   ·rw[QG f]
    have lt:=zc c;cases c with
    |one _ e l=>exact absurd ⟨e,l⟩ f
    |more _ u r l c=>
     obtain⟨y,A⟩:=lR.mp l;refine o8 m c (y ▸ GQ (g:=(x.2.2,cJ qd x.1)) A) λv n=>⟨?_,(hm v<|.tail _ n).2⟩;refine(Rf.mp (hm v<|.tail _ n).1).resolve_left λq=>?_;have:=lt v n;rw[q]at this;lia
  ·have s:t∈io:=(Rf.mp (hm t<|.head _).1).resolve_left (Tf e)
   have i:∀u∈t::r,u∈io/\u.1 ∉ g:=λu j=>⟨(Rf.mp (hm u j).1).resolve_left λq=>by
    obtain w|j:=Rf.mp j
    ·exact e (q ▸ w)
    ·have o:=zc c u j
     have B:=p t s;rw[q]at o;lia,(hm u j).2⟩
   split
   ·split
    ·rfl
    ·exact o8 m c (Eu hs) i
   ·exact o8 m c hs i
theorem mW:∀{io:Xm TK}{F:FH},fc qd g z h F io=true->∃t r,Ct qd z h (t::r)/\eX F t.2.1 (cJ qd t.1)=true/\∀u∈t::r,u∈io/\u.1 ∉ g
 |[],_,e=>by cases e
 |x::io,F,e=>by
  unfold fc at e;split at e
  ·rename_i j
   split at e
   ·rename_i f
    exact⟨x,[],.one x f.1 f.2,j.2,λu a=>by rw[QK.mp a];exact⟨.head _,j.1⟩⟩
   ·obtain⟨t,r,c,l,i⟩:=mW e
    obtain s|⟨n,m⟩:=Gs l
    ·exact⟨t,r,c,s,λu a=>⟨.tail _ (i u a).1,(i u a).2⟩⟩
    ·refine⟨x,t::r,.more x t r (lR.mpr ⟨n.symm,m⟩) c,j.2,λu a=>?_⟩
     obtain rfl|a:=Rf.mp a
     ·exact⟨.head _,j.1⟩
     ·exact⟨.tail _ (i u a).1,(i u a).2⟩
  ·obtain⟨t,r,c,l,i⟩:=mW e
   exact⟨t,r,c,l,λu a=>⟨.tail _ (i u a).1,(i u a).2⟩⟩
end
theorem pJ{α:Type}:∀{l:Xm (Xm α)},(∀x∈l,1<=x.length)->l.length<=l.flatten.length
 |[],_=>QJ _
 |x::l,h=>by
  have f:=pJ λy a=>h y<|.tail _ a;have e:=h x<|.head _;rw[SA,QC,Rz];lia
theorem ones{α:Type}:∀{l:Xm (Xm α)},(∀x∈l,1<=x.length)->l.flatten.length<=l.length->∀x∈l,x.length=1
 |[],_,_,x,m=>nomatch m
 |y::l,h,e,x,m=>by
  rw[SA,QC,Rz]at e;have g:=pJ λy a=>h y<|.tail _ a;have f:=h y<|.head _;obtain rfl|m:=Rf.mp m
  ·lia
  ·exact ones (λy a=>h y<|.tail _ a) (by lia) x m
def Dd{g:Xm (Xm TK)}{cut:Xm Nat}(nd:(g.flatMap λe=>e.map (·.1)).Nodup)(B:cut.Nodup)(le:g.length=cut.length)(ex:∀e∈g,∃t∈e,t.1∈cut):(∀e∈g,(e.filter λt=>decide<|t.1∈cut).length=1)/\∀n∈cut,∃e∈g,∀t∈e,t.1∈cut->t.1=n:=by
 have z:∀e:Xm TK,(e.filter λt=>decide<|t.1∈cut).map (·.1)=(e.map (·.1)).filter λn=>decide (n∈cut):=λe=>by
  rw[VY];rfl
 have fl:(g.map λe=>(e.map (·.1)).filter λn=>decide<|n∈cut).flatten=(g.flatMap λe=>e.map (·.1)).filter λn=>decide (n∈cut):=by
  rw[List.filter_flatMap];rfl
 have j:((g.map λe=>(e.map (·.1)).filter λn=>decide<|n∈cut).flatten).Nodup:=by
  rw[fl];exact SM Th nd
 have l:∀n∈(g.map λe=>(e.map (·.1)).filter λn=>decide<|n∈cut).flatten,n∈cut:=λn m=>by
  rw[fl]at m;exact QO (QV.mp m).2
 have p:∀x∈g.map λe=>(e.map (·.1)).filter λn=>decide<|n∈cut,1<=x.length:=λx m=>by
  obtain⟨e,i,rfl⟩:=Rk.mp m;obtain⟨t,o,q⟩:=ex e i;exact List.length_pos_of_mem<|QV.mpr ⟨UQ o,dT0 q⟩
 have C:=iW j l;have D:(g.map λe=>(e.map (·.1)).filter λn=>decide<|n∈cut).length=g.length:=QF _;have r:=ones p (by lia);refine⟨λe i=>?_,λn y=>?_⟩
 ·rw[<-QF (f:=(·.1)),z]
  exact r _<|UQ i
 ·have v:n∈(g.map λe=>(e.map (·.1)).filter λn=>decide<|n∈cut).flatten:=by
   apply RJ;intro no;have:=iW (xs:=n::_) (ys:=cut) (Sw.mpr ⟨no,j⟩) λx h=>by
    obtain rfl|h:=Rf.mp h
    ·exact y
    ·exact l x h
   have:=pJ p;rw[Rz]at *;lia
  obtain⟨x,h,nx⟩:=List.mem_flatten.mp v;have w:=r x h;obtain⟨e,i,rfl⟩:=Rk.mp h;refine⟨e,i,λt o q=>?_⟩;obtain⟨a,A⟩:=List.length_eq_one_iff.mp w;have s:t.1∈(e.map (·.1)).filter λn=>decide (n∈cut):=QV.mpr ⟨UQ o,dT0 q⟩;rw[A]at s nx;rw[QK.mp s,QK.mp nx]
inductive O2(vs:Xm V)(H:Hp)(Q:VK):Prop
 |mk(i p s t y ol:Xg)(ps:Xm Xn)(ss j ys os:Xm V)(f:Xm QD)(g:Xm TK)(e:vs=[.ref i,.ref ol])(ok:i6 ps H i p s t y ss j ys)(n:Lz dz H j f)(o:H ol=some (.lst os))(to:dW H os g)(q:∀t∈g,t.1<f.length)(m:g.length<=240)
   (k:∀l us h H',cH H H'->H l=none->H' l=some (.lst us)->dW H' us h->h.Pairwise (λa b=>cJ f a.1<=cJ f b.1)->(∀t,t∈h↔t∈g)->h.length<=64*240->Q (.ref l) H')
inductive Mv(h ol:Xg)(H H4:Hp)(g:Xm QD)(l:Xm TK)(ms:Xm Int)(i:Nat)(σ:St)(f:Hp):Prop
 |mk(a:Xg)(us:Xm V)(io:Xm TK)(j:Xk V)(e:σ=[some (.ref h),some (.ref ol),some (.ref a),j])(n:cH H4 f)(q:H a=none)(hf:f a=some (.lst us))(p:dW f us io)(o:io=(ms.take i).flatMap λm=>l.filter λt=>decide (cJ g t.1=m))
theorem uK{α β:Type}{f:α->Xm β}{n:Nat}:∀{l:Xm α}{k:Nat},(∀a∈l,(f a).length<=n)->l.length<=k->(l.flatMap f).length<=k*n
 |[],_,_,_=>RF _
 |a::l,0,_,h=>absurd h<|Vc _
 |a::l,k+1,h,hl=>by
  have i:=uK (f:=f) (λb e=>h b<|.tail _ e)<|WK hl;have g:=h a<|.head _;rw[V2,QC,Nat.succ_mul];lia
def GI{H:Hp}{us ws:Xm V}{j ls:Xm TK}(a:dW H us j)(b:Lz B6 H ws ls):dW H (us++ws) (j++ls):=by
 refine⟨by rw[QC,QC,a.1,b.1],λi u t f g=>?_⟩;by_cases h:i<us.length
 ·rw[QX h]at f
  rw[QX<|by rw[<-a.1];exact h]at g;exact a.2 i u t f g
 ·rw[QQ<|by lia]at f
  rw[QQ<|by rw[<-a.1];lia,<-a.1]at g;obtain⟨c,e,l⟩:=b.2 _ u t f g;exact⟨c,e,l⟩
def back(s:cH H H')(n:H' a=none):H a=none:=by
 cases e:H a with
 |none=>rfl
 |some o=>exact absurd ((s a o e).symm.trans n) (by intro q;cases q)
def DA:Sp:=λa H Q _=>O2 a H Q
def qU:cK ["_law_made_here","_law_open_ones","_law_found","_law_hour"] ["_law_made_here","_law_open_ones"] (cI i8):={}
def KJ (D:Df K mg "_law_in_order" i8 ["_law_made_here","_law_open_ones"] f fd) (T:Txt K mg kw C):Gd P w K mg base 1 "_law_in_order" DA:=by
 refine aG D qU λX H vs Q E g h=>?_;obtain⟨md,p,s,t,y,ol,ps,ss,ts,ys,os,z,ot,rfl,ok,qs,Yd,to,tN,ar,k⟩:=h;have hu:=d5 g.room;have XH:sizeLine=16777216:=Q0;obtain⟨S0,S1,S2,S3,_⟩:=g.fg [0,1,2,3];refine⟨_,(af (au S2 g.nd<|a5 bz)
 (af (aZ g.own g.calm (aQ<|aJ (g.b T.b_sorted) (J.iK g.calm) rp<|aj<|bo (g.b T.b_set) (J.iB g.calm) CD<|aj<|bB (is:=[]) (xs:=["_law_talk"]) (ns:=[]) g.calm (aQ<|aK hu (aa S0) ao ah) {} (λ_ _ _ _ _=>a6 (i:=0)) (λ_ _ _ _ _=>bU) (λ_ _ _ _ _=>ai bp (aM (i:=0)) ae ah) g.hsc g.hN) (aN S3 g.nd)
 (ag<|au S2 g.nd<|aD cA (aa S2)<|bB (is:=[0,3]) (xs:=["_law_one"]) (ns:=["_law_made_here","_law_hour"]) g.calm (aQ<|aa S1) {} (λ_ _ _ _ _=>a6 (i:=0)) (λ_ _ _ _ _=>bC<|aF aO (ai bp (ai cD (aK hu (aS (i:=1)) ao ah) (ai bp (aM (i:=0)) ae ah) cv) ae ah) (aS (i:=2))<|cM _) (λ_ _ _ _ _=>aM (i:=0)) g.hsc g.hN))
 (ag<|aw<|aa S2))),?_⟩
 refine⟨Hd,λfo av=>?_⟩;have s1:=cH.upd (o:=.lst []) av;have am:upd H fo (.lst []) fo=some (.lst []):=cE;generalize upd H fo (.lst [])=H1 at s1 am;have A:=ok.mono s1;have bn:=qs.mono<|dz.mono<|Tk.of s1;have tl:=ok.lt;have bd:=qs.1;refine⟨_,rfl,md,_,rfl,A.dt,t,rfl,⟨_,cN.of A.ht⟩,jb (λ_ v (q:QD)=>v=V.int q.1) z (λ_=>true) (λv d _ _ t h=>h) (by lia) (λj H2 G hj=>⟨ts,ts[j]'(by lia),cN.of<|G _ _ A.ht,QB _⟩) (λH2 G=>⟨ts,cN.of<|G _ _ A.ht,SS bd⟩) ?_ ?_⟩
 ·intro j ay v d H2 H3 K1 K2 hd M G L k1 k2
  obtain⟨S,L⟩:=L;subst S;have R:=L ts<|cN.of<|G _ _ A.ht;obtain⟨o1,rfl⟩:=Ff M;obtain⟨b,rfl,W⟩:=bn.2 _ _ _ R hd;exact⟨⟨[_],rfl,rfl⟩,⟨_,rfl,xT (G _ _ W) rfl<|k1 rfl _ _ (cH.refl _) rfl⟩⟩
 intro nb bi H2 b2 G bc a0;have ye:=xU a0;rw[Vj.mpr λ_ _=>rfl]at ye;have ye:bi=(z.map (·.1)).map V.int:=by rw[ye,Tc];rfl
 subst ye;refine⟨nb,_,rfl,cN.of bc,by rw[QF];lia,λO a2=>⟨O,_,rfl,cE,λU I a1 pw mem len=>?_⟩⟩;have s3:=(G.trans<|cH.upd (o:=yZ X.prog X.w O<|z.map (·.1)) a2).trans<|cH.upd (o:=.lst<|I.map V.int) a1;have N:upd (upd H2 O<|yZ X.prog X.w O<|z.map (·.1)) U (.lst<|I.map V.int) U=some (.lst<|I.map V.int):=cE;generalize upd (upd H2 O<|yZ X.prog X.w O<|z.map (·.1)) U (.lst<|I.map V.int)=H4 at s3 N;have n:=s1.trans s3;have bb:=ok.mono n;have a9:=qs.mono<|dz.mono<|Tk.of n;have ac:=n _ _ Yd;have bf:=to.mono<|Tk.of n;have ml:I.length<=64:=by rw[QF]at len;lia
 refine⟨U,rfl,⟨_,cN.of N⟩,c6 (K:=X.K) (a:=U) (xs:=I.map V.int) (Mv md ol H H4 z ot I) ⟨fo,[],[],none,rfl,cH.refl _,av,s3 _ _ am,⟨rfl,λi u t h=>by cases h⟩,rfl⟩ ?_ ?_ ?_⟩
 ·rintro i σ H5 hi ⟨fa,us,io,S,rfl,B,nf,hf,tu,F⟩
  exact cN.of<|B _ _ N
 ·rintro i v σ H5 R ⟨fa,us,io,S,rfl,B,nf,hf,tu,F⟩
  rw[QR]at R;obtain⟨m,hm,rfl⟩:=Rt.mp R;have l:=B _ _ ac;have be:=bf.mono<|Tk.of B;have b3:io.length<=64*240:=by
   rw[F];exact uK (λm _=>Rn (RB _ _) ar) (Rn (Vk _ _) (by have:=(gI0.mp hm).1;lia))
  refine⟨_,rfl,_,rfl,ol,rfl,⟨_,cN.of l⟩,jb B6 ot (λt=>decide<|cJ z t.1=m) (λv d _ _ Y ⟨a,e,ha⟩=>⟨a,e,Y _ _ ha⟩) (by lia) (λj H6 r hj=>⟨os,os[j]'(by rw[to.1];exact hj),cN.of<|r _ _ l,QB _⟩) (λH6 r=>⟨os,cN.of<|r _ _ l,SS to.1⟩) ?_ ?_⟩
  ·intro j ay v Y H6 H7 K1 K2 hd M r L k1 k2
   obtain⟨S,L⟩:=L;subst S;have R:=L os<|cN.of<|r _ _ l;obtain⟨o1,rfl⟩:=Ff M;obtain⟨b,rfl,W⟩:=be.2 _ _ _ R hd;have ap:=B.trans r;have lt:=tN Y<|QH hd;obtain⟨q,hq⟩:∃q,z[Y.1]? =some q:=⟨_,QB lt⟩;obtain⟨vq,as⟩:∃vq,ts[Y.1]? =some vq:=⟨_,QB<|by lia⟩;obtain⟨aq,rfl,bv⟩:=a9.2 _ _ _ as hq;have ax:=bb.mono ap;refine⟨⟨[_],rfl,rfl⟩,⟨_,rfl,md,_,rfl,ax.dt,_,rfl,xT (r _ _ W) rfl<|xL ax.ht (dq as)<|xT (ap _ _ bv) rfl ⟨_,rfl,rfl,_,rfl,dF (λa4=>⟨_,rfl,k1 ?_ _ _ (cH.refl _) ⟨b,rfl,r _ _ W⟩⟩) λno=>k2 ?_ _ (cH.refl _)⟩⟩⟩
   ·rw[fe hq]
    exact dT0<|V.int.inj<|QO a4
   ·rw[fe hq]
    exact QM λe=>no<|dT0<|RH V.int e
  intro nl al H6 b1 r bx Z;have bm:=r _ _ hf;refine⟨fa,nl,_,_,rfl,rfl,cN.of bm,cN.of bx,?_,λuc ad=>?_⟩
  ·rw[tu.1,Z.1]
   have:=RB (λt:TK=>decide<|cJ z t.1=m) ot;lia
  have s7:=cH.upd (o:=.lst<|us++al) ad;refine⟨uc,us++al,io++ot.filter λt=>decide<|cJ z t.1=m,_,rfl,(B.trans r).trans s7,back (n.trans<|B.trans r) ad,cE,?_,?_⟩
  ·have a3:=tu.mono (Tk.of<|r.trans s7)
   have b0:=Z.mono λv d (h:B6 H6 v d)=>(let ⟨a,e,ha⟩:=h;⟨a,e,s7 _ _ ha⟩:B6 _ v d);exact GI a3 b0
  ·rw[F,RE,hm,Xe]
   show _++_=_++List.flatMap _ [m];rw[V2,List.flatMap_nil,Rm]
 ·rintro σ H5 ⟨fa,us,io,S,rfl,B,nf,hf,tu,F⟩
  rw[QF,RR]at F;refine⟨_,rfl,k fa us io H5 (n.trans B) nf hf tu ?_ (λt=>?_) ?_⟩
  ·rw[F,WY]
   refine⟨λm _=>VH.mpr ?_,pw.imp λ{a b} ab x hx y hy=>?_⟩
   ·intro a b an
    have ha:=QO (QV.mp<|an.subset<|.head _).2;have W:=QO (QV.mp<|an.subset<|.tail _<|.head _).2;lia
   ·have hx:=QO (QV.mp hx).2
    have hy:=QO (QV.mp hy).2;lia
  ·rw[F,VS]
   refine⟨λ⟨m,_,h⟩=>(QV.mp h).1,λh=>⟨cJ z t.1,(mem _).mpr ?_,QV.mpr ⟨h,dT0 rfl⟩⟩⟩;have lt:=tN t h;rw[fe<|QB lt];exact UQ<|Ta lt
  ·rw[F]
   exact uK (λm _=>Rn (RB _ _) ar) ml
inductive Pr(vs:Xm V)(H:Hp)(Q:VK):Prop
 |mk(j p s t y io i go:Xg)(ps:Xm Xn)(ss l ys us:Xm V)(Xu:Xm (Key×V))(F:FH)(f:Xm QD)(a:Xm TK)(g:Xm Nat)(z:Xn)(h:Int)(e:vs=[.ref j,.ref io,.ref i,.ref go,.str z,.int h])(ok:i6 ps H j p s t y ss l ys)(o:Lz dz H l f)(n:H io=some (.lst us))(r:dW H us a)(w:∀t∈a,t.1<f.length)(m:a.length<=64*240)(q:H i=some (.dK Xu))(x:Xu.length<=24)(sn:jO Xu F)(v:H go=some (.lst (nums g)))
   (k:∀H',cH H H'->Q (.bl (fc f g z h F a)) H')
def zE:Sp:=λa H Q _=>Pr a H Q
inductive Cz(m io q go a:Xg)(z:Xn)(h:Int)(H1:Hp)(l:Xm QD)(g:Xm Nat)(n:Xm TK)(b:Bool)(i:Nat)(σ:St)(f:Hp):Prop
 |mk(p r s j:Xk V)(Xu:Xm (Key×V))(F:FH)(e:σ=[some (.ref m),some (.ref io),some (.ref q),some (.ref go),some (.str z),some (.int h),some (.ref a),p,r,s,j])(v:∀b o,H1 b=some o->b≠a->f b=some o)(hd:f a=some (.dK Xu))(w:Xu.length<=24+i)(sn:jO Xu F)(x:fc l g z h F (n.drop i)=b)
def Bq{a:Xm QD}{g:Xm Nat}{z:Xn}{h:Int}{F:FH}{t:TK}{r:Xm TK}:fc a g z h F (t::r)=if t.1 ∉ g/\eX F t.2.1 (cJ a t.1)=true then(if t.2.2=z/\cJ a t.1<=h then true else fc a g z h (dN F (t.2.2,cJ a t.1)) r) else fc a g z h F r:=rfl
def C5(e f:Bool)(g:∀a:Bool->Hp->Prop,(∀H',cH H H'->a e H')->t σ H a)(i:∀H',cH H H'->∀a:Bool->Hp->Prop,a f H'->u σ H' a)(k:∀H',cH H H'->Q (e&&f) H'):Jq t u σ H Q:=by
 refine g _ λH' h=>?_;grind
def yz:cK ["_law_made_here","_law_in_order_here","_law_seen_here","_law_gone","_law_person","_law_hour","_law_have","_law_k","_law_teller","_law_hearer","_law_late"] ["_law_made_here","_law_in_order_here","_law_seen_here","_law_gone","_law_person","_law_hour"] (cI nh):={}
def KH (D:Df K mg "_law_leads" nh ["_law_made_here","_law_in_order_here","_law_seen_here","_law_gone","_law_person","_law_hour"] f fd) (T:Txt K mg kw C):Gd P w K mg base 1 "_law_leads" zE:=by
 refine aG D yz λX H vs Q E G h=>?_;obtain⟨Z,p,s,t,y,U,Y,W,ps,ss,ts,ys,us,Xu,F,A,O,g,z,h,rfl,ok,qs,YF,ti,tN,il,Yi,kl,sn,X9,k⟩:=h;have hu:=d5 G.room;have XH:sizeLine=16777216:=Q0;have ax:=qs.1;obtain⟨S0,S1,S2,S3,S4,S5,S6,S7,S8,S9,N,_⟩:=G.fg [0,1,2,3,4,5,6,7,8,9,10];refine⟨_,(af (au S6 G.nd<|bo (G.b T.b_dict) J.E5 uu<|aj<|aa S2)
 (af (aZ G.own G.calm (aQ<|aa S1) (bO G.calm<|aT (aN S7 G.nd)<|aT (aN S8 G.nd)<|aT (aN S9 G.nd) bH)
 (af (au N G.nd<|ai aE (ai aU (aK hu (aa S0) ao ah) (aa S7) aR) ae ah)
 (ag (aH (a7<|bg (aF J.gr (aa S7) (aa S3) b6)<|bg (J.Dl hu (aa S8)<|aa S6)<|bq<|aF bW (aK hu (aa S6) (aa S8) aR) (aa N)<|cM _)
 (af (aH (a7<|bg (aF aO (aa S9) (aa S4)<|cM _)<|bq<|aF bG (aa N) (aa S5)<|cM _)
 (ag<|aw bj)
 aI)
 (ag<|bN hu (aa S6) (aa S9)<|aJ (G.b T.b_min) (J.gD G.calm) uG<|aB (aa N)<|J.LL hu (aa S6) (aa S9)<|aa N))
 aI))))
 (ag<|aw bj))),?_⟩
 refine⟨_,rfl,Y,Xu,rfl,.inl Yi,λr ab=>?_⟩;have s1:=cH.upd (o:=.dK Xu) ab;have ap:upd H r (.dK Xu) r=some (.dK Xu):=cE;generalize upd H r (.dK Xu)=H1 at s1 ap;have keep:∀{b:Xg}{o:HO}{R:Hp},(∀b o,H1 b=some o->b≠r->R b=some o)->H b=some o->R b=some o:=λS e=>S _ _ (s1 _ _ e)<|cF e ab;refine⟨_,rfl,U,rfl,⟨_,cN.of<|s1 _ _ YF⟩,c6 (K:=X.K) (a:=U) (xs:=us) (Cz Z U Y W r z h H1 A g O<|fc A g z h F O) ⟨none,none,none,none,Xu,F,rfl,λb o e _=>e,ap,by lia,sn,rfl⟩ ?_ ?_ ?_⟩
 ·rintro i σ R hi ⟨e7,e8,e9,XJ,x,F',rfl,S,hd,ad,I,B⟩
  exact cN.of<|keep S YF
 ·rintro i v σ R hv ⟨e7,e8,e9,XJ,x,F',rfl,S,hd,ad,I,B⟩
  have hi:=(gI0.mp hv).1;have am:i<O.length:=by rw[<-ti.1];exact hi
  have s2:cH H R:=λb o e=>keep S e;have al:=ok.mono s2;have ht:O[i]? =some O[i]:=QB am;rw[UK am]at B;generalize O[i]=n at ht B;obtain⟨a,rfl,av⟩:=ti.2 _ _ _ hv ht;have lt:=tN n<|QH ht;obtain⟨q,hq⟩:∃q,A[n.1]? =some q:=⟨_,QB lt⟩;obtain⟨vq,ac⟩:∃vq,ts[n.1]? =some vq:=⟨_,QB<|by lia⟩;obtain⟨aq,rfl,as⟩:=qs.2 _ _ _ ac hq;refine⟨a,_,rfl,fh.of<|s2 _ _ av,rfl,_,_,rfl,_,_,rfl,_,_,rfl,rfl,?_⟩;refine⟨_,rfl,Z,_,rfl,al.dt,_,rfl,xL al.ht (dq ac)<|xT (s2 _ _ as) rfl ?_⟩;rw[Bq]at B;rw[<-fe hq];have lk:x.length<sizeLine:=by lia
  have L:=dJ.k (k:=Sum.inr n.2.1) hd;rw[I.get]at L;have gh:∀{e8 e9 XJ:Xk V},¬(n.1 ∉ g/\eX F' n.2.1 (cJ A n.1)=true)->Cz Z U Y W r z h H1 A g O (fc A g z h F O) (i+1) [some<|.ref Z,some<|.ref U,some<|.ref Y,some<|.ref W,some<|.str z,some<|.int h,some<|.ref r,some<|.int (n.1:Nat),e8,e9,XJ] R:=λno=>⟨_,_,_,_,x,F',rfl,S,hd,by lia,I,by rw[QG no]at B;exact B⟩;refine⟨_,rfl,_,rfl,W,_,rfl,.inl<|cN.of<|s2 _ _ X9,rfl,nR _,_,rfl,?_⟩;rw[in_nums];refine dF (λy1=>?_) (λn1=>dH<|gh λc=>n1<|by rw[QI rfl,QM c.1];rfl);have y1:n.1 ∉ g:=λm=>by
   rw[QI rfl,dT0 m]at y1;cases y1
  cases hF:F' n.2.1 with
  |none=>
   rw[hF]at L;refine⟨_,rfl,_,rfl,r,_,rfl,L,_,rfl,gP bF0<|dH<|gh λc=>?_⟩;obtain⟨j,e,_⟩:=gC.mp c.2;rw[hF]at e;cases e
  |some j=>
   rw[hF]at L;refine⟨_,rfl,_,rfl,r,_,rfl,L,_,rfl,fH rfl ⟨_,rfl,_,rfl,r,_,rfl,L,_,rfl,_,_,rfl,rfl,_,rfl,dF (λar=>?_) λno=>gh λc=>no ?_⟩⟩
   rotate_left
   ·obtain⟨j',e,l⟩:=gC.mp c.2
    rw[hF]at e;cases e;exact dT0 l
   rw[QI ⟨y1,gC.mpr ⟨j,hF,QO ar⟩⟩]at B;refine kr (λan H'=>¬(n.2.2=z/\cJ A n.1<=h)/\an=[some<|.ref Z,some<|.ref U,some<|.ref Y,some<|.ref W,some<|.str z,some<|.int h,some<|.ref r,some<|.int (n.1:Nat),some<|.str n.2.1,some<|.str n.2.2,some<|.int<|cJ A n.1]/\cH R H') ?_ (decide (V.str n.2.2=V.str z)&&decide (cJ A n.1<=h)) (λQ' k'=>C5 _ _ (λQ2 k2=>⟨_,rfl,_,rfl,rfl,_,rfl,k2 _<|cH.refl _⟩) (λH' s' Q2 k2=>⟨_,rfl,_,rfl,_,_,rfl,rfl,_,rfl,k2⟩) k') (λhb H3 s3 _=>?_) λhb H3 s3=>⟨λc=>?_,rfl,s3⟩
   ·rintro an H3 ⟨nf,rfl,s3⟩
    rw[QG nf]at B;have M:=s3 _ _ hd;have L:=dJ.k (k:=Sum.inr n.2.2) M;rw[I.get]at L;have put:∀m:Int,dN F' (n.2.2,cJ A n.1) n.2.2=some m->Cz Z U Y W r z h H1 A g O (fc A g z h F O) (i+1) [some<|.ref Z,some<|.ref U,some<|.ref Y,some<|.ref W,some<|.str z,some<|.int h,some<|.ref r,some<|.int (n.1:Nat),some<|.str n.2.1,some<|.str n.2.2,some<|.int<|cJ A n.1] (upd H3 r<|.dK<|putK x (Sum.inr n.2.2)<|.int m):=λm em=>
     ⟨_,_,_,_,_,_,rfl,λb o e n'=>by rw[cG n'];exact s3 _ _<|S b o e n',cE,Rn (dj _ _ _)<|by lia,I.put (g:=(n.2.2,cJ A n.1)) em,B⟩
    cases hG:F' n.2.2 with
    |none=>
     rw[hG]at L;exact⟨_,rfl,_,rfl,r,rfl,.inl ⟨_,.inl M⟩,_,rfl,_,rfl,_,L,_,_,rfl,_,rfl,_,rfl,r,_,rfl,j8.k (k:=Sum.inr n.2.2) M lk,put _<|by unfold dN;rw[QI rfl,hG,QG<|Wj _]⟩
    |some j'=>
     rw[hG]at L;exact⟨_,rfl,_,rfl,r,rfl,.inl ⟨_,.inl M⟩,_,rfl,_,rfl,_,L,_,j',rfl,_,rfl,_,rfl,r,_,rfl,j8.k (k:=Sum.inr n.2.2) M lk,put _<|by unfold dN;rw[QI rfl,hG]⟩
   ·rw[RZ]at hb
    rw[QI ⟨V.str.inj<|QO hb.1,QO hb.2⟩]at B;have:=k H3<|s2.trans s3;rw[<-B]at this;exact this
   ·rw[dT0<|RH V.str c.1,dT0 c.2]at hb
    cases hb
 ·rintro σ R ⟨e7,e8,e9,XJ,x,F',rfl,S,hd,ad,I,B⟩
  rw[ti.1,List.drop_length]at B;have:=k R λb o e=>keep S e;rw[<-B]at this;exact this
def AI(m:∀g:VK,g (.ref a) H->te σ H g)(h:H a=some (.lst xs))(k:∀H',cH H H'->Q (.bl<|!xs.isEmpty) H'):Fg (λx y H Q=>FI K x y H Q) te (Fu kT) σ H Q:=by
 refine m _ ⟨by decide,λe n=>?_⟩;have f:=cH.upd (o:=.lst []) n;cases xs with
 |nil=>exact .same a e [] [] [] rfl rfl (cN.of<|f _ _ h) (cN.of cE) rfl rfl (λi u v c p=>by cases p)<|k _ f
 |cons j l=>exact .other a e (j::l) [] rfl rfl (cN.of<|f _ _ h) (cN.of cE) (by grind)<|k _ f
structure Qu(qd:Xm QD)(F:FH)(z:Xn)(h:Int)(XM:Xm TK)(XD:Xm (Xm TK))(cut:Xm Nat):Prop where
 any:fc qd [] z h F XM= !XD.isEmpty
 no:fc qd cut z h F XM=false
 one:∀n∈cut,fc qd (cut.filter λm=>decide (m≠n)) z h F XM=true
 each:∀sm∈XD,(sm.filter λt=>decide (t.1∈cut)).length=1
def KO{f:Xm QD}{F:FH}{z:Xn}{h:Int}{w v:Xm TK}{s:Xm (Xm TK)}{S:Xm Pl}(cs:qR f F z (w.filter λt=>decide<|cJ f t.1<=h) S)(lo:Ex F f w z h s)(le:s.length=(gY S f.length).length)(pw:v.Pairwise λa b=>cJ f a.1<=cJ f b.1)(y:∀t,t∈v↔t∈w)(J:∀t∈w,t.1<f.length):Qu f F z h v s (gY S f.length):=by
 have i:∀{t:TK}{r:Xm TK},Ct f z h (t::r)->eX F t.2.1 (cJ f t.1)=true->(∀u∈t::r,u∈w)->∃u∈t::r,u.1∈gY S f.length:=λc o x=>xE cs (λt B=>J t (QV.mp B).1) c o λu j=>QV.mpr ⟨x u j,dT0<|xD c u j⟩;have nd:(gY S f.length).Nodup:=SM Th VO;have lead:∀{p:Xm TK}{g:Xm Nat},p∈s->(∀t∈p,t.1 ∉ g)->fc f g z h F v=true:=λ{p g} l K=>by
  obtain⟨t,r,rfl,o,c⟩:=wU<|lo.line _ l;exact o8 pw c o λu j=>⟨(y u).mpr<|lo.inn _ l u j,K u j⟩
 have none:∀{g:Xm Nat},(∀n∈gY S f.length,n∈g)->fc f g z h F v=false:=λ{g} C=>RA.mpr λe=>by
  obtain⟨t,r,c,o,x⟩:=mW e;obtain⟨u,j,q⟩:=i c o λu j=>(y u).mp (x u j).1;exact(x u j).2 (C _ q)
 obtain⟨G,E⟩:=Dd lo.nd nd le λp l=>by
  obtain⟨t,r,rfl,o,c⟩:=wU<|lo.line _ l;exact i c o<|lo.inn _ l
 refine⟨?_,none λn h=>h,λn I=>?_,G⟩
 ·cases s with
  |nil=>
   have:gY S f.length=[]:=Rc le.symm;exact none λn h=>by rw[this]at h;exact h
  |cons p r=>exact lead (.head _) λt _ q=>nomatch q
 ·obtain⟨p,l,q⟩:=E n I
  exact lead l λt D m=>by
   obtain⟨H,A⟩:=QV.mp m;exact QO A<|q t D H
inductive Pj(C:Xg)(vs:Xm V)(H:Hp)(Q:VK):Prop
 |mk(n p s t y x q s' t' o io m:Xg)(ps:Xm Xn)(ss l ys us:Xm V)(Xu:Xm (Key×V))(g:Xm GD)(f:Xm QD)(sd:Xm SD)(i:Xm TK)(z:Xn)(h:Int)(e:vs=[.ref n,.ref x,.ref io,.ref m,.str z,.int h])(ok:i6 ps H n p s t y ss l ys)(bk:Bk C H x q s' t' o ps ss l ys)(G:ps.length<=24)(D:Lz dI H ss g)(B:∀d∈g,d.1∈ps)(E:Lz dz H l f)(v:∀d∈f,lV ps d)(A:Sys H ys sd)(w:H io=some (.lst us))(K:dW H us i)(pw:i.Pairwise (λa b=>cJ f a.1<=cJ f b.1))(J:∀t,t∈i↔t∈(fD 0 (fA f)).filter (c4 f sd))(r:i.length<=64*240)(I:H m=some (.dK Xu))(L:Xu.length<=24)(sn:jO Xu (dB (g.filter (cS sd))))(F:∀j,dB (g.filter (cS sd)) z=some j->h<j)
   (k:∀H',cH H H'->Q (.bl true) H')
def Dy(C:Xg):Sp:=λa H Q _=>Pj C a H Q
def yD:cK ["_law_made_here","_law_book_here","_law_in_order_here","_law_seen_here","_law_person","_law_hour","_law_found","_law_numbers","_law_number","_law_rest","_law_some"] ["_law_made_here","_law_book_here","_law_in_order_here","_law_seen_here","_law_person","_law_hour"] (cI nB):={}
def LH (D:Df K mg "_law_asked" nB ["_law_made_here","_law_book_here","_law_in_order_here","_law_seen_here","_law_person","_law_hour"] f fd) (T:Txt K mg kw C) (bd:Gd P w K mg base 8 "apart_lines" (NI C)) (a9:Gd P w K mg base 8 "talk_cut" (MS C)) (bc:Gd P w K mg base 1 "_law_leads" zE):Gd P w K mg base 9 "_law_asked" (Dy C):=by
 refine aG D yD λX H vs Q E l h=>?_;obtain⟨md,p,s,t,y,x,p',s',t',y',io,se,ps,ss,ts,ys,us,Xu,sg,G,sd,XM,z,h,rfl,ok,bk,pl,gs,gp,qs,qk,sy,YF,ti,pw,mm,il,Yi,kl,sn,nz,k⟩:=h;have ap:=l.c bc;have hu:=d5 l.room;have XH:sizeLine=16777216:=Q0;obtain⟨S0,S1,S2,S3,S4,S5,S6,S7,S8,S9,a0,_⟩:=l.fg [0,1,2,3,4,5,6,7,8,9,10];have ac:=l.b T.b_len;refine⟨_,(af (au S6 l.nd<|ak (l.c bd)<|aP (aa S1) (aa S4)<|aa S5)
 (af (au S7 l.nd<|ak (l.c a9)<|aP (aa S1) (aa S4)<|aa S5)
 (af (aH (aF b9 (ba (J.lM hu) (aa S6) (a5 bz)<|cM _) (ak ap<|bK (aa S0)<|b7 (aa S2) (aa S3) (a5 bz) (aa S4)<|aa S5)<|cM _)
 (ag<|aw bj)
 aI)
 (af (aH (bh<|ak ap<|bK (aa S0)<|b7 (aa S2) (aa S3) (aa S7) (aa S4)<|aa S5)
 (ag<|aw bj)
 aI)
 (af (aZ l.own l.calm (aQ<|aa S7) (aN S8 l.nd)
 (af (bY (is:=[8]) (xs:=["_law_one"]) (ns:=["_law_number"]) S9 l.nd l.calm (aQ<|aa S7) {} (λ_ _ _ _ _=>a6 (i:=0)) (λ_ _ _ _ _=>bC<|aF b9 (aM (i:=0)) (aS (i:=1))<|cM _) (λ_ _ _ _ _=>aM (i:=0)) l.hsc l.hN (by decide+kernel))
 (ag (aH (bu<|bh<|ak ap<|bK (aa S0)<|b7 (aa S2) (aa S3) (aa S9) (aa S4)<|aa S5)
 (ag<|aw bj)
 aI))))
 (af (aZ l.own l.calm (aQ<|aa S6) (aN a0 l.nd)
 (ag (aH (aF b9 (aJ ac aY di<|aj<|bB (is:=[7]) (xs:=["_law_telling"]) (ns:=["_law_numbers"]) l.calm (aQ<|aa a0) {} (λ_ _ _ _ _=>a6 (i:=0)) (λ_ _ _ _ _=>bC<|aF J.qx (ai bp (aM (i:=0)) ae ah) (aS (i:=1)) b6) (λ_ _ _ _ _=>aM (i:=0)) l.hsc l.hN) ae<|cM _)
 (ag<|aw bj)
 aI)))
 (ag<|aw<|ba aO (aJ ac aY di<|aj<|aa S6) (aJ ac aY di<|aj<|aa S7)<|cM _))))))),?_⟩
 have sl:=ok.ls;have b1:=ok.lt;have XO:=ok.ly;have b3:=qs.1;have a2:ts.length<=120:=by lia
 have hN:∀t∈(fD 0<|fA G).filter (c4 G sd),t.1<G.length:=λt ht=>by
  obtain⟨q,hq,_⟩:=pP qk (QV.mp ht).1;exact(gI0.mp hq).1
 refine⟨_,rfl,_,rfl,_,rfl,⟨x,p',s',t',y',ps,ss,ts,ys,sg,G,sd,z,h,rfl,bk,pl,sl,a2,gs,gp,qs,qk,sy,XO,nz,λfo fs XD H1 s1 b4 bb al lo mx=>?_⟩⟩;refine⟨_,rfl,_,rfl,_,rfl,⟨x,p',s',t',y',ps,ss,ts,ys,sg,G,sd,z,h,rfl,bk.mono s1,pl,sl,a2,gs.mono<|dI.mono<|Tk.of s1,gp,qs.mono<|dz.mono<|Tk.of s1,qk,sy.mono<|Tk.of s1,XO,nz,λnu S H2 s2 bx B cs bn=>?_⟩⟩;have nn:XD.length=(gY S G.length).length:=mx.one (λt ht=>oN qk ht) bn;have an:=KO cs lo nn pw mm hN;have fl:=al.1;have U:=s1.trans s2;have M:=s2 _ _ bb;have bi:Lz Kp H2 fs XD:=⟨al.1,λi v N O hs=>let ⟨a,xs,e,ha,tu⟩:=al.2 i v N O hs;⟨a,xs,e,s2 _ _ ha,tu.mono<|Tk.of s2⟩⟩;have cl:(gY S G.length).length<=64:=by
  have:=RB (λk=>decide<|dX k∈S/\eO k ∉ S)<|List.range G.length;rw[Sy]at this;have:(gY S G.length).length<=G.length:=this;lia
 generalize bv:gY S G.length=cut at B nn an cl;generalize dB (sg.filter<|cS sd)=F at sn an;have a3:∀N∈XD,N.length<=64:=λN ms=>by
  have:=iW (xs:=N.map λt:TK=>t.1) (ys:=List.range G.length) ((WY.mp lo.nd).1 N ms) λa ha=>by
   obtain⟨t,ht,rfl⟩:=Rk.mp ha;exact Sk.mpr<|hN t<|lo.inn N ms t ht
  rw[QF,Sy]at this;lia
 have ab:∀{H3:Hp}{Q3:VK}{go:Xg}{g:Xm Nat},cH H H3->H3 go=some (.lst<|nums g)->(∀H',cH H3 H'->Q3 (.bl<|fc G g z h F XM) H')->zE [.ref md,.ref io,.ref se,.ref go,.str z,.int h] H3 Q3 E0:=λZ hg k3=>
  ⟨md,p,s,t,y,io,se,_,ps,ss,ts,ys,us,Xu,F,G,XM,_,z,h,rfl,ok.mono Z,qs.mono<|dz.mono<|Tk.of Z,Z _ _ YF,ti.mono<|Tk.of Z,λt ht=>hN t<|(mm t).mp ht,il,Z _ _ Yi,kl,sn,hg,k3⟩
 have en:(!fs.isEmpty)= !XD.isEmpty:=by
  cases XD with
  |nil=>
   rw[Rc fl];rfl
  |cons a r=>
   cases fs with
   |nil=>cases fl
   |cons b r'=>rfl
 refine AI (λQ3 k3=>⟨_,rfl,k3⟩) M λH3 Z=>?_;refine⟨_,rfl,_,rfl,_,rfl,Hd,λe ne=>⟨_,rfl,_,rfl,ab ((U.trans Z).trans<|cH.upd ne) (g:=[]) cE λH4 s4=>?_⟩⟩;have a4:=((U.trans Z).trans<|cH.upd (o:=.lst []) ne).trans s4;have ay:=(Z.trans<|cH.upd (o:=.lst []) ne).trans s4;refine⟨rfl,_,rfl,gP ?_ ?_⟩
 ·rw[an.any,en,dT0 rfl]
  decide
 refine⟨_,rfl,_,rfl,_,rfl,_,rfl,_,rfl,_,rfl,ab a4 (ay _ _ B) λH5 s5=>⟨_,rfl,gP (by rw[an.no];decide) ?_⟩⟩;have aq:=ay.trans s5;have b2:=U.trans aq;refine⟨_,rfl,nu,rfl,⟨_,cN.of<|aq _ _ B⟩,c6 (K:=X.K) (a:=nu) (xs:=nums cut) (λi σ H6=>∃e8 e9,σ=[some<|.ref md,some<|.ref x,some<|.ref io,some<|.ref se,some<|.str z,some<|.int h,some<|.ref fo,some<|.ref nu,e8,e9,none]/\cH H2 H6) ⟨none,none,rfl,aq⟩ ?_ ?_ ?_⟩
 ·rintro i σ H6 hi ⟨e8,e9,rfl,s6⟩
  exact cN.of<|s6 _ _ B
 ·rintro i v σ H6 O ⟨e8,e9,rfl,s6⟩
  unfold nums at O;rw[QR]at O;obtain⟨n,hn,rfl⟩:=Rt.mp O;have I:=s6 _ _ B;have be:(nums cut).length=cut.length:=QF _;have ax:∀{j:Nat}{m:Nat},cut[j]? =some m->(nums cut)[j]? =some (.int (m:Nat)):=λh=>by
   unfold nums;rw[QR,h];rfl
  refine⟨_,rfl,nu,rfl,⟨_,cN.of I⟩,jb (λ_ v (m:Nat)=>v=V.int (m:Nat)) cut (λm=>decide<|m≠n) (λv d _ _ t h=>h) (by lia) (λj H7 A hj=>⟨_,_,cN.of<|A _ _ I,ax<|QB hj⟩) (λH7 A=>⟨_,cN.of<|A _ _ I,SS be⟩) ?_ ?_⟩
  ·intro j os v m H7 H8 K1 K2 hm am A yy k1 k2
   obtain⟨e3,yy⟩:=yy;subst e3;have O:=yy _<|cN.of<|A _ _ I;rw[ax hm]at O;cases O;obtain⟨o1,rfl⟩:=Ff am;refine⟨⟨[_],rfl,rfl⟩,⟨_,rfl,_,rfl,rfl,_,rfl,dF (λW=>⟨_,rfl,k1 (dT0 λe=>?_) _ _ (cH.refl _) rfl⟩) λno=>k2 (QM λe=>no ?_) _<|cH.refl _⟩⟩
   ·rw[e,dT0 rfl]at W
    cases W
   ·rw[QM λq:V.int (m:Nat)=V.int (n:Nat)=>e<|Int.ofNat.inj<|V.int.inj q]
    rfl
  intro nb a1 H7 bf A Y ad;have ye:a1=nums (cut.filter λm=>decide<|m≠n):=xU ad;rw[ye]at Y;have av:=s6.trans A;refine⟨_,rfl,_,rfl,_,rfl,_,rfl,_,rfl,_,rfl,ab (U.trans av) Y λH8 R=>⟨_,rfl,gP ?_ ⟨_,_,rfl,av.trans R⟩⟩⟩;rw[an.one n<|QH hn]
  decide
 ·rintro σ H6 ⟨e8,e9,rfl,s6⟩
  refine⟨_,rfl,fo,rfl,⟨_,cN.of<|s6 _ _ M⟩,c6 (K:=X.K) (a:=fo) (xs:=fs) (λi σ H6=>∃XJ,σ=[some<|.ref md,some<|.ref x,some<|.ref io,some<|.ref se,some<|.str z,some<|.int h,some<|.ref fo,some<|.ref nu,e8,e9,XJ]/\cH H2 H6) ⟨none,rfl,s6⟩ ?_ ?_ ?_⟩
  ·rintro i σ H7 hi ⟨XJ,rfl,A⟩
   exact cN.of<|A _ _ M
  ·rintro i v σ H7 O ⟨XJ,rfl,A⟩
   obtain⟨N,as⟩:∃N,XD[i]? =some N:=⟨_,QB<|by rw[<-fl];exact(gI0.mp O).1⟩;obtain⟨so,xs,rfl,bm,tu⟩:=bi.2 _ _ _ O as;have ms:=QH as;have xl:=tu.1;have L:=A _ _ bm;have ar:=A _ _ B;have b0:=a3 N ms;refine⟨_,rfl,so,rfl,⟨_,cN.of L⟩,jb B6 N (λt=>decide<|t.1∈cut) (λv d _ _ tk ⟨a,e,ha⟩=>⟨a,e,tk _ _ ha⟩) (by lia) (λj H8 R hj=>⟨xs,xs[j]'(by rw[xl];exact hj),cN.of<|R _ _ L,QB _⟩) (λH8 R=>⟨xs,cN.of<|R _ _ L,SS xl⟩) ?_ ?_⟩
   ·intro j os v d H8 H9 K1 K2 hd am R yy k1 k2
    obtain⟨e3,yy⟩:=yy;subst e3;have O:=yy xs<|cN.of<|R _ _ L;obtain⟨o1,rfl⟩:=Ff am;obtain⟨b,rfl,hb⟩:=tu.2 _ _ _ O hd;have hb:=R _ _<|A _ _ hb;refine⟨⟨[_],rfl,rfl⟩,⟨_,rfl,xT hb rfl ⟨_,rfl,nu,_,rfl,.inl<|cN.of<|R _ _ ar,rfl,nR _,_,rfl,?_⟩⟩⟩;rw[in_nums];exact dF (λW=>⟨_,rfl,k1 W _ _ (cH.refl _) ⟨b,rfl,hb⟩⟩) λno=>k2 (RA.mpr no) _<|cH.refl _
   intro nb a1 H8 bf R Y ad;refine⟨nb,_,rfl,.inl<|cN.of Y,rfl,_,rfl,gP ?_ ⟨_,rfl,A.trans R⟩⟩;rw[ad.1,an.each N ms]
   decide
  ·rintro σ H7 ⟨XJ,rfl,A⟩
   refine⟨_,rfl,fo,_,rfl,.inl<|cN.of<|A _ _ M,_,rfl,nu,_,rfl,.inl<|cN.of<|A _ _ B,rfl,?_⟩;have:=k H7<|U.trans A
   rwa [show true=decide (V.int (fs.length:Nat)=V.int ((nums cut).length:Nat)) from (dT0<|by rw[show(nums cut).length=cut.length from QF _,fl,nn]).symm]at this
inductive LV  (K:Frag)(vs:Xm V)(H:Hp)(Q:VK):Prop
 |mk(a:Xg)(ns:Xm Int)(h0:vs=[.ref a])(f:cN K H a (ns.map V.int))(e:ns.length<=63)(g:∀H',Q (.bl true) H')
def Ad  (K:Frag):Sp:=λa H Q _=>LV K a H Q
def KQ:cK ["_law_script","_law_made_here","_law_book_here","_law_seen_here","_law_in_order_here","_law_k","_law_cell","_law_person","_law_hour"] ["_law_script"] (cI pf):={}
def J7 (F:qS K "law" "law" pf f fd) (T:Txt K mg kw C) (a0:Gd P w K mg base 3 "_law_made" (El K)) (YH:Gd P w K mg base 1 "_law_mix" rF) (a9:Gd P w K mg base 9 "_law_book" (Jl C)) (be:Gd P w K mg base 2 "_law_open" Am) (a1:Gd P w K mg base 2 "_law_seen" zk) (a3:Gd P w K mg base 1 "_law_in_order" DA) (bf:Gd P w K mg base 9 "_law_asked" (Dy C)):fq P w K mg base oF 10 f fd ["_law_script"] (Ad K):=by
 refine J.oP F KQ (λvs H Q E h=>?_) λX H vs Q E g h=>?_
 ·obtain⟨a,ns,rfl,_⟩:=h
  rfl
 ·obtain⟨sc,ns,rfl,as,a2,q⟩:=h
  have Y:=d5 g.room;obtain⟨S0,I,S2,S3,S4,S5,S6,S7,S8,_⟩:=g.fg [0,1,2,3,4,5,6,7,8];have al:=g.b T.b_len;obtain rfl:=g.fK;have XH:sizeLine=16777216:=Q0;refine⟨_,(af (au I g.nd<|ak (g.c a0)<|aj<|aa S0)
 (af (au S2 g.nd<|ak (g.c a9)<|aj<|aa I)
 (af (au S3 g.nd<|ak (g.c a1)<|aj<|aa I)
 (af (au S4 g.nd<|ak (g.c a3)<|aB (aa I)<|ak (g.c be)<|aj<|aa I)
 (af (aZ g.own g.calm (b8 (g.b T.b_range)<|aj ae) (aN S5 g.nd)
 (af (au S6 g.nd<|ak (g.c YH)<|aB (aJ (g.b T.b_sum) (J.nQ g.calm) Kg<|aj<|bT cw (aa S0) bX<|bV ae)<|aD bA ae<|aa S5)
 (af (au S7 g.nd<|ai aU (aK Y (aa I) ao ah) (aD aX (aD bA (aa S6)<|aa S5)<|aJ al aY di<|aj<|aK Y (aa I) ao ah) bP)
 (af (aH (a7<|bg (aF aO (aa S5) ae<|cM _)<|bq<|aF bR (aJ al aY di<|aj<|aK Y (aa I) ao ah) ae<|cM _)
 (ag<|au S7 g.nd<|ai aU (aK Y (aa I) ao ah) ae ah)
 aI)
 (af (au S8 g.nd<|aD J.nH ae ae)
 (af (aH (a7<|bg (aF (J.lM Y) (aK Y (aa I) ao ah) (a5 bz)<|cM _)<|bg (aF bR (aa S5) ae<|cM _)<|bq<|aF bR (aD aX (aD bJ (aa S6) ae) ae) ae<|cM _)
 (ag<|au S8 g.nd<|ai aE (ai aU (aK Y (aa I) ao ah) (aD aX (aD bJ (aa S6) ae)<|aJ al aY di<|aj<|aK Y (aa I) ao ah) bP) ae ah)
 aI)
 (ag (aH (a7<|bS (J.sQ Y (aa S7)<|aa S3)<|b5<|aF bR (aK Y (aa S3) (aa S7) aR) (aa S8)<|cM _)
 (ag (aH (bu<|bh<|ak (g.c bf)<|bK (aa I)<|b7 (aa S2) (aa S4) (aa S3) (aa S7)<|aa S8)
 (ag<|aw bj)
 aI))
 aI))))))))
 (ag<|aw bj)))))),?_⟩
  refine⟨_,rfl,sc,ns,rfl,as,a2,λA p s t y L ss W ys H1 s1 _ po p2 l=>?_⟩;refine⟨_,rfl,A,p,s,t,y,L,ss,W,ys,rfl,po,l,λx p' s' t' y' H2 s2 _ bk=>?_⟩;obtain⟨sg,gs,gk⟩:=xB l.gs;obtain⟨qd,qs,qk⟩:=Jy l.gt;obtain⟨sd,sy,sk⟩:=sf l.gy;refine⟨_,rfl,A,p,s,t,y,L,ss,W,ys,sg,sd,rfl,l.mono s2,gs.mono<|dI.mono<|Tk.of s2,gk,sy.mono<|Tk.of s2,λse Xu H3 s3 _ Yi sn kl=>?_⟩;have O:=s2.trans s3;refine⟨_,rfl,_,rfl,A,p,s,t,y,L,ss,W,ys,qd,sd,rfl,l.mono O,qs.mono<|dz.mono<|Tk.of O,qk,sy.mono<|Tk.of O,λol os b4 ar _ Yd to=>?_⟩;have ac:=O.trans ar;have b1:=l.lt;have b0:=qs.1;refine⟨A,p,s,t,y,ol,L,ss,W,ys,os,qd,_,rfl,l.mono ac,qs.mono<|dz.mono<|Tk.of ac,Yd,to,λt ht=>?_,?_,λio us XM H4 bn _ YF ti pw mm il=>?_⟩
  ·obtain⟨q,hq,_⟩:=pP qk (QV.mp ht).1
   exact(gI0.mp hq).1
  ·have h1:=iZ (fA qd) 0
   have h2:(fA qd).length=qd.length:=QF _;have h3:=RB (c4 qd sd)<|fD 0<|fA qd;lia
  have s4:=ar.trans bn;have M:=O.trans s4;have bb:=s3.trans s4;have ap:=(s1.trans M).seq as;have G:=l.mono M;have bm:=bk.mono bb;have a4:=gs.mono<|dI.mono<|Tk.of M;have ax:=qs.mono<|dz.mono<|Tk.of M;have bd:=sy.mono<|Tk.of M;have aq:=s4 _ _ Yi;have pl:=po.hi;have ca:=G.ls;have cc:=G.lt;have b2:=G.ly;have b3:=ax.1;have gp:∀d∈sg,d.1∈L:=λd hd=>(gk d hd).1;have av:(L.map V.str).length=L.length:=QF _;refine⟨_,rfl,by decide,by decide,mJ (lo:=0) (n:=(5:Int).toNat) (λi σ H5=>∃e5 e6 e7 e8:Xk V,σ=[some<|.ref sc,some<|.ref A,some<|.ref x,some<|.ref se,some<|.ref io,e5,e6,e7,e8]/\cH H4 H5) ⟨none,none,none,none,rfl,cH.refl _⟩ ?_ ?_⟩
  ·rintro i σ H5 hi ⟨e5,e6,e7,e8,rfl,s5⟩
   obtain⟨vs,ev,_⟩:=Cy ns (k:=63) (by decide);refine⟨_,rfl,63,rfl,sc,_,rfl,s5.seq ap,λsl bx=>?_⟩;rw[ev];refine⟨sl,vs,rfl,cN.of cE,_,rfl,_,_,rfl,rfl,_,_,rfl,by lia,by lia,λN N0 N1=>?_⟩;have s6:=s5.trans<|cH.upd (o:=.lst<|vs.map V.int) bx;generalize upd H5 sl (.lst<|vs.map V.int)=H6 at s6;have B:=G.mono s6;have pm:=cZ (N+(0+(i:Int))) (m:=(((L.map V.str).length:Nat):Int)) (by rw[av];lia);obtain⟨zv,ad,am⟩:=rG (xs:=L.map V.str) pm.1 pm.2;obtain⟨z0,_,rfl⟩:=Rk.mp am;refine⟨_,rfl,A,_,rfl,B.dp,_,rfl,_,rfl,_,_,rfl,rfl,_,rfl,A,_,rfl,B.dp,p,_,rfl,.inl<|cN.of B.hp,_,_,rfl,rfl,by rw[av];lia,xL B.hp ad ?_⟩;dsimp only[eU];refine kr (λS D=>∃z:Xn,S=[some<|.ref sc,some<|.ref A,some<|.ref x,some<|.ref se,some<|.ref io,some<|.int<|0+(i:Int),some<|.int N,some<|.str z,e8]/\cH H4 D) ?_ (decide (V.int (0+(i:Int))=V.int 0)&&decide ((2:Int)<((L.map V.str).length:Nat))) (λQ' k=>?_) (λhb D Z hR=>?_) λ_ D Z=>?_
   rotate_left
   ·exact C5 _ _ (λQ2 U=>⟨_,rfl,rfl,_,rfl,U _<|cH.refl _⟩) (λD s' Q2 U=>⟨_,rfl,A,_,rfl,(B.mono s').dp,p,_,rfl,.inl<|cN.of (B.mono s').hp,_,_,rfl,rfl,_,rfl,U⟩) k
   ·rw[RZ]at hb
    have h2:=QO hb.2;have v:=B.mono Z;obtain⟨zv,ad,am⟩:=rG (xs:=L.map V.str) (i:=2) (by decide) h2;obtain⟨z,_,rfl⟩:=Rk.mp am;exact⟨_,rfl,A,_,rfl,v.dp,xL v.hp ad<|hR _ _ ⟨z,rfl,s6.trans Z⟩⟩
   ·exact⟨z0,rfl,s6.trans Z⟩
   rintro S H7 ⟨z,rfl,s7⟩;have an:=G.mono s7;refine⟨_,_,rfl,rfl,⟨by decide,by decide,by decide⟩,?_⟩;dsimp only[eU];refine kr (λS D=>∃h:Int,S=[some<|.ref sc,some<|.ref A,some<|.ref x,some<|.ref se,some<|.ref io,some<|.int<|0+(i:Int),some<|.int N,some<|.str z,some<|.int h]/\cH H4 D) ?_ (!W.isEmpty&&(decide (0<(0+(i:Int)))&&decide (0<N / 7%4))) (λQ' k=>?_) (λhb D Z hR=>?_) λ_ D Z=>⟨_,rfl,s7.trans Z⟩
   rotate_left
   ·refine C5 _ _ (λQ2 U=>AI (λQ3 k3=>⟨_,rfl,A,_,rfl,an.dt,k3⟩) an.ht λD s'=>⟨_,rfl,U D s'⟩) (λD s' Q2 U=>?_) k
    refine⟨_,rfl,_,_,rfl,rfl,_,rfl,?_⟩;cases hk:decide (0<0+(i:Int)) with
    |false=>
     rw[hk]at U;exact dH U
    |true=>
     rw[hk]at U;exact fO ⟨_,rfl,_,_,rfl,rfl,⟨by decide,by decide⟩,_,_,rfl,rfl,by show(0:Int)<4;decide,_,_,rfl,rfl,_,rfl,U⟩
   ·rw[RZ]at hb
    have t1:1<=W.length:=by
     cases W with
     |nil=>exact absurd hb.1 (by decide)
     |cons a r=>show 1<=r.length+1;lia
    have v:=an.mono Z;have hm:=cZ (N / 28) (m:=(W.length:Int)) (by lia);obtain⟨vt,bi,bv⟩:=rG (xs:=W) hm.1 hm.2;obtain⟨a,h,q1,q2,w',rfl,ha,_⟩:=v.gt vt bv;exact⟨_,rfl,A,_,rfl,v.dt,_,rfl,_,_,rfl,rfl,⟨by decide,by decide⟩,_,rfl,A,_,rfl,v.dt,t,_,rfl,.inl<|cN.of v.ht,_,_,rfl,rfl,by lia,xL v.ht bi<|xT ha rfl<|hR _ _ ⟨h,rfl,s7.trans Z⟩⟩
   rintro S H8 ⟨h,rfl,R⟩;have ab:=R _ _ aq;have dg:=dJ.k (k:=Sum.inr z) ab;rw[sn.get]at dg;have ay:∀{Q':VK},(∀j,dB (sg.filter<|cS sd) z=some j->h<j)->(∀D,cH H8 D->Q' (.bl true) D)->Dy C [.ref A,.ref x,.ref io,.ref se,.str z,.int h] H8 Q' E0:=λnz k'=>
    ⟨A,p,s,t,y,x,p',s',t',y',io,se,L,ss,W,ys,us,Xu,sg,qd,sd,XM,z,h,rfl,G.mono R,bm.mono R,pl,a4.mono<|dI.mono<|Tk.of R,gp,ax.mono<|dz.mono<|Tk.of R,qk,bd.mono<|Tk.of R,R _ _ YF,ti.mono<|Tk.of R,pw,mm,il,ab,kl,sn,nz,k'⟩
   cases hF:dB (sg.filter<|cS sd) z with
   |none=>
    rw[hF]at dg;exact⟨_,rfl,_,rfl,se,_,rfl,dg,_,rfl,fH rfl<|fO ⟨_,rfl,_,rfl,_,rfl,_,rfl,_,rfl,_,rfl,ay (λj e=>by rw[hF]at e;cases e) λH9 s9=>⟨_,rfl,iN ⟨_,_,_,_,rfl,R.trans s9⟩⟩⟩⟩
   |some j=>
    rw[hF]at dg;refine⟨_,rfl,_,rfl,se,_,rfl,dg,_,rfl,gP bF0 ⟨_,rfl,_,rfl,se,_,rfl,dg,_,rfl,_,_,rfl,rfl,_,rfl,dF (λbc=>?_) λno=>⟨_,_,_,_,rfl,R⟩⟩⟩;refine⟨_,rfl,_,rfl,_,rfl,_,rfl,_,rfl,_,rfl,ay (λj' e=>?_) λH9 s9=>⟨_,rfl,iN ⟨_,_,_,_,rfl,R.trans s9⟩⟩⟩;rw[hF]at e;cases e;exact QO bc
  ·rintro σ H5 ⟨e5,e6,e7,e8,rfl,s5⟩
   exact q _
end K43
namespace K43
def len0(us:Xm Xf)(h:us.length=0):us=[]:=Rc h
def Cn{n:Nat}(us:Xm Xf)(h:us.length=n+1):∃a r,us=a::r/\r.length=n:=by
 cases us with
 |nil=>cases h
 |cons a r=>exact⟨a,r,rfl,Ss h⟩
def v9(us:Xm Xf)(h:us.length=1):∃a,us=[a]:=by
 obtain⟨a,r,rfl,e⟩:=Cn us h;exact⟨a,by rw[len0 r e]⟩
def Lg(us:Xm Xf)(h:us.length=2):∃a b,us=[a,b]:=by
 obtain⟨a,r,rfl,e⟩:=Cn us h;obtain⟨b,rfl⟩:=v9 r e;exact⟨a,b,rfl⟩
def LU(us:Xm Xf)(h:us.length=3):∃a b c,us=[a,b,c]:=by
 obtain⟨a,r,rfl,e⟩:=Cn us h;obtain⟨b,c,rfl⟩:=Lg r e;exact⟨a,b,c,rfl⟩
def Ln(us:Xm Xf)(h:us.length=4):∃a b c d,us=[a,b,c,d]:=by
 obtain⟨a,r,rfl,e⟩:=Cn us h;obtain⟨b,c,d,rfl⟩:=LU r e;exact⟨a,b,c,d,rfl⟩
def GX(us:Xm Xf)(h:us.length=5):∃a b c d e,us=[a,b,c,d,e]:=by
 obtain⟨a,r,rfl,f⟩:=Cn us h;obtain⟨b,c,d,e,rfl⟩:=Ln r f;exact⟨a,b,c,d,e,rfl⟩
def Ma(us:Xm Xf)(h:us.length=6):∃a b c d e f,us=[a,b,c,d,e,f]:=by
 obtain⟨a,r,rfl,g⟩:=Cn us h;obtain⟨b,c,d,e,f,rfl⟩:=GX r g;exact⟨a,b,c,d,e,f,rfl⟩
def FF.d{K:Frag}{h:Heap}{g:Xr}{x:Xn}{st:Stmt}(F:FF K x st)(X:K.In h)(G:h.Ns mainGlobals g)(ps:Xm Xn)(n:∀(kV j pm:Xf)(an:Xk Xg)(o ct:Xf)(us:Xm Xf),us.length=ps.length->bindArgs (fnOf x x (d4 st) (dh st) (cI st) .none kV j pm an o ct) ⟨us,[]⟩=pure (ps.zip us):=by intro _ _ _ _ _ _ us e;first| (obtain⟨_,rfl⟩:=v9 us e;rfl)| (obtain⟨_,_,rfl⟩:=Lg us e;rfl)| (obtain⟨_,_,_,rfl⟩:=LU us e;rfl)| (obtain⟨_,_,_,_,rfl⟩:=Ln us e;rfl)| (obtain⟨_,_,_,_,_,rfl⟩:=GX us e;rfl)| (obtain⟨_,_,_,_,_,_,rfl⟩:=Ma us e;rfl)):∃f m,Df K g x st ps f m:=by
 obtain⟨a,l,c,k⟩:=F;have i:=jZ (st:=st) l c k;exact⟨_,_,i,mg_of X G a,i.binds n⟩
def FF.u{K:Frag}{h:Heap}{g:Xr}{x:Xn}{st:Stmt}{m:Prop}{ps:Xm Xn}(F:FF K x st)(X:K.In h)(G:h.Ns mainGlobals g)(k:∀f e,Df K g x st ps f e->m)(j:∀(kV i pm:Xf)(an:Xk Xg)(l ct:Xf)(us:Xm Xf),us.length=ps.length->bindArgs (fnOf x x (d4 st) (dh st) (cI st) .none kV i pm an l ct) ⟨us,[]⟩=pure (ps.zip us):=by intro _ _ _ _ _ _ us a;first| (obtain⟨_,rfl⟩:=v9 us a;rfl)| (obtain⟨_,_,rfl⟩:=Lg us a;rfl)| (obtain⟨_,_,_,rfl⟩:=LU us a;rfl)| (obtain⟨_,_,_,_,rfl⟩:=Ln us a;rfl)| (obtain⟨_,_,_,_,_,rfl⟩:=GX us a;rfl)| (obtain⟨_,_,_,_,_,_,rfl⟩:=Ma us a;rfl)):m:=
 let ⟨f,e,D⟩:=F.d X G ps j
 k f e D
theorem lX:∀{zs:Xm Xn}{us:Xm Xf},strsOf us=zs.map some->Vals (zs.map V.str) us
 |[],[],_=>.nil
 |[],_::_,h=>by cases h
 |_::_,[],h=>by cases h
 |z::zs,u::us,h=>by
  have a:oneOf u::strsOf us=some z::zs.map some:=h;injection a with e1 e2
  refine .cons ?_ (lX e2);cases u with
  |str x t=>
   cases e1;exact⟨t,rfl⟩
  |_=>cases e1
def all_mk {l:PySem.W.OpenLaw}{w:Xj}{K:Frag}{h:Heap}{g:Xr}{fa:Xg}(X:K.In h) (G:h.Ns mainGlobals g) (am:g "law" =some (.ref fa)) (FX:Facts K):
  ∃fd:FuncData,(∀(s:Xh) (v:Xf),BindsTo s fd ⟨[v],[]⟩ [("_law_script",v)])/\∀base:Heap,K.In base->base.Ns mainGlobals g->fq l.prog w K g base oF 10 fa fd ["_law_script"] (Ad K):=by
 obtain @⟨kw,C,f58,f59,f60,f61,f62,f63,odw,od58,an58,od59,an59,od60,an60,od61,an61,od62,an62,od63,an63,slw,sl58,sl59,sl60,sl61,sl62,sl63,oc58,kV58,dc58,pm58,cd58,ct58,oc59,kV59,dc59,pm59,cd59,ct59,oc60,kV60,dc60,pm60,cd60,ct60,oc61,kV61,dc61,pm61,cd61,ct61,oc62,kV62,dc62,pm62,cd62,ct62,oc63,kV63,dc63,pm63,cd63,ct63,Xw,nW,Yj,tk2,tk3,tk4,tk5,aW,lW,vW,h1,h2,h3,h4,h5,h6,h7,h8,h9,h10,h11,h12,h13,h14,h15,h16,h17,h18,h19,h20,h21,h22,h23,h24,h25,h26,h27,h28,h29,h30,h31,h32,h33,h34,h35,h36,h37,h38,h39,h40,h41,h42,h43,h44,h45,h46,h47,h48,h49,h50,h51,h52,h53,h54,h55,h56,h57,aC,pg,hd,po,sa,mk,kc,nP,nS,nT,nY,a58,i58,l58,c58,k58,a59,i59,l59,c59,k59,a60,i60,XO,c60,k60,a61,i61,l61,c61,Yt,a62,i62,l62,c62,k62,a63,i63,l63,c63,k63,z1,z2,z3,z4,z5,z6,z7,z8,z9,z10,z11,z12,z13,z14,z15,z16,z17,z18,z19,g1,g2,g3,g4,g5⟩:=FX;have vW:=lX (zs:=kept) vW;obtain @⟨f57,oc57,kV57,dc57,pm57,cd57,ct57,od57,an57,sl57,a57,l57,c57,k57⟩:=h57;have e:=am.symm.trans<|mg_of X G a57;cases e;have XH:Xw.size<=sizeLine:=by
  have e:=vW.length;have e2:(kept.map V.str).length=12:=by decide+kernel
  rw[e2,QS]at e;have:sizeLine=16777216:=Q0;omega
 have T:Txt K g kw C:=⟨R4 X G z1,R4 X G z2,R4 X G z3,R4 X G z4,R4 X G z5,R4 X G z6,R4 X G z7,R4 X G z8,R4 X G z9,R4 X G z10,R4 X G z11,R4 X G z12,R4 X G z13,R4 X G z14,R4 X G z15,R4 X G z16,R4 X G z17,R4 X G z18,R4 X G z19,mg_of X G aW,⟨_,Xw,nW,lW,rfl,rfl,XH,vW⟩,⟨_,mg_of X G g1,⟨_,rfl⟩⟩,⟨_,mg_of X G g2,⟨_,rfl⟩⟩,⟨_,mg_of X G g3,⟨_,rfl⟩⟩,⟨_,mg_of X G g4,⟨_,rfl⟩⟩,⟨_,mg_of X G g5,⟨_,rfl⟩⟩,⟨pg,hd,po,sa⟩,nP,nS,nT,nY⟩;have bc:=jZ (st:=pf) l57 c57 k57;have ac:=jZ (st:=iF) l58 c58 k58;have al:=jZ (st:=ff) l59 c59 k59;have S:=jZ (st:=fF) XO c60 k60;have R:=jZ (st:=gF) l61 c61 Yt;have ad:=jZ (st:=fb) l62 c62 k62;have ab:=jZ (st:=eI) l63 c63 k63;obtain⟨_,_,H⟩:=h1.d X G ["thing"];obtain⟨_,_,a⟩:=h2.d X G ["thing"];obtain⟨_,_,f⟩:=h3.d X G ["thing"];have N:=ac.binds (ps:=["self","persons","sights","talks","sayings"]) λ_ _ _ _ _ _ O P=>by
  obtain⟨_,_,_,_,_,rfl⟩:=GX O P;rfl
 have M:=ac;have J:Mk K C f58:=⟨mk,a58,i58,kc⟩;have A:=al.binds (ps:=["self"]) λ_ _ _ _ _ _ O P=>by
  obtain⟨_,rfl⟩:=v9 O P;rfl
 have x:=al;have n:Meth K C "persons" f59:=⟨a59,i59,k59⟩;have E:=S.binds (ps:=["self"]) λ_ _ _ _ _ _ O P=>by
  obtain⟨_,rfl⟩:=v9 O P;rfl
 have B:=S;have q:Meth K C "sights" f60:=⟨a60,i60,k60⟩;have I:=R.binds (ps:=["self"]) λ_ _ _ _ _ _ O P=>by
  obtain⟨_,rfl⟩:=v9 O P;rfl
 have L:=R;have F:Meth K C "talks" f61:=⟨a61,i61,Yt⟩;have z:=ad.binds (ps:=["self"]) λ_ _ _ _ _ _ O P=>by
  obtain⟨_,rfl⟩:=v9 O P;rfl
 have r:=ad;have j:Meth K C "sayings" f62:=⟨a62,i62,k62⟩;have o:=ab.binds (ps:=["self"]) λ_ _ _ _ _ _ O P=>by
  obtain⟨_,rfl⟩:=v9 O P;rfl
 have m:=ab;have i:Meth K C "tellings" f63:=⟨a63,i63,k63⟩;have a3:=mg_of X G aC;refine⟨fnOf "law" "law" (d4 pf) (dh pf) (cI pf) .none kV57 dc57 pm57 an57 cd57 ct57,λs v=>.of_eq rfl,λbase _ _=>?_⟩;have G1:Gd l.prog w K g base 2 "is_hour" (mY K):=⟨_,_,_,FO a.fn H T,a.nm,a.fn.kp,a.bi⟩;have G2:Gd l.prog w K g base 1 "is_name" (qw K):=⟨_,_,_,GF f.fn T,f.nm,f.fn.kp,f.bi⟩;have G3:Gd l.prog w K g base 1 "is_list_up_to" iw:=h4.u X G λ_ _ D=>xH D T;have G4:Gd l.prog w K g base 1 "is_tuple_of" oM:=h5.u X G λ_ _ D=>Bl D T;have G5:=h6.u X G λ_ _ D=>BM D G2;have G6:=h7.u X G λ_ _ D=>AM D G5;have G7:=h8.u X G λ_ _ D=>HU D T G2;have G8:=h9.u X G λ_ _ D=>EI D G4 G5 G1 G7;have G9:Gd l.prog w K g base 1 "is_way" D4:=h10.u X G λ_ _ D=>LN D T;have a9:=h11.u X G λ_ _ D=>FC D G4 G6 G1 G9;have ar:=h12.u X G λ_ _ D=>Fv D G1;have bb:=h13.u X G λ_ _ D=>Fb D G6 G5 G1;have as:=h14.u X G λ_ _ D=>BV D T G5 ar bb;have bd:=h15.u X G λ_ _ D=>y6 D T G3 G2;have ax:=h16.u X G λ_ _ D=>qV D T G3 G8;have av:=h17.u X G λ_ _ D=>uN D T G3 a9;have aq:=h18.u X G λ_ _ D=>p0 D T G3 as;have GB:=Fm M J N a3 T bd ax av aq;have M1:Md l.prog w K g base 1 C "persons" (dC C λp _ _ _=>p):=uC x n A T;have M2:Md l.prog w K g base 1 C "sights" (dC C λ_ s _ _=>s):=wm B q E T;have M3:Md l.prog w K g base 1 C "talks" (dC C λ_ _ t _=>t):=yj L F I T;have M4:Md l.prog w K g base 1 C "sayings" (dC C λ_ _ _ y=>y):=uE r j z T;have M5:Md l.prog w K g base 1 C "tellings" (i5 C):=wH m i o T;have a0:=h19.u X G λ_ _ D=>xo D T M4;have U:=h20.u X G λ_ _ D=>AO D T M1 a0;have Z:Gd l.prog w K g base 1 "is_above" o4:=h21.u X G λ_ _ D=>xq D;have a4:Gd l.prog w K g base 1 "is_silent" zD:=h22.u X G λ_ _ D=>vi D T;have a2:Gd l.prog w K g base 1 "is_barred" zj:=h23.u X G λ_ _ D=>ub D;have Q:=h25.u X G λ_ _ D=>nK D T M3 M4 M5 U Z a4 a2;have Y:=h24.u X G λ_ _ D=>qp D T M2 U Z;have P1:=h34.u X G λ_ _ D=>Jt D T M3 M5;have P2:=h35.u X G λ_ _ D=>Gy D T M2 Y;have P3:Gd l.prog w K g base 1 "saw_ahead_of" DJ:=h36.u X G λ_ _ D=>Kq D;have P4:=h37.u X G λ_ _ D=>LR D T P1 Q;have P5:Gd l.prog w K g base 1 "leads_to" xM:=h38.u X G λ_ _ D=>Cw D;have P6:Gd l.prog w K g base 1 "hour_of" GH:=h27.u X G λ_ _ D=>Od D;have P7:=h28.u X G λ_ _ D=>Mh D P6;have P8:=h29.u X G λ_ _ D=>NB D T P6 P7;have P9:=h26.u X G λ_ _ D=>Ob D T M2 M3 Y Q;have Q1:Gd l.prog w K g base 1 "rooms_of" (KP l.prog w):=h30.u X G λ_ _ D=>NV D;have Q2:Gd l.prog w K g base 1 "reached_from" (JR l.prog w):=h31.u X G λ_ _ D=>MQ D;have Q3:Gd l.prog w K g base 1 "take_way" (Kr l.prog w):=h32.u X G λ_ _ D=>Oc D;have Q4:=h33.u X G λ_ _ D=>Jx D Q1 Q2 Q3;have Q5:=h39.u X G λ_ _ D=>N4 D P2 P4 P3 P5;have Q6:=h40.u X G λ_ _ D=>N3 D P2 Q4 Q5;have Q7:Gd l.prog w K g base 1 "talks_behind" (Ka l.prog w):=h41.u X G λ_ _ D=>N6 D;have Q8:=h42.u X G λ_ _ D=>MG D T P8;have Q9:=h43.u X G λ_ _ D=>MR D T Q6 P9 Q7 Q8;have an:=h44.u X G λ_ _ D=>NJ D T Q6 M3;have A1:Gd l.prog w K g base 1 "_law_cell_at" (xK K):=h45.u X G λ_ _ D=>FJ D T;have A2:Gd l.prog w K g base 1 "_law_mix" rF:=h46.u X G λ_ _ D=>KY D;have A3:=h47.u X G λ_ _ D=>Cb D T A2;have A4:=h48.u X G λ_ _ D=>GU D T A2;have A5:=h49.u X G λ_ _ D=>HS D T A1 A2 A3 A4;have A6:=h50.u X G λ_ _ D=>Dc D T GB;have A7:Gd l.prog w K g base 1 "_law_free" oU:=h51.u X G λ_ _ D=>EF D;have A8:=h52.u X G λ_ _ D=>CS D T A7;have A9:=h53.u X G λ_ _ D=>Dv D T A7;have a1:Gd l.prog w K g base 1 "_law_in_order" DA:=h54.u X G λ_ _ D=>KJ D T;have ap:Gd l.prog w K g base 1 "_law_leads" zE:=h55.u X G λ_ _ D=>KH D T;have ay:=h56.u X G λ_ _ D=>LH D T Q9 an ap;exact J7 bc T A5 A2 A6 A8 A9 a1 ay
def walk{l:PySem.W.OpenLaw}{q:Xi}{loose:Xm Xn}{XP:(Xr)->Heap->Prop}{YP:Xj->Heap->Prop}{d:DefRec}{K:Params->Frag}(r:l.most=some 63)(g:d.params.defaults=[])
  (v:∀(w:Xj)(h:Heap),YP w h->(K w.params).In h)
  (F:∀(w:Xj)(e:Xr)(i:Xg)(h:Heap),(K w.params).In h->h.Ns mainGlobals e->e d.name=some (.ref i)->
   ∃j:FuncData,(∀(s:Xh) (u:Xf),BindsTo s j ⟨[u],[]⟩ [("_law_script",u)])/\∀base:Heap,(K w.params).In base->base.Ns mainGlobals e->fq l.prog w (K w.params) e base oF 10 i j ["_law_script"] (Ad<|K w.params)):
  PySem.W.WalkO q loose XP YP l.row.toRowW d [] (λf vs=>PySem.call f vs):=
 HG (n:=63) (k:=10) (x:= "_law_script") (CX:=λ_=>oF) (sp:=λw=>Ad<|K w.params) r (by decide) g ⟨rfl,by decide,by decide⟩ v F (λ_ _ a p m _ o=>⟨a,p,rfl,o,m,λ_=>rfl⟩) λ_ _ _ _ _ z=>z
end K43
open PySem.W
theorem PySem.Challenge.cw_knewby_k43_whole_cut_and_lines_holds : PySem.Challenge.rw_knewby_k43_whole_cut_and_lines.Holds :=
 K43.closing λf e n m=>K43.walk (l:=PySem.Challenge.rw_knewby_k43_whole_cut_and_lines) rfl e n λw j i h g G a=>K43.all_mk g G (by rw[<-f];exact a)<|m w j i h g G a
