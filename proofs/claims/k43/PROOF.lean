import PyProof.Rows.All
import Wide.All
import OpenK.KLine
import OpenK.KWalk
import KE.KNestM
import KE.KDictList
import KE.KDictSum
import KE.KIsAll
import Wide.FinOn
import Lean
import PyProof.EqAt
import PyProof.EqKinds
import PyProof.TupleCall
import PyProof.ListRange
import PyProof.Rows.SortStr
import KE.KRevIter
import KE.KDictOf
import PyProof.AttrMissSeq
import PyProof.Rows.SortRunsK
import PyProof.Rows.SortShellK
import PyProof.Rows.CallKwBuiltin
import KE.KxText
import PyProof.DictWalks
import PyProof.DictItems
import PyProof.FactsAll.set_1
import PyProof.FactsAll.set_2
import KE.KSortedL
import KE.KSortedM
import KE.KSorted
import PySem.Challenge.RW_knewby_k43_whole_cut_and_lines
set_option Elab.async false
set_option linter.all false
set_option maxRecDepth 100000
set_option maxHeartbeats 4000000
def QH:=@PySem.wpAny_bind
def QI:=@PySem.wpAny_pure
def QJ:=@List.getElem?_eq_getElem
def QK:=@List.length_append
def QL:=@PySem.Heap.get?_push_of_some
def QM:=@List.length_map
def QN:=@List.mem_of_getElem?
def QO:=@if_neg
def QP:=@Nat.le_refl
def QQ:=@List.mem_singleton
def QR:=@if_pos
def QS:=@List.append_assoc
def QT:=@of_decide_eq_true
def QU:=@decide_eq_false
def QV:=@List.mem_append_right
def QW:=@List.getElem?_append_right
def QX:=@PySem.Heap.get?_push_size
def QY:=@List.getElem?_map
def QZ:=@Array.length_toList
def Q0:=@PyProof.Rows.wpS_pure
def Ra:=@List.mem_filter
def Rb:=@Nat.ne_of_lt
def Rc:=@Array.getElem?_toList
def Rf:=@List.getElem?_append_left
def Rg:=@List.getElem?_of_mem
def Rh:=@PySem.sizeLine_eq
def Ri:=@PySem.Heap.lt_size
def Rj:=@List.mem_append_left
def Rk:=@PySem.wpAny_ite_split
def Rl:=@PySem.Heap.SameBut.update
def Rm:=@List.eq_nil_of_length_eq_zero
def Rn:=@Nat.le_trans
def Ro:=@List.mem_append
def Rp:=@Nat.lt_of_lt_of_le
def Rq:=@List.mem_cons
def Rr:=@Option.some.inj
def Rt:=@PySem.wpAny_call_entry
def Ru:=@List.mem_map
def Rv:=@PySem.wpAny_holding
def Rw:=@List.size_toArray
def Ry:=@List.append_nil
def Rz:=@decide_eq_true_iff
def RA:=@PySem.F.slot_list_append
def RB:=@Array.getElem?_eq_getElem
def RC:=@Option.map_eq_some_iff
def RD:=@List.mem_cons_self
def RE:=@PySem.F.type_list_append
def RF:=@List.mem_singleton_self
def RG:=@List.length_cons
def RH:=@Bool.eq_false_iff
def RJ:=@List.length_filter_le
def RK:=@List.mem_cons_of_mem
def RL:=@List.map_cons
def RM:=@PyProof.Rows.wpS_bind
def RN:=@List.take_add_one
def RO:=@PySem.wpAny_truthy_bool
def RP:=@congrArg
def RQ:=@Nat.zero_le
def RR:=@Classical.byContradiction
def RS:=@PySem.wpAny_newObj_type
def RT:=@PyProof.Rows.F.plain_set_update_loop
def RU:=@List.length_take
def RV:=@List.take_append_drop
def RW:=@PySem.wpAny_mono
def RX:=@List.take_length
def RY:=@PySem.Paired.length
def RZ:=@PySem.F.plainAttrs_list
def R3:=@PySem.wpAny_callSpecial?_slot
def R4:=@beq_self_eq_true
def R5:=@List.foldl_cons
def R6:=@Bool.and_eq_true
def R7:=@PySem.Around.under_plainId
def R8:=@PySem.wpAny_dictEpoch
def R9:=@beq_eq_false_iff_ne
def Sa:=@PySem.W.mg_none_of
def Sb:=@PySem.F.slot_dict_itemiterator_next
def Sd:=@Bool.true_and
def Se:=@List.take_of_length_le
def Sf:=@List.filter_cons
def Sg:=@List.getD_eq_getElem?_getD
def Si:=@List.length_reverse
def Sj:=@PySem.wpAny_setField
def Sk:=@PyProof.Rows.callWith_type1
def Sl:=@PySem.codeAny_builtin
def Sm:=@PySem.wpAny_rule
def Sn:=@List.all_eq_true
def So:=@PySem.wpAny_askSetting
def Sq:=@Int.toNat_of_nonneg
def Sr:=@List.map_append
def Ss:=@PySem.Heap.get?_update_self
def Su:=@List.mem_range
def Sv:=@List.getElem?_take_of_lt
def Sw:=@PySem.wpAny_dictEntries
def Sx:=@PySem.wpAny_setState_of
def Sy:=@List.length_drop
def Sz:=@PySem.F.called_set
def SA:=@Nat.le_of_eq
def SE:=@Nat.succ.inj
def SF:=@Bool.and_false
def SG:=@PySem.lookup_relabel_local
def SH:=@PySem.Calls.spliced_cons
def SI:=@List.length_range
def SJ:=@List.filter_append
def SK:=@List.flatten_cons
def SM:=@PySem.mem_of_lookup
def SO:=@PyProof.Rows.F.entry_set_update_loop
def SQ:=@PySem.wpAny_fieldsOf
def SR:=@List.mem_of_mem_take
def SS:=@PySem.F.slot_dict_keyiterator_next
def SU:=@Bool.false_and
def SV:=@List.Sublist.nodup
def SX:=@Nat.lt_succ_of_lt
def SY:=@Array.toList_append
def Ta:=@List.findIdx?_eq_some_iff_getElem
def Tb:=@PySem.wpAny_Call_Name_kw
def Tc:=@Sum.inr.inj
def Td:=@Nat.zero_add
def Te:=@PySem.wpAny_specialOf
def Tf:=@List.getElem_mem
def Tg:=@PySem.Heap.get?_update_ne
def Th:=@List.map_map
def Ti:=@PySem.codeAny_mono
def Tj:=@List.nodup_cons
def Tn:=@PySem.plainId_quiet
def To:=@Ne.symm
def Tp:=@List.any_cons
def Tq:=@List.filter_sublist
def Ts:=@PySem.wpAny_isInstance
def Tu:=@PySem.wpAny_typeNameOfWhole_itemiter
def Tv:=@Nat.lt_succ_self
def Tw:=@List.Pairwise.sublist
def Tx:=@List.getElem?_eq_none
def Tz:=@PyProof.Rows.KeyOrd.klt_of_klt_of_kle
def TB:=@List.pairwise_singleton
def TC:=@PySem.wpAny_typeNameOfWhole_keyiter
def TF:=@PySem.Calls.callWith_builtin
def TH:=@List.sum_cons
def TJ:=@PySem.wpAny_passesOwn
def TM:=@Array.getElem?_eq_some_iff
def TN:=@List.getElem?_drop
def TQ:=@PySem.wpAny_attempt
def TU:=@PySem.builtinLookup_eq_fast
def TV:=@PySem.wpAny_notOrdered_dict
def TX:=@PySem.wpAny_pyIter_list
def TY:=@PySem.Heap.get?_push_ne
def TZ:=@List.getElem_inj
def T1:=@PySem.W.Fast.te10274390034422433532
def T2:=@PySem.W.Fast.te14289696077712309145
def T3:=@PySem.W.Fast.te11892475500146522536
def T4:=@PySem.W.Fast.te10156331382660048174
def T5:=@PySem.W.Fast.te14364793385576792824
def T6:=@Nat.le_succ
def T7:=@Option.isSome_map
def T8:=@PyProof.Rows.KeyOrd.kle_refl
def T9:=@PySem.W.Fast.te4187177175401517315
def Ua:=@PySem.W.Fast.te1435165496053646825
def Ub:=@PySem.W.Fast.te6613529449190102663
def Uc:=@PySem.W.Fast.te5923862056798008813
def Ud:=@PyProof.Rows.listUpdate_at
def Ue:=@PySem.wpAny_typeNameOf_itemiter
def Ug:=@Prod.mk.inj
def Uh:=@PySem.wpAny_typeNameOf_keyiter
def Ui:=@PySem.Heap.size_push
def Uj:=@List.drop_zero
def Uk:=@PySem.tupleKind_room_in1
def Ul:=@List.take_zero
def Um:=@List.getElem_map
def Uo:=@PySem.wpAny_setField_rec
def Uq:=@List.getElem?_reverse
def Ur:=@PyProof.Rows.KeyOrd.kle_trans
def Us:=@Nat.le_of_lt
def Ut:=@PySem.F.slot_list_getattribute
def Uu:=@Bool.and_true
def Uv:=@PySem.Calls.spliced_nil
def Uw:=@PySem.Heap.get?_update_other
def Ux:=@Array.toList_extract
def Uy:=@List.mem_of_mem_drop
def Uz:=@PySem.wpAny_pyIter_slot
def UA:=@PySem.wpAny_isOneOf_itemiter
def UB:=@Int.le_refl
def UC:=@PySem.fits_of_scanBound
def UD:=@Nat.lt_irrefl
def UE:=@List.nodup_nil
def UG:=@eq_false_of_ne_true
def UH:=@Nat.ne_of_gt
def UI:=@Nat.min_eq_left
def UJ:=@PySem.Calls.evalArgs_plain
def UK:=@PySem.Obj.data_mapDictKeys
def UL:=@List.pairwise_append
def UM:=@PySem.typeLookup_type
def UN:=@Nat.le_add_right
def UO:=@List.pairwise_iff_getElem
def UP:=@List.drop_eq_getElem_cons
def UQ:=@List.findIdx?_eq_none_iff
def UR:=@Bool.not_eq_true'
def US:=@Nat.lt_of_succ_lt
def UT:=@Nat.sub_pos_of_lt
def UU:=@List.ext_getElem?
def UW:=@Nat.lt_of_le_of_lt
def UX:=@List.Pairwise.imp_of_mem
def UY:=@List.filterMap_cons
def UZ:=@List.mem_map_of_mem
def U2:=@Option.bind_eq_some_iff
def U3:=@PySem.W.kia_one
def U4:=@PySem.wpAny_seqItems
def U5:=@Classical.axiomOfChoice
def U6:=@Nat.lt_of_not_le
def U7:=@PySem.Obj.data_mapFields
def U8:=@List.range_succ_eq_map
def U9:=@List.any_eq_true
def Va:=@List.pairwise_lt_range
def Vb:=@PySem.Value.isInt_shape
def Vc:=@PySem.wpAny_of_eq
def Vd:=@PySem.F.slot_tuple_hash
def Ve:=@PySem.F.slot_dict_get
def Vf:=@List.getElem?_toArray
def Vg:=@Bool.and_eq_false_imp
def Vh:=@Bool.and_eq_true_iff
def Vi:=@Array.mem_toList_iff
def Vj:=@PySem.F.args_dict_get_3
def Vk:=@List.reverse_reverse
def Vl:=@Nat.not_succ_le_zero
def Vm:=@Array.getElem?_eq_none
def Vn:=@PyProof.Rows.wpS_modify
def Vo:=@List.pairwise_map
def Vp:=@PySem.F.entry_dict_get
def Vq:=@PySem.wpAny_typeOf
def Vr:=@List.reverse_append
def Vs:=@List.filter_eq_self
def Vt:=@List.length_take_le
def Vu:=@PySem.wpAny_execs_nil
def Vv:=@PySem.F.slot_dict_itemiterator_iter
def Vw:=@List.mem_filterMap
def Vx:=@beq_iff_eq
def Vy:=@Nat.lt_trans
def Vz:=@PyProof.Rows.wpS_get
def VA:=@Nat.lt_of_le_of_ne
def VB:=@Nat.pos_of_ne_zero
def VC:=@List.find?_eq_none
def VD:=@PySem.wpAny_isOneOf_keyiter
def VE:=@PySem.Obj.isFreed_of_fields
def VF:=@Nat.succ_pos
def VG:=@List.lookup_cons
def VH:=@PySem.F.plainAttrs_dict
def VI:=@PyProof.Rows.KeyOrd.klt_of_kle_of_klt
def VJ:=@List.flatten_append
def VL:=@List.getElem_of_mem
def VM:=@List.take_sublist
def VN:=@Int.toNat_natCast
def VO:=@PySem.isSubtype_type
def VP:=@List.foldl_append
def VQ:=@Nat.le_of_lt_succ
def VR:=@Array.toList_push
def VS:=@List.pairwise_iff_forall_sublist
def VT:=@PySem.wpAny_newTuple
def VU:=@List.nodup_append
def VW:=@Int.zero_add
def VX:=@Nat.min_le_right
def VY:=@List.pairwise_cons
def VZ:=@List.nodup_range
def V0:=@PySem.Obj.isFreed_of_dict
def V1:=@decide_eq_decide
def V2:=@PySem.wpAny_setEntries_of
def V3:=@List.mem_flatMap
def V4:=@PySem.wpAny_newList
def V5:=@PySem.wpAny_call
def V6:=@PySem.Walks.list
def V7:=@Nat.min_le_left
def V8:=@PyProof.Rows.get?_update_seq
def V9:=@List.filter_map
def Wa:=@PySem.wpAny_tupleItemsOf
def Wb:=@Nat.not_lt_zero
def Wc:=@List.all_cons
def Wd:=@List.flatMap_cons
def We:=@PySem.F.sub_list_frozenset
def Wf:=@PySem.wpAny_Call_method
def Wg:=@Array.toList_setIfInBounds
def Wh:=@Prod.ext
def Wi:=@List.length_eraseIdx_of_lt
def Wj:=@PySem.F.slot_dict_getitem
def Wk:=@List.foldl_nil
def Wl:=@PyProof.Rows.seqEpoch_at
def Wm:=@PySem.F.args_dict_itemiterator_next_1
def Wn:=@Option.isSome_iff_exists
def Wo:=@PySem.wpAny_Dict_empty
def Wq:=@PySem.F.plain_extend_loop
def Wr:=@PySem.F.args_dict_keyiterator_next_1
def Ws:=@PySem.F.entry_dict_itemiterator_next
def Wt:=@Int.lt_irrefl
def Wu:=@List.getElem?_replicate
def Wv:=@PySem.F.entry_type_call
def Ww:=@PySem.wpAny_letGo
def Wx:=@List.getElem?_cons_succ
def Wy:=@decide_eq_false_iff_not
def Wz:=@PySem.F.entry_dict_keyiterator_next
def WA:=@PySem.wpAny_field
def WB:=@PySem.F.plain_list_iadd
def WC:=@List.getLast?_cons_cons
def WD:=@List.getElem?_set_self
def WE:=@PySem.W.cellsFrom_some
def WG:=@PySem.SeqAt.EqAt.same
def WH:=@PySem.Heap.DictOf.new
def WI:=@PySem.codeAny_of_tree
def WJ:=@PySem.F.typeCall_set_1
def WK:=@PySem.F.entry_set_init
def WL:=@PySem.wpAny_updateSeq
def WM:=@List.drop_eq_nil_of_le
def WN:=@Nat.eq_zero_of_not_pos
def WO:=@Nat.sub_self
def WQ:=@Nat.lt_of_succ_lt_succ
def WR:=@PyProof.Rows.call_function_entry_kw
def WS:=@PySem.F.slot_tuple_eq
def WT:=@Nat.le_of_succ_le_succ
def WU:=@PySem.F.slot_dict_setdefault
def WV:=@Int.add_zero
def WW:=@Nat.sub_zero
def WX:=@List.of_mem_zip
def WY:=@List.length_replicate
def WZ:=@PySem.F.type_dict_get
def W0:=@Nat.le_of_sub_eq_zero
def W2:=@PyProof.Rows.size_push'
def W3:=@List.length_zip
def W4:=@PySem.F.plain_set_new
def W5:=@PySem.F.slot_set_iter
def W6:=@List.filterMap_append
def W7:=@List.any_append
def W8:=@List.pairwise_flatMap
def W9:=@List.getElem?_set_ne
def Xa:=@PySem.Calls.Name_function_global
def Xb:=@PySem.call_meets
def Xc:=@PySem.F.sub_list_set
def Xd:=@PySem.wpAny_runValue
def Xe:=@List.getElem?_mapIdx
def Xf:=@Array.toList_reverse
def Xg:=@PySem.isSubtype_stop
def Xh:=@PySem.entryFor_alias
def Xi:=@Nat.add_le_add_left
def Xj:=@Option.map_some
def Xk:=@Nat.add_sub_cancel'
def Xl:=@List.map_congr_left
def Xm:=@Bool.false_eq_true
def Xn:=@List.flatMap_append
abbrev Xo:=PySem.Value
abbrev Xp:=PySem.Addr
abbrev Xq:=PySem.Shared
abbrev Xr:=PySem.Program
abbrev Xs:=PySem.World
abbrev Xu:=Option
abbrev Xv:=PySem.Around
abbrev Xw:=List
abbrev Xx:=PySem.Str
abbrev Xy:=Xo->Xq->Prop
abbrev Xz:=Unit->Xq->Prop
abbrev XA:=Xw (Xp×PySem.Obj)
abbrev XB:=Xx->Xu Xo
open PySem
def bF0:¬false=true:=Bool.false_ne_true
def dT0{p:Prop}[Decidable p](h:p):decide p=true:=decide_eq_true h
def gI0{α:Type _}{l:Xw α}{i:Nat}{a:α}:l[i]?=some a↔∃h:i<l.length,l[i]=a:=List.getElem?_eq_some_iff
open Array (getElem?_eq_none length_toList toList_zip)
open Bool (and_eq_true false_eq_true)
open List (all_map any_map append_assoc drop_drop find?_cons forIn_cons length_append length_cons length_nil lookup_cons map_nil mem_cons not_mem_nil size_toArray)
open Nat (lt_min lt_trans min_self not_lt one_pos sub_le sub_lt)
open Option (getD_none)
open PySem.Heap (size_update)
open PySem.W (Frag callWith_K codeIn emptyDict findIn fnOf handedIn hasDictIn instObj isFn keepIn kitOne kitx_dict kitx_list lookIn makesIn methodObj mg_of nsIn plainGet plainGet_of plainOver takerIn)
section
open PySem.Spec PyProof.Rows
namespace L2
def inClass(s:Stmt)(j:Nat):Stmt:=match s with
 |.ClassDef _ _ _ body _ _ _ _ _ _ _=>body.getD j<|.Pass ⟨0,0,0,0⟩
 |_=>.Pass ⟨0,0,0,0⟩
def dY(s:Stmt):Arguments:=match s with
 |.FunctionDef _ a _ _ _ _ _ _ _ _=>a
 |_=>{ posonlyargs:=[],args:=[],vararg:=none,kwonlyargs:=[],kw_defaults:=[],kwarg:=none,defaults:=[] }
def df(s:Stmt):Xw Stmt:=match s with
 |.FunctionDef _ _ b _ _ _ _ _ _ _=>b
 |_=>[]
def cI(s:Stmt):Scope:=match s with
 |.FunctionDef _ _ _ _ _ _ a _ _ _=>a
 |_=>{ kind:=.function,names:=[],isGenerator:=false,isCoroutine:=false }
end L2
namespace TR
open PySem.W
def HJ(a:SharedT->Thread->Xu (SharedT×Thread))(ok:Thread->Bool):Nat->SharedT->Thread->Xu SharedT
 |0,_,_=>none
 |n+1,s,t=>match through t with
  |true=>some s
  |false=>match ok t with
   |false=>none
   |true=>match a s t with
    |some (s',t')=>HJ a ok n s' t'
    |none=>none
theorem Ap{tb:String->Xu Builtin}{p:Xr}{w:Xs}{a:Nat}{ann:Xu Xo}:∀{n:Nat}{s s':SharedT}{t:Thread},HJ (stepT (denote tb) p w) (stepOk a ann) n s t=some s'->topRun tb p w a ann n s.abs t=some s'.abs
 |0,_,_,_,h=>by cases h
 |n+1,s,s',t,h=>by
  unfold HJ at h;unfold topRun;cases i:through t with
  |true=>rw[i]at h;cases h;rfl
  |false=>
   rw[i]at h;cases f:stepOk a ann t with
   |false=>rw[f]at h;cases h
   |true=>
    rw[f]at h;cases e:stepT (denote tb) p w s t with
    |none=>rw[e]at h;cases h
    |some r=>
     obtain⟨g,j⟩:=r;rw[e]at h;rw[stepT_spec e];exact Ap h
def grow:Xw Obj->BT->Nat->Xu BT
 |[],t,_=>some t
 |o::r,t,n=>match ((t.ins n o).get n).isSome with
  |true=>grow r (t.ins n o)<|n+1
  |false=>none
theorem xB{life:Life}:∀{l:Xw Obj}{t t':BT}{n:Nat},grow l t n=some t'->absHeap t' (n+l.length) life=l.foldl (λh o=>h.push o) (absHeap t n life)
 |[],_,_,_,h=>by cases h;rfl
 |o::r,t,t',n,h=>by
  unfold grow at h;cases g:((t.ins n o).get n).isSome with
  |false=>rw[g]at h;cases h
  |true=>
   rw[g]at h;have a:=xB (life:=life) h;rw[absHeap_ins g]at a;rw[RG,R5,<-a]
   congr 1
   omega
theorem vJ(life:Life):∀(l m:Xw Obj),l.foldl (λ(h:Heap) o=>h.push o) ⟨m.toArray,life⟩=⟨(m++l).toArray,life⟩
 |[],m=>by rw[Ry];rfl
 |o::r,m=>by
  have:(⟨m.toArray,life⟩:Heap).push o=⟨(m++[o]).toArray,life⟩:=by
   show(⟨m.toArray.push o,life⟩:Heap)=_;rw[List.push_toArray]
  rw[R5,this,vJ life r,QS];rfl
def PQ(s:Xq)(t:BT):SharedT:=⟨t,s.heap.objs.size,s.heap.life,s.gens,s.drawn,s.toks,s.os⟩
def F8{s:Xq}{t:BT}(h:grow s.heap.objs.toList .nil 0=some t):(PQ s t).abs=s:=by
 have:=xB (life:=s.heap.life) h;rw[Td,show absHeap .nil 0 s.heap.life=⟨([]:Xw Obj).toArray,s.heap.life⟩ from rfl,vJ,List.nil_append,QZ]at this;obtain⟨⟨objs,life⟩,gens,drawn,toks,a⟩:=s;show(⟨absHeap t objs.size life,gens,drawn,toks,a⟩:Xq)=_;rw[this]
def qO{α:Type}(p:Xr)(w:Xs)(N:Nat)(look:Xq->Xq->α):Xu α:=(fencedOpening treeTable p w N).bind λa=>(grow a.heap.objs.toList .nil 0).bind λt=>match a.heap.isNs mainGlobals&&a.gens.size==0 with
 |true=>(HJ (stepT (denote treeTable) p w) (stepOk a.heap.objs.size<|a.heap.nsMap mainGlobals "__annotations__") N (PQ a t)<|topStub p).bind λe=>some<|look a e.abs
 |false=>none
def tF{α:Type}{p:Xr}{w:Xs}{N:Nat}{look:Xq->Xq->α}{a:α}(h:qO p w N look=some a):∃s₀ e,fencedOpening treeTable p w N=some s₀/\(s₀.heap.isNs mainGlobals&&s₀.gens.size==0)=true/\topRun treeTable p w s₀.heap.objs.size (s₀.heap.nsMap mainGlobals "__annotations__") N s₀ (topStub p)=some e/\look s₀ e=a:=by
 unfold qO at h;obtain⟨s₀,f,h⟩:=U2.mp h;obtain⟨t,i,h⟩:=U2.mp h;refine⟨s₀,?_⟩;cases c:(s₀.heap.isNs mainGlobals&&s₀.gens.size==0) with
 |false=>rw[c]at h;cases h
 |true=>
  rw[c]at h;obtain⟨e,g,h⟩:=U2.mp h;have r:=Ap g;rw[F8 i]at r;exact⟨e.abs,f,rfl,r,Rr h⟩
def Nd{p q:Xr}{loose:Xw Xx}{Xt:Xq->Bool}{α:Type}{Yf:Xq->α}{Ya:Xs->α}{N:Nat}
  (m:∀w,qO p w N (λs₀ a=>staticsOk (importedModules p.main.body) s₀.heap a.heap&&namesBound p a.heap&&gensDone a&&laidKept s₀.heap a.heap)=some true)
  (l:∀w,qO p w N (λ_ a=>openSeen q loose (importedModules p.main.body) Xt true a)=some (openGood q loose))
  (j:∀w,qO p w N (λ_ a=>Yf a)=some (Ya w)):LeftO p q loose Xt Yf Ya N:=λw=>by
 obtain⟨s₀,a,i,c,r,m⟩:=tF<|m w;obtain⟨f,g,e,_,h,l⟩:=tF<|l w;rw[i]at e;cases e;rw[r]at h;cases h;obtain⟨f,g,e,_,h,j⟩:=tF<|j w;rw[i]at e;cases e;rw[r]at h;cases h;unfold openEnds;rw[i];show(topFrom treeTable p w N s₀).map _=_;unfold topFrom;rw[c];dsimp only;rw[r];simp only[Option.bind_some];rw[m];show some (openSeen q loose (importedModules p.main.body) Xt true a,Yf a)=_;rw[l,j]
end TR
section
namespace K43
open L2
def top(i:Nat):Stmt:=PySem.Challenge.pw_knewby_k43_whole_cut_and_lines.main.body.getD i<|.Pass ⟨0,0,0,0⟩
abbrev lq:Stmt:=top 2
abbrev fV:Stmt:=top 3
abbrev kO:Stmt:=top 4
abbrev jD:Stmt:=top 5
abbrev jw:Stmt:=top 6
abbrev gR:Stmt:=top 7
abbrev fR:Stmt:=top 8
abbrev eL:Stmt:=top 10
abbrev gD:Stmt:=top 12
abbrev mQ:Stmt:=top 13
abbrev iM:Stmt:=top 14
abbrev fZ:Stmt:=top 15
abbrev k7:Stmt:=top 21
abbrev gG:Stmt:=top 22
abbrev kQ:Stmt:=top 23
abbrev ph:Stmt:=top 24
abbrev i9:Stmt:=top 26
abbrev gB:Stmt:=top 27
abbrev fQ:Stmt:=top 28
abbrev lE:Stmt:=top 29
abbrev iS:Stmt:=top 30
abbrev j3:Stmt:=top 31
abbrev gF:Stmt:=top 32
abbrev jL:Stmt:=top 33
abbrev gV:Stmt:=top 34
abbrev k9:Stmt:=top 36
abbrev iW:Stmt:=top 39
abbrev mC:Stmt:=top 40
abbrev kq:Stmt:=top 41
abbrev fX:Stmt:=top 48
abbrev ig:Stmt:=top 49
abbrev jJ:Stmt:=top 50
abbrev d6:Stmt:=top 51
abbrev nF:Stmt:=top 52
abbrev lF:Stmt:=top 53
abbrev pE:Stmt:=top 54
abbrev mh:Stmt:=top 55
abbrev nB:Stmt:=top 56
abbrev ff:Stmt:=top 57
abbrev jN:Stmt:=top 58
abbrev hZ:Stmt:=top 59
abbrev iH:Stmt:=top 60
abbrev jU:Stmt:=top 61
abbrev hU:Stmt:=top 62
abbrev iD:Stmt:=inClass (top 63) 0
abbrev fb:Stmt:=inClass (top 63) 1
abbrev fB:Stmt:=inClass (top 63) 2
abbrev gx:Stmt:=inClass (top 63) 3
abbrev eX:Stmt:=inClass (top 63) 4
abbrev eE:Stmt:=inClass (top 63) 9
abbrev jI:Stmt:=top 65
abbrev uN:Stmt:=top 66
abbrev mT:Stmt:=top 67
abbrev kN:Stmt:=top 68
abbrev pj:Stmt:=top 69
abbrev pR:Stmt:=top 70
abbrev pA:Stmt:=top 71
abbrev pN:Stmt:=top 72
abbrev pH:Stmt:=top 73
abbrev i7:Stmt:=top 74
abbrev nh:Stmt:=top 75
abbrev nA:Stmt:=top 76
abbrev pe:Stmt:=top 77
def oneOf:Xo->Xu Xx
 |.str x _=>some x
 |_=>none
def strsOf(l:Xw Xo):Xw (Xu Xx):=l.map oneOf
def Jw:Xw (Xu Xx):=[some "person",some "talk",some "saw",some "knew",some "heard",some "told",some "not",some "nobody",some "never",some "by",some "from",some "to"]
inductive FF(K:Frag)(x:Xx)(st:Stmt):Prop
 |mk{f:Xp}{h kV g pm cd ct:Xo}{e an:Xu Xp}{sl:Array (Xu Xo)}(a:nsIn K mainGlobals x=some (some (.ref f)))(l:K.lookup f=some ⟨h,e,.func (fnOf x x (dY st) (df st) (cI st) .none kV g pm an cd ct),sl⟩)(c:codeIn K cd x=true)(k:keepIn K (.ref f)=true)
inductive Facts(K:Frag):Prop
 |mk{kw C  f58 f59 f60 f61 f62 f63:Xp}
  {a1 X T F S ac G ar l p al as H:Xu Xp}{a0 Z aq j v L o:Array (Xu Xo)}{x y Y ad f ab m w U B i J r R Q M e N I D P an a W E z am A g n s q ap O h av:Xo}{XF:Array Xo}{nW:Nat}{Yr a3 a2 ay ax:Tok}
  (aW:nsIn K mainGlobals "KEPT_WORDS" =some (some (.ref kw))) (lW:K.lookup kw=some ⟨.type "tuple",a1,.seq XF nW,a0⟩) (vW:strsOf XF.toList=Jw)
 (h1:FF K "is_whole" iW) (h2:FF K "is_hour" mC) (h3:FF K "is_name" kq) (h4:FF K "is_list_up_to" fX) (h5:FF K "is_tuple_of" ig) (h6:FF K "is_person" jJ) (h7:FF K "are_unlike_persons" d6) (h8:FF K "is_tale" nF) (h9:FF K "is_sight" lF) (cs:FF K "is_way" pE) (eu:FF K "is_talk" mh) (dx:FF K "is_span" nB) (a9:FF K "is_short_saying" ff) (bb:FF K "is_saying" jN) (bf:FF K "are_persons" hZ) (bv:FF K "are_sights" iH) (dl:FF K "are_talks" jU) (ef:FF K "are_sayings" hU) (dk:FF K "floor_of" lq) (ct:FF K "floors_of_all" fV) (d3:FF K "is_above" kO) (ej:FF K "is_silent" jD) (eh:FF K "is_barred" jw) (c2:FF K "open_sights" gR) (eo:FF K "open_tellings" fR) (dc:FF K "open_entries" gD) (bi:FF K "hour_of" mQ) (d0:FF K "can_follow" iM) (c1:FF K "first_entries" fZ) (es:FF K "rooms_of" k7) (e2:FF K "reached_from" gG) (d1:FF K "take_way" kQ) (d2:FF K "filled" ph) (cc:FF K "hours_of_tellings" eL) (ek:FF K "seen_hours" i9) (a4:FF K "saw_ahead_of" gB) (de:FF K "hours_of_open" fQ) (cl:FF K "leads_to" lE) (c7:FF K "talk_links" iS) (eq:FF K "talk_flow" j3) (db:FF K "talks_behind" gF) (ew:FF K "line_over" jL) (b3:FF K "apart_lines" gV) (ce:FF K "talk_cut" k9) (el:FF K "_law_cell_at" jI) (c3:FF K "_law_mix" uN) (b4:FF K "_law_names" mT) (em:FF K "_law_saying" kN) (ec:FF K "_law_made" pj) (e3:FF K "_law_book" pR) (b2:FF K "_law_free" pA) (ei:FF K "_law_open" pN) (ex:FF K "_law_seen" pH) (cf:FF K "_law_in_order" i7) (cx:FF K "_law_leads" nh) (b0:FF K "_law_asked" nA) (cn:FF K "law" pe)
  (aC:nsIn K mainGlobals "Book" =some (some (.ref C))) (pg:plainGet K C Str.empty=true) (hd:hasDictIn K C=true) (po:plainOver K C=true) (sa:findIn K (.ref C) "__setattr__" =some (some (.builtin "object.__setattr__"))) (mk:makesIn K C=true) (kc:keepIn K (.ref C)=true)
  (nP:findIn K (.ref C) "kept_persons" =some none) (nS:findIn K (.ref C) "kept_sights" =some none) (nT:findIn K (.ref C) "kept_talks" =some none) (nY:findIn K (.ref C) "kept_sayings" =some none)
  (ca:findIn K (.ref C) "__init__" =some (some (.ref f58))) (cr:isFn K (.ref f58)=true) (bd:K.lookup f58=some ⟨x,X,.func (fnOf "__init__" "Book.__init__" (dY iD) (df iD) (cI iD) .none y Y ad T f ab),Z⟩) (ev:codeIn K f "Book.__init__" =true) (bn:keepIn K (.ref f58)=true)
  (ea:findIn K (.ref C) "persons" =some (some (.ref f59))) (ch:isFn K (.ref f59)=true) (ed:K.lookup f59=some ⟨m,F,.func (fnOf "persons" "Book.persons" (dY fb) (df fb) (cI fb) .none w U B S i J),aq⟩) (eb:codeIn K i "Book.persons" =true) (da:keepIn K (.ref f59)=true)
  (c0:findIn K (.ref C) "sights" =some (some (.ref f60))) (e0:isFn K (.ref f60)=true) (XZ:K.lookup f60=some ⟨r,ac,.func (fnOf "sights" "Book.sights" (dY fB) (df fB) (cI fB) .none R Q M G e N),j⟩) (ck:codeIn K e "Book.sights" =true) (bm:keepIn K (.ref f60)=true)
  (en:findIn K (.ref C) "talks" =some (some (.ref f61))) (ez:isFn K (.ref f61)=true) (eg:K.lookup f61=some ⟨I,ar,.func (fnOf "talks" "Book.talks" (dY gx) (df gx) (cI gx) .none D P an l a W),v⟩) (et:codeIn K a "Book.talks" =true) (YC:keepIn K (.ref f61)=true)
  (cg:findIn K (.ref C) "sayings" =some (some (.ref f62))) (ep:isFn K (.ref f62)=true) (er:K.lookup f62=some ⟨E,p,.func (fnOf "sayings" "Book.sayings" (dY eX) (df eX) (cI eX) .none z am A al g n),L⟩) (dm:codeIn K g "Book.sayings" =true) (dd:keepIn K (.ref f62)=true)
  (dr:findIn K (.ref C) "tellings" =some (some (.ref f63))) (cm:isFn K (.ref f63)=true) (e1:K.lookup f63=some ⟨s,as,.func (fnOf "tellings" "Book.tellings" (dY eE) (df eE) (cI eE) .none q ap O H h av),o⟩) (dg:codeIn K h "Book.tellings" =true) (bx:keepIn K (.ref f63)=true)
  (z1:nsIn K mainGlobals "isinstance" =some none) (z2:nsIn K mainGlobals "int" =some none) (z3:nsIn K mainGlobals "bool" =some none) (z4:nsIn K mainGlobals "str" =some none) (z5:nsIn K mainGlobals "len" =some none) (z6:nsIn K mainGlobals "all" =some none) (z7:nsIn K mainGlobals "range" =some none) (z8:nsIn K mainGlobals "list" =some none) (z9:nsIn K mainGlobals "tuple" =some none) (bc:nsIn K mainGlobals "set" =some none) (e4:nsIn K mainGlobals "zip" =some none) (ey:nsIn K mainGlobals "enumerate" =some none) (be:nsIn K mainGlobals "min" =some none) (c5:nsIn K mainGlobals "max" =some none) (dn:nsIn K mainGlobals "any" =some none) (cd:nsIn K mainGlobals "sorted" =some none) (co:nsIn K mainGlobals "dict" =some none) (cp:nsIn K mainGlobals "sum" =some none) (b1:nsIn K mainGlobals "reversed" =some none)
  (g1:nsIn K mainGlobals "MOST_PERSONS" =some (some (.int 24 Yr))) (g2:nsIn K mainGlobals "MOST_SIGHTS" =some (some (.int 24 a3))) (g3:nsIn K mainGlobals "MOST_TALKS" =some (some (.int 120 a2))) (g4:nsIn K mainGlobals "MOST_SAYINGS" =some (some (.int 60 ay))) (g5:nsIn K mainGlobals "MOST_WORDS" =some (some (.int 6 ax))):Facts K
open PySem.W in
def vw:Xr:=view PySem.Challenge.rw_knewby_k43_whole_cut_and_lines.row.toRowW.prog [0,2,3,4,5,6,7,8,10,12,13,14,15,17,18,19,21,22,23,24,26,27,28,29,30,31,32,33,34,36,38,39,40,41,43,44,45,46,47,48,49,50,51,52,53,54,55,56,57,58,59,60,61,62,63,65,66,67,68,69,70,71,72,73,74,75,76,77]
end K43
open PySem.W
def PySem.W.Fast.tw13034260701376528585:PySem.Program:=PySem.Challenge.pw_knewby_k43_whole_cut_and_lines
def PySem.W.Fast.te13034260701376528585:PySem.Challenge.pw_knewby_k43_whole_cut_and_lines=PySem.W.Fast.tw13034260701376528585:=rfl
set_option maxRecDepth 100000 in
def K43.yP(w:Xs):TR.qO (OpenRow.toRowW PySem.Challenge.rw_knewby_k43_whole_cut_and_lines.row).prog w 20000 (λs₀ a=>staticsOk (importedModules (OpenRow.toRowW PySem.Challenge.rw_knewby_k43_whole_cut_and_lines.row).prog.main.body) s₀.heap a.heap&&namesBound (OpenRow.toRowW PySem.Challenge.rw_knewby_k43_whole_cut_and_lines.row).prog a.heap&&gensDone a&&laidKept s₀.heap a.heap)=some true:=by
 delta TR.qO PySem.W.fencedOpening;(try rw[T1]);(try rw[T9]);(try rw[Ua]);(try rw[T2]);(try rw[T3]);(try rw[T4]);(try rw[Ub]);(try rw[T5]);(try rw[Uc]);kernel_rfl
set_option maxRecDepth 100000 in
def K43.yt(w:Xs):TR.qO (OpenRow.toRowW PySem.Challenge.rw_knewby_k43_whole_cut_and_lines.row).prog w 20000 (λ_ a=>openSeen K43.vw [] (importedModules (OpenRow.toRowW PySem.Challenge.rw_knewby_k43_whole_cut_and_lines.row).prog.main.body) (λs=>xlAt K43.vw [] s&&recOk (RowW.records<|OpenRow.toRowW PySem.Challenge.rw_knewby_k43_whole_cut_and_lines.row) s) true a)=some (openGood K43.vw []):=by
 delta TR.qO PySem.W.fencedOpening;(try rw[T1]);(try rw[T9]);(try rw[Ua]);(try rw[T2]);(try rw[T3]);(try rw[T4]);(try rw[Ub]);(try rw[T5]);(try rw[Uc]);kernel_rfl
local macro_rules
 | `(tactic|o_head $H)=> `(tactic| (
  refine holds_open (N:=20000) (q:=K43.vw) (loose:=[])
   (Xt:=λs=>xlAt K43.vw [] s&&recOk (RowW.records (OpenRow.toRowW PySem.Challenge.rw_knewby_k43_whole_cut_and_lines.row)) s)
   (XP:=XL K43.vw []) (YP:=Hook.says $H) (Ya:=Hook.val $H) (Yf:=Hook.obs $H)
   ?hl (Hook.of $H) (Hook.keeps $H)
   (λs e=>xl_of s (Vh.mp e).1) XL.keeps
   (by rfl) (by rfl) (by rfl)
   (λs e=>recFacts_of (Vh.mp e).2)
   (by rfl) (by first|assumption|decide+kernel) (by decide+kernel)
   ⟨rfl,rfl,rfl,rfl,rfl,by decide+kernel⟩ ?hw ?hc
  (case hl=>(refine TR.Nd K43.yP K43.yt λw=>?_;delta TR.qO PySem.W.fencedOpening;(try rw[T1]);(try rw[T9]);(try rw[Ua]);(try rw[T2]);(try rw[T3]);(try rw[T4]);(try rw[Ub]);(try rw[T5]);(try rw[Uc]);kernel_rfl))))
set_option maxRecDepth 100000 in
set_option maxHeartbeats 0 in
def K43.closing (HW:∀{q:Xr}{loose:Xw Xx}{XP:(XB)->Heap->Prop}{YP:Xs->Heap->Prop}{d:DefRec}{K:Params->Frag},d.name= "law" ->d.params.defaults=[]->(∀(w:Xs) (h:Heap),YP w h->(K w.params).In h)->
  (∀(w:Xs)(mg:XB)(fa:Xp)(h:Heap),(K w.params).In h->h.Ns mainGlobals mg->mg d.name=some (.ref fa)->K43.Facts (K w.params))->PySem.W.WalkO q loose XP YP PySem.Challenge.rw_knewby_k43_whole_cut_and_lines.row.toRowW d [] λf vs=>PySem.call f vs):PySem.Challenge.rw_knewby_k43_whole_cut_and_lines.Holds:=by
 w_on;o_law;k_head;(case hw=>w_witness2)
 k_fill
 refine HW rfl rfl (λw h Y=>PySem.W.kIn_of Y) ?F
 case F=>
  intro w mg fa h KX G hmg;refine' K43.Facts.mk ?aW ?lW ?vW ?h1 ?h2 ?h3 ?h4 ?h5 ?h6 ?h7 ?h8 ?h9 ?h10 ?h11 ?h12 ?h13 ?h14 ?h15 ?h16 ?h17 ?h18 ?h19 ?h20 ?h21 ?h22 ?h23 ?h24 ?h25 ?h26 ?h27 ?h28 ?h29 ?h30 ?h31 ?h32 ?h33 ?h34 ?h35 ?h36 ?h37 ?h38 ?h39 ?h40 ?h41 ?h42 ?h43 ?h44 ?h45 ?h46 ?h47 ?h48 ?h49 ?h50 ?h51 ?h52 ?h53 ?h54 ?h55 ?h56 ?h57 ?aC ?pg ?hd ?po ?sa ?mk ?kc ?nP ?nS ?nT ?nY ?a58 ?i58 ?l58 ?c58 ?k58 ?a59 ?i59 ?l59 ?c59 ?k59 ?a60 ?i60 ?XZ ?c60 ?k60 ?a61 ?i61 ?l61 ?c61 ?YC ?a62 ?i62 ?l62 ?c62 ?k62 ?a63 ?i63 ?l63 ?c63 ?k63 ?z1 ?z2 ?z3 ?z4 ?z5 ?z6 ?z7 ?z8 ?z9 ?z10 ?z11 ?z12 ?z13 ?z14 ?z15 ?z16 ?z17 ?z18 ?z19 ?g1 ?g2 ?g3 ?g4 ?g5
  (case aW=>k_is)
  (case lW=>k_is)
  (case aC=>k_is)
  (case pg=>k_is)
  (case hd=>k_is)
  (case po=>k_is)
  (case sa=>k_is)
  (case mk=>k_is)
  (case kc=>k_is)
  (case nP=>k_is)
  (case nS=>k_is)
  (case nT=>k_is)
  (case nY=>k_is)
  (case a58=>k_is)
  (case i58=>k_is)
  (case l58=>k_is)
  (case c58=>k_is)
  (case k58=>k_is)
  (case a59=>k_is)
  (case i59=>k_is)
  (case l59=>k_is)
  (case c59=>k_is)
  (case k59=>k_is)
  (case a60=>k_is)
  (case i60=>k_is)
  (case XZ=>k_is)
  (case c60=>k_is)
  (case k60=>k_is)
  (case a61=>k_is)
  (case i61=>k_is)
  (case l61=>k_is)
  (case c61=>k_is)
  (case YC=>k_is)
  (case a62=>k_is)
  (case i62=>k_is)
  (case l62=>k_is)
  (case c62=>k_is)
  (case k62=>k_is)
  (case a63=>k_is)
  (case i63=>k_is)
  (case l63=>k_is)
  (case c63=>k_is)
  (case k63=>k_is)
  (case z1=>k_is)
  (case z2=>k_is)
  (case z3=>k_is)
  (case z4=>k_is)
  (case z5=>k_is)
  (case z6=>k_is)
  (case z7=>k_is)
  (case z8=>k_is)
  (case z9=>k_is)
  (case z10=>k_is)
  (case z11=>k_is)
  (case z12=>k_is)
  (case z13=>k_is)
  (case z14=>k_is)
  (case z15=>k_is)
  (case z16=>k_is)
  (case z17=>k_is)
  (case z18=>k_is)
  (case z19=>k_is)
  (case g1=>k_is)
  (case g2=>k_is)
  (case g3=>k_is)
  (case g4=>k_is)
  (case g5=>k_is)
  (case vW=>rfl)
  all_goals (apply K43.FF.mk<;>k_is)
end
namespace L2
abbrev Key:=Sum Int Xx
def oe:Key->Xo->Bool
 |.inl k,v=>Value.isInt k v
 |.inr x,v=>Value.isStrOf x v
def PF(w:Xs):Key->Int
 |.inl k=>hashInt k
 |.inr x=>hashStr w x
def dv:∀{k:Key}{v:Xo},oe k v=true->(∃i t,k=Sum.inl i/\v=Value.int i t)\/(∃x t,k=Sum.inr x/\v=Value.str x t)
 |.inl i,v,h=>by
  obtain⟨t,e⟩:=Vb h;exact .inl ⟨i,t,rfl,e⟩
 |.inr x,v,h=>by
  obtain⟨t,e⟩:=Value.isStrOf_shape h;exact .inr ⟨x,t,rfl,e⟩
def Bd(i:Int)(t:Tok):oe (.inl i) (.int i t)=true:=by simp[oe,Value.isInt]
def sj(x:Xx)(t:Tok):oe (.inr x) (.str x t)=true:=by simp[oe,Value.isStrOf]
def LH(a b:Int):decide ((Sum.inl a:Key)=Sum.inl b)=(a==b):=by grind
def LP(a b:Xx):decide ((Sum.inr a:Key)=Sum.inr b)=decide (a=b):=by grind
def Kb(a:Int)(b:Xx):decide ((Sum.inl a:Key)=Sum.inr b)=false:=QU λq=>nomatch q
def Kh(a:Xx)(b:Int):decide ((Sum.inr a:Key)=Sum.inl b)=false:=QU λq=>nomatch q
def cM(prog:Xr)(w:Xs):PySem.KeyKind prog w Key where
 is:=oe
 hash:=PF w
 inj:=λv a b l g=>by
  obtain ⟨i,t,rfl,rfl⟩|⟨x,t,rfl,rfl⟩:=dv l
  ·obtain ⟨j,u,rfl,e⟩|⟨y,u,rfl,e⟩:=dv g
   ·injection e with e1 _;rw[e1]
   ·exact nomatch e
  ·obtain ⟨j,u,rfl,e⟩|⟨y,u,rfl,e⟩:=dv g
   ·exact nomatch e
   ·injection e with e1 _;rw[e1]
 byValue:=λk v h=>by
  rcases dv h with ⟨i,t,rfl,rfl⟩|⟨x,t,rfl,rfl⟩<;>rfl
 pyHash:=λf h=>by
  obtain ⟨i,t,rfl,rfl⟩|⟨x,t,rfl,rfl⟩:=dv f
  ·exact wpAny_pyHash_int h
  ·exact wpAny_pyHash_str h
 eqBool:=λm f h=>by
  obtain ⟨i,t,rfl,rfl⟩|⟨x,t,rfl,rfl⟩:=dv m
  ·obtain ⟨j,u,rfl,rfl⟩|⟨y,u,rfl,rfl⟩:=dv f
   ·rw[LH]at h;exact wpAny_eqBool_int h
   ·rw[Kb]at h;exact SeqAt.EqAt.int_str i t y u _ _ _ _ h
  ·obtain ⟨j,u,rfl,rfl⟩|⟨y,u,rfl,rfl⟩:=dv f
   ·rw[Kh]at h;exact SeqAt.EqAt.str_int x t j u _ _ _ _ h
   ·rw[LP]at h;exact wpAny_eqBool_str h
 «strs» :=λk x t v h=>by
  obtain ⟨i,u,rfl,e⟩|⟨y,u,rfl,e⟩:=dv h
  ·exact nomatch e
  ·injection e with e1 _
   subst e1;cases v<;>rfl
def vB(prog:Xr)(w:Xs)(i:Int)(t:Tok):(cM prog w).is (.inl i) (.int i t)=true:=Bd i t
def nZ(prog:Xr)(w:Xs)(x:Xx)(t:Tok):(cM prog w).is (.inr x) (.str x t)=true:=sj x t
inductive V where
 |non|bl (b:Bool)|int (i:Int)|str (x:Xx)|byt (b:Array UInt8)|flt (b:UInt64)|ref (a:Xp)|ty (n:String)
 deriving DecidableEq
def RelV:V->Xo->Prop
 |.non,u=>u=Value.none
 |.bl b,u=>u=Value.bool b
 |.int i,u=>∃t,u=Value.int i t
 |.str x,u=>∃t,u=Value.str x t
 |.byt b,u=>∃t,u=Value.bytes b t
 |.flt b,u=>∃t,u=Value.float b t
 |.ref a,u=>u=Value.ref a
 |.ty n,u=>u=Value.type n
abbrev Vals:Xw V->Xw Xo->Prop:=Paired RelV
def Vals.length(r:Vals xs us):xs.length=us.length:=RY r
theorem Vals.get:∀{xs:Xw V}{us:Xw Xo}{i:Nat}{x:V},Vals xs us->xs[i]? =some x->∃u,us[i]? =some u/\RelV x u
 |_,_,_,_,.nil,e=>by simp at e
 |_,_,0,_,.cons r _,e=>by simp at e;subst e;exact⟨_,rfl,r⟩
 |_,_,i+1,x,.cons _ t,e=>by
  obtain⟨u,a,f⟩:=Vals.get t (by simpa using e);exact⟨u,by simpa using a,f⟩
theorem Vals.append:∀{xs ys:Xw V}{us ws:Xw Xo},Vals xs us->Vals ys ws->Vals (xs++ys) (us++ws)
 |_,_,_,_,.nil,s=>s
 |_,_,_,_,.cons r t,s=>.cons r<|Vals.append t s
theorem Vals.take:∀{xs:Xw V}{us:Xw Xo}(n:Nat),Vals xs us->Vals (xs.take n) (us.take n)
 |_,_,0,_=>.nil
 |_,_,_+1,.nil=>.nil
 |_,_,n+1,.cons r t=>.cons r<|Vals.take n t
theorem Vals.drop:∀{xs:Xw V}{us:Xw Xo}(n:Nat),Vals xs us->Vals (xs.drop n) (us.drop n)
 |_,_,0,r=>r
 |_,_,_+1,.nil=>.nil
 |_,_,n+1,.cons _ t=>Vals.drop n t
def jr:Xu V->Xu Xo->Prop
 |some v,some u=>RelV v u
 |none,none=>True
 |_,_=>False
def KV{κ:Type}:Xw (κ×V)->Xw (κ×Xo)->Prop:=Paired λ(p:κ×V) (q:κ×Xo)=>p.1=q.1/\RelV p.2 q.2
def kV:Key->V
 |.inl i=>.int i
 |.inr x=>.str x
inductive HO where
 |lst (xs:Xw V)
 |tup (xs:Xw V)
 |dK (XD:Xw (Key×V))|dT (XD:Xw (Xw Key×V))
 |set (S:Int->Bool)(n:Nat)
 |ins (C a:Xp)(fs:Xw (Xx×V))
 |own (x:Xp)
 |xd (fs:Xw (Xx×V))
 |met (f x:Xp)
 |rng (lo e:Int)
 |frz (o:Obj)(u:HO)
 |tbl (ps:Array Xo)
 |ext (φ:Heap->Prop)
abbrev Hp:=Xp->Xu HO
def upd(H:Hp)(a:Xp)(o:HO):Hp:=λb=>if b=a then some o else H b
def cE:upd H a o a=some o:=by unfold upd;rw[QR rfl]
def cG(h:b≠a):upd H a o b=H b:=by unfold upd;rw[QO h]
def zE:upd (upd H a o) a u=upd H a u:=by
 funext b;unfold upd;split<;>rfl
def pG{H:Hp}(h:H a=some o)(h':H b=some u)(d:o≠u):a≠b:=by grind
def cF{H:Hp}(h:H a=some o)(h':H b=none):a≠b:=by grind
section
variable (P:Xr)(w:Xs)
def cV(H:Hp)(h:Heap)(a:Xp):HO->Prop
 |.lst e=>e.length<=sizeLine/\∃(j:Xw Xo) (n:Nat),Vals e j/\h.get? a=some { cls:=.type "list",data:=.seq j.toArray n }
 |.tup e=>e.length<=sizeLine/\∃j:Xw Xo,Vals e j/\IsTup h a j.toArray
 |.dK i=>i.length<=sizeLine/\(a==sysModules)=false/\∃r,KV i r/\h.DictOf (cM P w) a r
 |.dT i=>i.length<=sizeLine/\(a==sysModules)=false/\∃e:Xw (Xw Key×Xp×Xo),
   Paired (λ(p:Xw Key×V) (q:Xw Key×Xp×Xo)=>p.1=q.1/\H q.2.1=some (.tup<|p.1.map kV)/\RelV p.2 q.2.2) i e/\
   ∃o y B,h.get? a=some o/\o.ExactDict/\o.data=.dict y B/\y.toList=e.map (entryOfKey<|tupleKind<|cM P w)/\(e.map (·.1)).Nodup
 |.set S n=>h.SetOf (intKind P w) a S n
 |.ins C l fs=>H l=some (.own a)/\fs.length<=1000/\l≠a/\h.get? a=some (instObj C l)/\
   ∃g,h.Ns1 l g/\(∀f,jr (fs.lookup f)<|g f)/\PySem.Within g (fs.map (·.1))
 |.own _=>∃o,h.get? a=some o
 |.xd fs=>∃g,h.Ns1 a g/\∀f,jr (fs.lookup f)<|g f
 |.rng D A=>∃t u v,h.get? a=some { cls:=.type "range",data:=.fields #[.int D t,.int A u,.int 1 v] }
 |.frz o u=>h.get? a=some o/\cV H h a u
 |.tbl z=>h.get? a=some { cls:=.none,data:=.fields z }
 |.met f x=>h.get? a=some (methodObj (.ref f)<|.ref x)
 |.ext φ=>φ h/\(∃o,h.get? a=some o)/\∀s m:Heap,φ s->(∀o,s.get? a=some o->m.get? a=some o)->φ m
def gJ(H:Hp)(h:Heap):Prop:=∀a o,H a=some o->cV P w H h a o
end
def cV.lt(x:cV P w H h a o):a<h.objs.size:=by
 cases o with
 |lst i=>obtain⟨_,_,_,_,e⟩:=x;exact Ri e
 |tup i=>obtain⟨_,_,_,p⟩:=x;exact p.lt
 |dK g=>obtain⟨_,_,_,_,o,_,_,e,_⟩:=x;exact Ri e
 |dT g=>obtain⟨_,_,_,_,o,_,_,e,_⟩:=x;exact Ri e
 |set S n=>obtain⟨o,_,_,_,e,_⟩:=x;exact Ri e
 |ins C l fs=>obtain⟨_,_,_,e,_⟩:=x;exact Ri e
 |own y=>obtain⟨_,e⟩:=x;exact Ri e
 |xd fs=>obtain⟨_,⟨_,_,_,e,_⟩,_⟩:=x;exact Ri e
 |rng m q=>obtain⟨_,_,_,e⟩:=x;exact Ri e
 |frz ob u=>obtain⟨e,_⟩:=x;exact Ri e
 |tbl j=>exact Ri<|show h.get? a=some _ from x
 |met f y=>exact Ri<|show h.get? a=some _ from x
 |ext φ=>obtain⟨_,⟨_,e⟩,_⟩:=x;exact Ri e
theorem Paired.Dh{α β:Type}{F G:α->β->Prop}:∀{g:Xw α}{e:Xw β},Paired F g e->(∀a b,F a b->G a b)->Paired G g e
 |_,_,.nil,_=>.nil
 |_,_,.cons r t,f=>.cons (f _ _ r)<|Paired.Dh t f
def cV.gH(x:cV P w H h a o)(k:∀b u,(b=a\/H b=some (.own a))->h.get? b=some u->h'.get? b=some u)
  (G:∀b,H b=some (.own a)->H' b=some (.own a))(B:∀b xs,H b=some (.tup xs)->H' b=some (.tup xs)):cV P w H' h' a o:=by
 induction o with
 |lst xs=>obtain⟨z,m,n,r,e⟩:=x;exact⟨z,m,n,r,k _ _ (.inl rfl) e⟩
 |tup xs=>obtain⟨z,m,r,ob,e,c⟩:=x;exact⟨z,m,r,ob,k _ _ (.inl rfl) e,c⟩
 |dK J=>obtain⟨z,y,D,r,ob,g,i,e,c⟩:=x;exact⟨z,y,D,r,ob,g,i,k _ _ (.inl rfl) e,c⟩
 |dT J=>
  obtain⟨z,y,xs,r,ob,g,i,e,c⟩:=x;exact⟨z,y,xs,Paired.Dh r λp q z=>⟨z.1,B _ _ z.2.1,z.2.2⟩,ob,g,i,k _ _ (.inl rfl) e,c⟩
 |set S n=>obtain⟨ob,g,i,t,e,c⟩:=x;exact⟨ob,g,i,t,k _ _ (.inl rfl) e,c⟩
 |ins C L fs=>
  obtain⟨d,z,E,e,j,⟨l,g,i,F,c⟩,r⟩:=x;exact⟨G _ d,z,E,k _ _ (.inl rfl) e,j,⟨l,g,i,k _ _ (.inr d) F,c⟩,r⟩
 |own y=>obtain⟨ob,e⟩:=x;exact⟨ob,k _ _ (.inl rfl) e⟩
 |xd fs=>obtain⟨j,⟨l,g,i,e,c⟩,r⟩:=x;exact⟨j,⟨l,g,i,k _ _ (.inl rfl) e,c⟩,r⟩
 |rng M K=>obtain⟨t,u,v,e⟩:=x;exact⟨t,u,v,k _ _ (.inl rfl) e⟩
 |frz ob u I=>obtain⟨e,q⟩:=x;exact⟨k _ _ (.inl rfl) e,I q⟩
 |tbl s=>
  have e:h.get? a=some { cls:=.none,data:=.fields s }:=x;show h'.get? a=some { cls:=.none,data:=.fields s };exact k a _ (.inl rfl) e
 |met f y=>
  have e:h.get? a=some (methodObj (.ref f)<|.ref y):=x;show h'.get? a=some (methodObj (.ref f)<|.ref y);exact k a _ (.inl rfl) e
 |ext φ=>obtain⟨p,⟨o,e⟩,A⟩:=x;exact⟨A _ _ p λo q=>k _ _ (.inl rfl) q,⟨o,k _ _ (.inl rfl) e⟩,A⟩
def gJ.lt(x:gJ P w H h)(e:H a=some o):a<h.objs.size:=(x a o e).lt
def gJ.fresh(x:gJ P w H h)(e:h.objs.size<=a):H a=none:=by
 cases q:H a with
 |none=>rfl
 |some u=>exact absurd (Rp (x.lt q) e)<|UD _
def gJ.kept(x:gJ P w H h)(k:∀b u,h.get? b=some u->h'.get? b=some u):gJ P w H h':=λa o e=>
 (x a o e).gH (λb u _ q=>k b u q) (λ_ q=>q) λ_ _ q=>q
def gJ.laid(x:gJ P w H h)(k:∀b u,h.get? b=some u->h'.get? b=some u)(i:h.objs.size<=a)(new:cV P w (upd H a o) h' a o):gJ P w (upd H a o) h':=λb u e=>by
 have g:=x.fresh i;by_cases f:b=a
 ·subst f;rw[cE]at e;cases e;exact new
 ·rw[cG f]at e
  exact(x b u e).gH (λc v _ q=>k c v q) (λc q=>by rw[cG<|cF q g];exact q) λc j q=>by rw[cG<|cF q g];exact q
def Rd(H:Hp)(a:Xp)(u:HO):Prop:=H a=some u\/∃o,H a=some (.frz o u)
def Rd.ok(r:Rd H a u)(x:gJ P w H h):cV P w H h a u:=by
 obtain r|⟨o,r⟩:=r
 ·exact x a u r
 ·obtain⟨_,q⟩:=x a _ r
  exact q
def Nf:Xu HO->Prop
 |some (.lst _)=>True
 |some (.dK _)=>True
 |some (.dT _)=>True
 |some (.set _ _)=>True
 |some (.ins _ _ _)=>True
 |some (.ext _)=>True
 |_=>False
def gJ.write(ok:gJ P w H h)(i:Nf (H x))(he:e=x\/H e=some (.own x))(k:∀b u,b≠e->h.get? b=some u->h'.get? b=some u)(l:∃u,h'.get? e=some u)
  (new:cV P w (upd H x o') h' x o'):gJ P w (upd H x o') h':=λb u q=>by
 have a:∀c y,H c=some (.own y)->c≠x:=λc y r z=>by subst z;rw[r]at i;exact i
 by_cases j:b=x
 ·subst j;rw[cE]at q;cases q;exact new
 ·rw[cG j]at q
  by_cases f:b=e
  ·have n:H b=some (.own x):=by
    obtain z|z:=he
    ·grind
    ·grind
   rw[q]at n;cases n;obtain⟨v,o⟩:=l;exact⟨v,by rw[f];exact o⟩
  ·refine(ok b u q).gH (λc v g r=>k c v ?_ r) (λc r=>by rw[cG<|a c b r];exact r) λc m r=>by rw[cG<|(λc m r z=>by subst z;rw[r]at i;exact i) c m r];exact r
   obtain rfl|g:=g
   ·exact f
   ·rintro rfl
    obtain z|z:=he
    ·exact a c b g z
    ·rw[g]at z;cases z;exact j rfl
structure Un(fs ex:Xw Xp)(H H':Hp)(h h':Heap):Prop where
 keep:∀b o,h.get? b=some o->H b=none->b ∉ fs->b ∉ ex->h'.get? b=some o
 slot:∀b o,h.get? b=some o->H b=none->b∈fs->b ∉ ex->∃sl,h'.get? b=some { o with slots:=sl }
 free:∀b o,h.get? b=some o->H b=none->b ∉ ex->H' b=none
 there:∀b o,h.get? b=some o->b ∉ ex->∃o',h'.get? b=some o'
 tups:∀b xs,H b=some (.tup xs)->H' b=some (.tup xs)
 frzs:∀b o u,H b=some (.frz o u)->H' b=some (.frz o u)
 tbls:∀b ps,H b=some (.tbl ps)->∃more,H' b=some (.tbl (ps++more))
def Un.any(u:Un fs ex H H1 h h1)(q:h.get? b=some ob)(n:H b=none)(a:b ∉ ex):∃sl,h1.get? b=some { ob with slots:=sl }:=by
 by_cases e:b∈fs
 ·exact u.slot b ob q n e a
 ·exact⟨ob.slots,u.keep b ob q n e a⟩
def Un.trans(a:Un fs ex H H1 h h1)(b:Un fs ex H1 H2 h1 h2):Un fs ex H H2 h h2 where
 keep:=λc ob q n i e=>b.keep c ob (a.keep c ob q n i e) (a.free c ob q n e) i e
 slot:=λc ob q n i e=>by
  obtain⟨sl,f⟩:=a.slot c ob q n i e;obtain⟨l,j⟩:=b.slot c _ f (a.free c ob q n e) i e;exact⟨l,j⟩
 free:=λc ob q n e=>by
  obtain⟨m,f⟩:=a.there c ob q e;exact b.free c m f (a.free c ob q n e) e
 there:=λc ob q e=>by
  obtain⟨m,f⟩:=a.there c ob q e;exact b.there c m f e
 tups:=λc g q=>b.tups c g<|a.tups c g q
 frzs:=λc ob g q=>b.frzs c ob g<|a.frzs c ob g q
 tbls:=λc o q=>by
  obtain⟨r,f⟩:=a.tbls c o q;obtain⟨p,j⟩:=b.tbls c _ f;exact⟨r++p,by rw[j,Array.append_assoc]⟩
def Un.kept(k:∀b u,h.get? b=some u->h'.get? b=some u):Un fs ex H H h h':=
 ⟨λb ob q _ _ _=>k b ob q,λb ob q _ _ _=>⟨ob.slots,k b ob q⟩,λ_ _ _ n _=>n,λb ob q _=>⟨ob,k b ob q⟩,λ_ _ q=>q,λ_ _ _ q=>q,λ_ a q=>⟨#[],by rw[q];simp⟩⟩
def Un.refl:Un fs ex H H h h:=Un.kept λ_ _ q=>q
def Un.laid(k:∀b u,h.get? b=some u->h'.get? b=some u)(f:h.objs.size<=a)(e:H a=none):Un fs ex H (upd H a o) h h' where
 keep:=λb u q _ _ _=>k b u q
 slot:=λb u q _ _ _=>⟨u.slots,k b u q⟩
 free:=λb u q n _=>by rw[cG<|Rb<|Rp (Ri q) f];exact n
 there:=λb u q _=>⟨u,k b u q⟩
 tups:=λb g q=>by rw[cG<|cF q e];exact q
 frzs:=λb u g q=>by rw[cG<|cF q e];exact q
 tbls:=λb i q=>⟨#[],by rw[cG<|cF q e,q];simp⟩
def Un.write(a:Nf (H x))(he:e=x\/H e=some (.own x))(k:∀b u,b≠e->h.get? b=some u->h'.get? b=some u)(m:∃u,h'.get? e=some u):Un fs ex H (upd H x o) h h':=by
 have p:∀b,H b=none->b≠x:=λb n z=>by subst z;rw[n]at a;exact a
 have g:∀b,H b=none->b≠e:=λb n z=>by grind
 have f:∀b u,H b=some u->¬Nf (some u)->b≠x:=λb u q i z=>by subst z;rw[q]at a;exact i a
 refine⟨λb u q n _ _=>k b u (g b n) q,λb u q n _ _=>⟨u.slots,k b u (g b n) q⟩,λb u q n _=>by rw[cG<|p b n];exact n,λb u q _=>?_,
  λb l q=>by rw[cG<|f b _ q λz=>z];exact q,λb u l q=>by rw[cG<|f b _ q λz=>z];exact q,λb r q=>⟨#[],by rw[cG<|f b _ q λz=>z,q];simp⟩⟩
 by_cases j:b=e
 ·grind
 ·grind
def Hj(h:Heap)(H:Hp):Xw Xp:=(List.range h.objs.size).filter λa=>(H a).isSome
def uw(h:Heap)(H:Hp):Heap:=PySem.W.hideAll h<|Hj h H
def AU(h:Heap)(H:Hp):(uw h H).objs.size=h.objs.size:=PySem.W.hideAll_size _ _
def DY(e:h.get? b=some o)(n:H b=none):(uw h H).get? b=some o:=
 PySem.W.hideAll_get _ e λa=>by
  have q:=(Ra.mp a).2;rw[n]at q;simp at q
def Il(e:(uw h H).get? b=some o):h.get? b=some o/\H b=none:=by
 have a:=PySem.W.of_hideAll (Hj h H) e;refine⟨a,?_⟩;cases q:H b with
 |none=>rfl
 |some x=>
  have z:(uw h H).get? b=none:=PySem.W.hideAll_none (Hj h H) (Ra.mpr ⟨Su.mpr<|Ri a,by simp[q]⟩);rw[z]at e;cases e
def Hg(g h:Heap)(L:Xp):XA:=(List.range h.objs.size).filterMap λa=>if a=L\/(g.get? a).isSome=true then none else(h.get? a).map λo=>(a,o)
def rest(g h:Heap)(L d:Xp):XA:=(Hg g h L).filter λp=>decide<|p.1≠d
structure Mod(K:Frag)(mg:XB)(base:Heap):Prop where
 kin:K.In base
 glob:base.Ns mainGlobals mg
 blt:∃mb,base.Ns builtinsNs mb/\∀x:Xx,x≠ "__name__" ->mb x=bootBuiltins x
 nolimit:base.NoLimit
structure Cx where
 prog:Xr
 w:Xs
 K:Frag
 mg:XB
 base:Heap
 A:Xv
 N:Xw Xx
 s₀:Xq
 H₀:Hp
 env:Env
 outer:Xw Env
 stack:Xw Env
 ex:Xw Xp
 fn:Xx->Bool
 calm:Bool
 pn:XA
 xe:Xy
def Bp(l:Xw Env):Xw Xp:=l.filterMap (·.frame)
abbrev Cx.fs(X:Cx):Xw Xp:=Bp X.outer
def OJ(sc:Scope)(x:Xx):Prop:=sc.names.lookup x=some .local\/sc.names.lookup x=some .cell\/sc.names.lookup x=some .free
def Loc(sc:Scope)(x:Xx):Prop:=sc.names.lookup x=some .local\/sc.names.lookup x=some .cell
def Look(env:Env)(h:Heap)(m:XB)(x:Xx)(u:Xo):Prop:=
 (env.kindOf x=some .local/\m x=some u)\/((env.kindOf x=some .cell\/env.kindOf x=some .free)/\∃c,env.cells.lookup x=some c/\h.IsCell c (some u))
structure Cx.Ok(X:Cx):Prop where
 mod:Mod X.K X.mg X.base
 kind:X.env.scope.kind=.function
 glob:X.env.globals=mainGlobals
 blt:X.env.builtins=builtinsNs
 above:X.s₀.heap.objs.size<=X.env.locals
 inj:∀x y c,X.env.cells.lookup x=some c->X.env.cells.lookup y=some c->x=y
 has:∀x,(X.env.kindOf x=some .cell\/X.env.kindOf x=some .free)->∃c,X.env.cells.lookup x=some c
 cab:∀x c,X.fn x=true->X.env.cells.lookup x=some c->X.s₀.heap.objs.size<=c
 hd:X.calm=true->X.A.handled=none
 frames:X.A.frames=some X.stack
 stk:X.stack=X.outer\/(X.stack=X.env::X.outer/\X.env.frame=some X.env.locals)
 exf:∀b∈X.ex,b≠X.env.locals/\∀x c,X.env.cells.lookup x=some c->c≠b
 bs:∀b o,X.base.get? b=some o->X.s₀.heap.get? b=some o/\X.H₀ b=none
 bsz:X.base.objs.size<=X.s₀.heap.objs.size
 noex:∀b o,X.base.get? b=some o->b ∉ X.ex
 exfs:∀b∈X.ex,b ∉ X.fs
 nV:X.s₀.heap.FunFrames X.base X.outer
 frf:∀b∈X.fs,X.H₀ b=none
structure Inv(X:Cx)(XC:XA)(σ:Xw (Xu V))(H:Hp)(s:Xq):Prop where
 ok:X.Ok
 os:s.os=X.s₀.os
 bare:AllBare s.gens
 base:Un X.fs X.ex X.H₀ H X.s₀.heap s.heap
 loc:∃m,s.heap.Ns X.env.locals m/\∀(i:Nat) (x:Xx) (v:V),X.N[i]? =some x->σ[i]? =some (some v)->OJ X.env.scope x->∃u,RelV v u/\Look X.env s.heap m x u
 cell:∀x c,X.env.cells.lookup x=some c->∃v,s.heap.IsCell c v
 free:H X.env.locals=none
 freeC:∀x c,X.env.cells.lookup x=some c->H c=none
 pin:∀p∈X.pn++XC,s.heap.get? p.1=some p.2/\H p.1=none/\p.1≠X.env.locals/\p.1 ∉ X.fs/\∀v,p.2.data≠.cell v
 hok:gJ X.prog X.w H s.heap
 len:σ.length=X.N.length
section
variable {X:Cx}{H:Hp}{H':Hp}{s:Xq}{h':Heap}
def Cx.Ok.Pg(ok:X.Ok)(e:X.base.get? b=some o):b ∉ X.fs:=λa=>by
 have:=(ok.nV.mem a).1;rw[e]at this;cases this
def Inv.bs(I:Inv X XC σ H s):∀b o,X.base.get? b=some o->s.heap.get? b=some o/\H b=none:=λb o e=>
 ⟨I.base.keep b o (I.ok.bs b o e).1 (I.ok.bs b o e).2 (I.ok.Pg e)<|I.ok.noex b o e,I.base.free b o (I.ok.bs b o e).1 (I.ok.bs b o e).2<|I.ok.noex b o e⟩
def Inv.bk(I:Inv X XC σ H s):∀b o,X.base.get? b=some o->s.heap.get? b=some o:=λb o e=>(I.bs b o e).1
def Inv.mod(I:Inv X XC σ H s):Mod X.K X.mg X.base:=I.ok.mod
def Inv.oH(I:Inv X XC σ H s):X.K.In s.heap:=I.ok.mod.kin.keeps I.bk
def Inv.lt(I:Inv X XC σ H s):X.env.locals<s.heap.objs.size:=let ⟨_,a,_⟩:=I.loc;a.lt
def Inv.sz(I:Inv X XC σ H s):X.s₀.heap.objs.size<=s.heap.objs.size:=Rn I.ok.above<|Us I.lt
def Inv.Px(I:Inv X XC σ H s)(h:s.heap.objs.size<=a):a ∉ X.fs:=λe=>by
 obtain⟨_,o,f,_⟩:=I.ok.nV.mem e;exact absurd (Rp (Ri f)<|Rn I.sz h)<|UD _
def Inv.Ke(I:Inv X XC σ H s):∀x c,X.env.cells.lookup x=some c->c≠X.env.locals:=λx c e z=>by
 obtain⟨v,o,g,f⟩:=I.cell x c e;obtain⟨m,⟨l,j,i,h,a,_⟩,_⟩:=I.loc;rw[z,h]at g;cases g;rw[a]at f;cases f
def Inv.nV(I:Inv X XC σ H s):s.heap.FunFrames X.base X.outer:=by
 have all:∀(l:Xw Env),(∀b∈Bp l,b∈X.fs)->X.s₀.heap.FunFrames X.base l->s.heap.FunFrames X.base l:=by
  intro l
  induction l with
  |nil=>intro _ _;trivial
  |cons m r v=>
   intro h p;obtain⟨j,⟨L,o,g,q,n,i⟩,hr⟩:=p;have f:=h L (by unfold Bp;rw[UY,g];exact RD);obtain⟨sl,e⟩:=I.base.slot L o n (I.ok.frf L f) f λz=>I.ok.exfs L z f;exact⟨j,⟨L,_,g,q,e,i⟩,v (λb a=>h b<|by unfold Bp;rw[UY,g];exact RK _ a) hr⟩
 exact all X.outer (λ_ a=>a) I.ok.nV
def Inv.stack(I:Inv X XC σ H s):s.heap.FunFrames X.base X.stack:=by
 obtain e|⟨e,a⟩:=I.ok.stk
 ·rw[e];exact I.nV
 ·rw[e]
  obtain⟨m,f,_⟩:=I.loc;refine .cons (by rw[I.ok.kind];decide) a f ?_ I.nV;exact Heap.get?_none_of_le<|Rn I.ok.bsz I.ok.above
def Inv.yY(I:Inv X XC σ H s):∀b∈Bp X.stack,b∈X.env.locals::X.fs:=λb a=>by
 obtain e|⟨e,f⟩:=I.ok.stk
 ·grind
 ·rw[e]at a
  unfold Bp at a
  rwa [UY,f]at a
def Inv.zj(I:Inv X XC σ H s):∀b∈Bp X.stack,H b=none:=λb a=>by
 obtain e|a:=Rq.mp (I.yY b a)
 ·rw[e];exact I.free
 ·obtain⟨_,o,f,_⟩:=I.ok.nV.mem a
  exact I.base.free b o f (I.ok.frf b a) λz=>I.ok.exfs b z a
def Inv.step{ch:Xw Xp}(I:Inv X XC σ H s)
  (A:∀b∈ch,(b∈X.ex\/X.s₀.heap.objs.size<=b)/\b≠X.env.locals/\(∀x c,X.env.cells.lookup x=some c->c≠b)/\∀p∈X.pn++XC,p.1≠b)
  (keep:∀b o,b≠X.env.locals->b ∉ X.fs->b ∉ ch->s.heap.get? b=some o->H b=none->h'.get? b=some o)
  (slot:∀b o,b≠X.env.locals->b∈X.fs->b ∉ ch->s.heap.get? b=some o->H b=none->∃sl,h'.get? b=some { o with slots:=sl })(free:∀b o,b ∉ ch->s.heap.get? b=some o->H b=none->H' b=none)
  (there:∀b o,b ∉ ch->s.heap.get? b=some o->∃G,h'.get? b=some G)
  (E:∀b xs,H b=some (.tup xs)->H' b=some (.tup xs))(C:∀b o u,H b=some (.frz o u)->H' b=some (.frz o u))(F:∀b ps,H b=some (.tbl ps)->∃more,H' b=some (.tbl<|ps++more))
  (ns:∀m,s.heap.Ns X.env.locals m->h'.Ns X.env.locals m)(K:gJ X.prog X.w H' h')(R:AllBare g'):
  Inv X XC σ H' { s with heap:=h',gens:=g',drawn:=d',toks:=t' }:=by
 have B:∀b o,X.s₀.heap.get? b=some o->b≠X.env.locals:=λb o e=>Rb<|Rp (Ri e) I.ok.above;have h:∀b o,X.s₀.heap.get? b=some o->b ∉ X.ex->b ∉ ch:=λb o e a j=>by
  obtain z|z:=(A b j).1
  ·exact a z
  ·exact absurd (Rp (Ri e) z)<|UD _
 have cellK:∀x c,X.env.cells.lookup x=some c->∀v,s.heap.IsCell c v->h'.IsCell c v:=λx c e v ⟨o,y,J⟩=>by
  have f:c ∉ ch:=λz=>(A c z).2.2.1 x c e rfl;by_cases O:c∈X.fs
  ·obtain⟨sl,q⟩:=slot c o (I.Ke x c e) O f y (I.freeC x c e)
   exact⟨_,q,J⟩
  ·exact⟨o,keep c o (I.Ke x c e) O f y<|I.freeC x c e,J⟩
 refine⟨I.ok,I.os,R,⟨λb o e n j a=>?_,λb o e n j a=>?_,λb o e n a=>?_,λb o e a=>?_,λb xs e=>E b xs<|I.base.tups b xs e,λb o xs e=>C b o xs<|I.base.frzs b o xs e,λb ps e=>?_⟩,?_,λx c e=>?_,?_,λx c e=>?_,λp N=>?_,K,I.len⟩
 ·exact keep b o (B b o e) j (h b o e a) (I.base.keep b o e n j a)<|I.base.free b o e n a
 ·obtain⟨sl,g⟩:=I.base.slot b o e n j a
  obtain⟨L,D⟩:=slot b _ (B b o e) j (h b o e a) g<|I.base.free b o e n a;exact⟨L,D⟩
 ·obtain⟨G,g⟩:=I.base.there b o e a
  exact free b G (h b o e a) g<|I.base.free b o e n a
 ·obtain⟨G,g⟩:=I.base.there b o e a
  exact there b G (h b o e a) g
 ·obtain⟨T,g⟩:=I.base.tbls b ps e
  obtain⟨Q,D⟩:=F b _ g;exact⟨T++Q,by rw[D,Array.append_assoc]⟩
 ·obtain⟨m,U,S⟩:=I.loc
  refine⟨m,ns m U,λi x v g D W=>?_⟩;obtain⟨u,r,l⟩:=S i x v g D W;refine⟨u,r,?_⟩;obtain l|⟨k,c,e,z⟩:=l
  ·exact .inl l
  ·exact .inr ⟨k,c,e,cellK x c e _ z⟩
 ·obtain⟨v,z⟩:=I.cell x c e
  exact⟨v,cellK x c e v z⟩
 ·obtain⟨m,⟨o,_,_,y,_⟩,_⟩:=I.loc
  exact free _ o (λz=>(A _ z).2.1 rfl) y I.free
 ·obtain⟨v,o,y,J⟩:=I.cell x c e
  exact free c o (λz=>(A c z).2.2.1 x c e rfl) y<|I.freeC x c e
 ·obtain⟨e,n,M,P,d⟩:=I.pin p N
  have f:p.1 ∉ ch:=λz=>(A p.1 z).2.2.2 p N rfl;exact⟨keep p.1 p.2 M P f e n,free p.1 p.2 f e n,M,P,d⟩
def Inv.un{t':Nat}(I:Inv X XC σ H s)(u:Un X.fs [] H H' s.heap h')(g:gJ X.prog X.w H' h'):Inv X XC σ H' { s with heap:=h',toks:=t' }:=by
 obtain⟨m,⟨o,v,A,h,r⟩,_⟩:=id I.loc;obtain⟨sl,l⟩:=u.any h I.free (by simp);exact I.step (g':=s.gens) (d':=s.drawn) (ch:=[]) (λ_ z=>nomatch z) (λb o _ a _ e n=>u.keep b o e n a<|by simp) (λb o _ a _ e n=>u.slot b o e n a<|by simp) (λb o _ e n=>u.free b o e n<|by simp) (λb o _ e=>u.there b o e<|by simp) u.tups u.frzs u.tbls (λy q=>by
  obtain⟨x,p,f,i,j⟩:=q;rw[h]at i;cases i;exact⟨_,p,f,l,j⟩) g I.bare
def Inv.call{ch:Xw Xp}(I:Inv X XC σ H s)(u:Un (Bp X.stack) ch H H' s.heap h')(h:gJ X.prog X.w H' h')(y:AllBare g')
  (i:∀b∈ch,(b∈X.ex\/X.s₀.heap.objs.size<=b)/\b≠X.env.locals/\(∀x c,X.env.cells.lookup x=some c->c≠b)/\∀p∈X.pn++XC,p.1≠b):
  Inv X XC σ H' { s with heap:=h',gens:=g',drawn:=d',toks:=t' }:=by
 obtain⟨m,⟨o,C,F,j,r⟩,_⟩:=id I.loc;obtain⟨sl,g⟩:=u.any j I.free λz=>(i _ z).2.1 rfl;exact I.step i (λb o g v a e n=>u.keep b o e n (λz=>(Rq.mp<|I.yY b z).elim g v) a) (λb o _ _ a e n=>u.any e n a) (λb o a e n=>u.free b o e n a) (λb o a e=>u.there b o e a) u.tups u.frzs u.tbls (λE B=>by
  obtain⟨D,A,f,l,q⟩:=B;rw[j]at l;cases l;exact⟨_,A,f,g,q⟩) h y
def Inv.turned{t':Nat}{it:Xp}(I:Inv X XC σ H s)(k:∀b o,b≠it->s.heap.get? b=some o->h'.get? b=some o)(A:H it=none)(g:it≠X.env.locals)
  (j:it∈X.ex\/X.s₀.heap.objs.size<=it)(h:∀x c,X.env.cells.lookup x=some c->c≠it)(y:∀p∈X.pn++XC,p.1≠it):Inv X XC σ H { s with heap:=h',toks:=t' }:=by
 have f:∀b u,H b=some u->b≠it:=λb u e z=>by rw[z,A]at e;cases e
 refine I.step (g':=s.gens) (d':=s.drawn) (ch:=[it]) (λb i=>?_) (λb o _ _ a e _=>k b o (λz=>a<|by simp[z]) e) (λb o _ _ a e _=>⟨o.slots,k b o (λz=>a<|by simp[z]) e⟩) (λ_ _ _ _ n=>n)
  (λb o a e=>⟨o,k b o (λz=>a<|by simp[z]) e⟩) (λ_ _ e=>e) (λ_ _ _ e=>e) (λb D e=>⟨#[],by rw[e];simp⟩) (λm B=>?_) (λb u e=>?_) I.bare
 ·have e:b=it:=by simpa using i
  subst e;exact⟨j,g,h,y⟩
 ·obtain⟨o,w,C,l,r⟩:=B
  exact⟨o,w,C,k _ o (To g) l,r⟩
 ·refine(I.hok b u e).gH (λc v a q=>k c v ?_ q) (λ_ q=>q) λ_ _ q=>q
  obtain z|z:=a
  ·rw[z];exact f b u e
  ·exact f c _ z
def Inv.tok(I:Inv X XC σ H s)(t:Nat):Inv X XC σ H { s with toks:=t }:=I.un (h':=s.heap) (t':=t) Un.refl I.hok
def Inv.kept(I:Inv X XC σ H s)(k:∀b u,s.heap.get? b=some u->h'.get? b=some u):Inv X XC σ H { s with heap:=h',toks:=t' }:=I.un (Un.kept k)<|I.hok.kept k
def Inv.laid(I:Inv X XC σ H s)(k:∀b u,s.heap.get? b=some u->h'.get? b=some u)(e:s.heap.objs.size<=a)(new:cV X.prog X.w (upd H a o) h' a o):
  Inv X XC σ (upd H a o) { s with heap:=h',toks:=t' }:=I.un (Un.laid k e<|I.hok.fresh e)<|I.hok.laid k e new
def Inv.write(I:Inv X XC σ H s)(f:Nf (H x))(he:e=x\/H e=some (.own x))(k:∀b u,b≠e->s.heap.get? b=some u->h'.get? b=some u)(a:∃u,h'.get? e=some u)
  (new:cV X.prog X.w (upd H x o) h' x o):Inv X XC σ (upd H x o) { s with heap:=h',toks:=t' }:=I.un (Un.write f he k a)<|I.hok.write f he k a new
def Inv.zS(I:Inv X XC σ H s)(h:∀p∈pins',s.heap.get? p.1=some p.2/\H p.1=none/\p.1≠X.env.locals/\p.1 ∉ X.fs/\∀v,p.2.data≠.cell v):Inv X pins' σ H s:=
 ⟨I.ok,I.os,I.bare,I.base,I.loc,I.cell,I.free,I.freeC,λp a=>(Ro.mp a).elim (λz=>I.pin p<|Rj _ z)<|h p,I.hok,I.len⟩
def vM{N:Xw Xx}(f:N.Nodup){i j:Nat}{x:Xx}(a:N[i]? =some x)(b:N[j]? =some x):i=j:=by
 obtain⟨l,e⟩:=gI0.mp a;obtain⟨h,g⟩:=gI0.mp b;exact(TZ f).mp (e.trans g.symm)
def Cc{M:Model}{A:Xv}{E:Xy}{i:Nat}{x:Xx}{v:V}{u:Xo}{Q:Xz}(I:Inv X XC σ H s)(hN:X.N.Nodup)(U:X.N[i]? =some x)(B:Loc X.env.scope x)(r:RelV v u)
  (h:∀s',Inv X XC (σ.set i<|some v) H s'->(∃a,Heap.SameBut a s.heap s'.heap/\(a=X.env.locals\/X.env.cells.lookup x=some a))->Q () s')(hf:X.fn x=true\/X.env.scope.names.lookup x=some .local:=by first|exact .inl rfl|exact .inr rfl|assumption):wpAny M A (storeName X.env x u) Q E s:=by
 obtain⟨m,hn,hl⟩:=id I.loc;have G:i<σ.length:=by rw[I.len];exact(gI0.mp U).1
 have Ke:=I.Ke;have tracked:∀{a:Xp}{O:Heap},(∃o,s.heap.get? a=some o/\H a=none)->Heap.SameBut a s.heap O->gJ X.prog X.w H O:=λ{a O} ha f b ob e=>by
  obtain⟨_,_,C⟩:=ha;refine(I.hok b ob e).gH (λc W l q=>(f.2 c ?_).trans q) (λ_ q=>q) λ_ _ q=>q;rintro rfl;obtain rfl|l:=l
  ·rw[C]at e;cases e
  ·rw[C]at l;cases l
 obtain F|F:=B
 ·refine wpAny_storeName_local F hn (λO ab f=>?_) (by rw[I.ok.kind];rfl)
  obtain⟨oL,_,_,ac,_⟩:=id hn;refine h _ ⟨I.ok,I.os,I.bare,⟨λb o e n J B=>?_,λb o e n J B=>?_,I.base.free,λb o e B=>?_,I.base.tups,I.base.frzs,I.base.tbls⟩,⟨_,ab,λj y v' g D e3=>?_⟩,λy c e=>?_,I.free,I.freeC,λp hp=>?_,tracked ⟨oL,ac,I.free⟩ f,by simpa using I.len⟩ ⟨_,f,.inl rfl⟩
  ·exact(f.2 b<|Rb<|Rp (Ri e) I.ok.above).trans (I.base.keep b o e n J B)
  ·obtain⟨sl,g⟩:=I.base.slot b o e n J B
   exact⟨sl,(f.2 b<|Rb<|Rp (Ri e) I.ok.above).trans g⟩
  ·obtain⟨o',g⟩:=I.base.there b o e B
   exact⟨o',(f.2 b<|Rb<|Rp (Ri e) I.ok.above).trans g⟩
  ·by_cases K:j=i
   ·subst K
    rw[U]at g;cases g;rw[WD G]at D;cases D;exact⟨u,r,.inl ⟨F,by simp⟩⟩
   ·rw[W9<|To K]at D
    obtain⟨u',r',q⟩:=hl j y v' g D e3;refine⟨u',r',?_⟩;obtain ⟨k,e⟩|⟨k,c,e,z⟩:=q
    ·refine .inl ⟨k,?_⟩
     have:y≠x:=λe=>K<|vM hN g<|e ▸ U;simp[this,e]
    ·exact .inr ⟨k,c,e,z.sameBut f<|Ke y c e⟩
  ·obtain⟨W,z⟩:=I.cell y c e
   exact⟨W,z.sameBut f<|Ke y c e⟩
  ·obtain⟨e,n,Z,nf,d⟩:=I.pin p hp
   exact⟨(f.2 p.1 Z).trans e,n,Z,nf,d⟩
 ·have L:X.fn x=true:=by
   obtain z|z:=hf
   ·exact z
   ·rw[z]at F;cases F
  obtain⟨c,l⟩:=I.ok.has x<|.inl F;obtain⟨W,z⟩:=I.cell x c l;refine wpAny_storeName_cell I.ok.kind F l z λO T f=>?_;obtain⟨oc,P,R⟩:=id z;refine h { s with heap:=O } ⟨I.ok,I.os,I.bare,⟨λb o e n J B=>?_,λb o e n J B=>?_,I.base.free,λb o e B=>?_,I.base.tups,I.base.frzs,I.base.tbls⟩,⟨m,hn.sameBut f<|To<|Ke x c l,λj y v' g D e3=>?_⟩,λy Y e=>?_,I.free,I.freeC,λp hp=>?_,tracked ⟨oc,P,I.freeC x c l⟩ f,by simpa using I.len⟩ ⟨c,f,.inr l⟩
  ·exact(f.2 b<|Rb<|Rp (Ri e)<|I.ok.cab x c L l).trans (I.base.keep b o e n J B)
  ·obtain⟨sl,g⟩:=I.base.slot b o e n J B
   exact⟨sl,(f.2 b<|Rb<|Rp (Ri e)<|I.ok.cab x c L l).trans g⟩
  ·obtain⟨o',g⟩:=I.base.there b o e B
   exact⟨o',(f.2 b<|Rb<|Rp (Ri e)<|I.ok.cab x c L l).trans g⟩
  ·by_cases K:j=i
   ·subst K
    rw[U]at g;cases g;rw[WD G]at D;cases D;exact⟨u,r,.inr ⟨.inl F,c,l,T⟩⟩
   ·rw[W9<|To K]at D
    obtain⟨u',r',q⟩:=hl j y v' g D e3;refine⟨u',r',?_⟩;obtain q|⟨k,Y,e,z'⟩:=q
    ·exact .inl q
    ·refine .inr ⟨k,Y,e,z'.sameBut f ?_⟩
     rintro rfl;exact K<|vM hN g<|I.ok.inj _ _ _ e l ▸ U
  ·by_cases S:Y=c
   ·subst S;exact⟨_,T⟩
   ·obtain⟨w2,z2⟩:=I.cell y Y e
    exact⟨w2,z2.sameBut f S⟩
  ·obtain⟨e,n,Z,nf,d⟩:=I.pin p hp
   refine⟨(f.2 p.1 ?_).trans e,n,Z,nf,d⟩;intro q;rw[q,P]at e;exact d W (by rw[<-(Rr e)];exact R)
def wQ(I:Inv X XC σ H s)(e:X.N.Nodup)(f:X.N[i]? =some x)(g:Loc X.env.scope x)(r:RelV v u)
  (h:∀s',Inv X XC (σ.set i<|some v) H s'->Q () s')(hf:X.fn x=true\/X.env.scope.names.lookup x=some .local:=by first|exact .inl rfl|exact .inr rfl|assumption):wpAny M A (storeName X.env x u) Q E s:=
 Cc I e f g r (λs' a _=>h s' a) hf
def Inv.Dx(I:Inv X XC σ H s)(f:s'.os=s.os)(u:Un (Bp X.stack) ch H H' s.heap s'.heap)(a:gJ X.prog X.w H' s'.heap)(h:AllBare s'.gens)
  (g:∀b∈ch,(b∈X.ex\/X.s₀.heap.objs.size<=b)/\b≠X.env.locals/\(∀x c,X.env.cells.lookup x=some c->c≠b)/\∀p∈X.pn++XC,p.1≠b):Inv X XC σ H' s':=by
 obtain⟨i,g',d',t',j⟩:=s';have e:=f;subst e;exact I.call (g':=g') (t':=t') (d':=d') u a h g
end
abbrev XK:=Xo->Xu Xp->Hp->Prop
abbrev St:=Xw (Xu V)
abbrev VK:=V->Hp->Prop
abbrev TE:=St->Hp->VK->Prop
abbrev TT:=St->Hp->(Bool->Hp->Prop)->Prop
abbrev TA:=St->Hp->(Xw V->Hp->Prop)->Prop
structure Ends where
 nx:St->Hp->Prop
 rt:VK
 bk:St->Hp->Prop:=λ_ _=>False
 ct:St->Hp->Prop:=λ_ _=>False
abbrev TS:=Ends->St->Hp->Prop
inductive EP(X:Cx)(a:XA)(σ:St)(Q:VK)(u:Xo)(s':Xq):Prop
 |mk(v:V)(H':Hp)(I:Inv X a σ H' s')(r:RelV v u)(q:Q v H')
inductive TP(X:Cx)(a:XA)(σ:St)(Q:Bool->Hp->Prop)(b:Bool)(s':Xq):Prop
 |mk(H':Hp)(I:Inv X a σ H' s')(q:Q b H')
inductive AP(X:Cx)(a:XA)(σ:St)(Q:Xw V->Hp->Prop)(us:Xw Xo)(s':Xq):Prop
 |mk(vs:Xw V)(H':Hp)(I:Inv X a σ H' s')(r:Vals vs us)(q:Q vs H')
inductive SN(X:Cx)(e:XA)(k:St->Hp->Prop)(s':Xq):Prop
 |mk(a:St)(H':Hp)(I:Inv X e a H' s')(q:k a H')
def SP(X:Cx)(a:XA)(D:Ends)(f:Flow)(s':Xq):Prop:=
 match f with
 |.next=>SN X a D.nx s'
 |.brk=>SN X a D.bk s'
 |.cont=>SN X a D.ct s'
 |.ret u=>∃v e g,Inv X a e g s'/\RelV v u/\D.rt v g
def PE(X:Cx)(e:Expr)(t:TE):Prop:=
 ∀(a:XA) (s:Xq) (σ:St) (H:Hp) (Q:VK),Inv X a σ H s->t σ H Q->wpAny (model X.prog X.w) X.A (eval e X.env) (EP X a σ Q) X.xe s
def PT(X:Cx)(e:Expr)(t:TT):Prop:=
 ∀(a:XA) (s:Xq) (σ:St) (H:Hp) (Q:Bool->Hp->Prop),Inv X a σ H s->t σ H Q->wpAny (model X.prog X.w) X.A (isTrue e X.env<|eval e X.env) (TP X a σ Q) X.xe s
def PW(X:Cx)(e:Expr)(t:TT):Prop:=
 ∀(f:Sem Xo) (a:XA) (s:Xq) (σ:St) (H:Hp) (Q:Bool->Hp->Prop),Inv X a σ H s->t σ H Q->wpAny (model X.prog X.w) X.A (isTrue e X.env f) (TP X a σ Q) X.xe s
def PW.pt(h:PW X e t):PT X e t:=h _
def PA(X:Cx)(es:Xw Expr)(t:TA):Prop:=
 ∀(pos:Pos) (a:XA) (s:Xq) (σ:St) (H:Hp) (Q:Xw V->Hp->Prop),Inv X a σ H s->t σ H Q->wpAny (model X.prog X.w) X.A (spliced<|backTo pos<|starEach es X.env) (AP X a σ Q) X.xe s
def PS(X:Cx)(st:Stmt)(t:TS):Prop:=
 ∀(a:XA) (s:Xq) (σ:St) (H:Hp) (D:Ends),Inv X a σ H s->t D σ H->wpAny (model X.prog X.w) X.A (exec st X.env) (SP X a D) X.xe s
def yT(X:Cx)(st:Xw Stmt)(t:TS):Prop:=
 ∀(a:XA) (s:Xq) (σ:St) (H:Hp) (D:Ends),Inv X a σ H s->t D σ H->wpAny (model X.prog X.w) X.A (execs st X.env) (SP X a D) X.xe s
def cX(h:wpAny M A t Q E s)(e:∀a s,Q a s->Q' a s):wpAny M A t Q' E s:=RW h e λ_ _ x=>x
section
variable {X:Cx}
inductive PK(i:Nat)(σ:St)(H:Hp)(Q:VK):Prop
 |mk(v:V)(h:σ[i]? =some (some v))(q:Q v H)
def jd(i:Nat):TE:=λσ H Q=>PK i σ H Q
inductive Oo(x:V)(H:Hp)(Q:Bool->Hp->Prop):Prop
 |mk(c:Bool)(h:x=.bl c)(q:Q c H)
def tC(v:V):TE:=λ_ H Q=>Q v H
def mV (p:X.N[i]? =some x) (y:OJ X.env.scope x) (hd:(x==("__debug__" :Xx))=false:=by decide) (n:(x==("__classdict__" :Xx))=false:=by decide):PE X (.Name x pos) (jd i):=by
 intro z s σ H Q I h;obtain⟨v,e,h⟩:=h;obtain⟨m,q,o⟩:=I.loc;obtain⟨u,r,l⟩:=o i x v p e y;have f:EP X z σ Q u s:=⟨v,H,I,r,h⟩;obtain ⟨g,w⟩|⟨g,c,j,a⟩:=l
 ·exact wpAny_Name (wpAny_loadName_local I.ok.kind g q w f) hd
 ·obtain g|g:=g
  ·exact wpAny_Name (wpAny_loadName_cell I.ok.kind g j a f) hd
  ·exact wpAny_Name (wpAny_loadName_free I.ok.kind g j a f n) hd
def nN{i j pos}:PE X (.Constant (.int i) j pos) (tC<|.int i):=λ_ _ _ H _ I h=>wpAny_Constant_int ⟨.int i,H,I.tok _,⟨_,rfl⟩,h⟩
def I0{b j pos}:PE X (.Constant (.bool b) j pos) (tC<|.bl b):=λ_ _ _ H _ I h=>Constant_bool ⟨.bl b,H,I,rfl,h⟩
def Lb{j pos}:PE X (.Constant .none j pos) (tC .non):=λ_ _ _ H _ I h=>Constant_none ⟨.non,H,I,rfl,h⟩
def yi{x j pos}:PE X (.Constant (.str x) j pos) (tC<|.str x):=λ_ _ _ H _ I h=>Calls.Constant_str ⟨.str x,H,I.tok _,⟨_,rfl⟩,h⟩
def Gl(X:Cx)(x:Xx):Prop:=X.env.kindOf x=some .globalImplicit
def o5(I:Inv X XC σ H s)(a:Gl X x)(hm:X.mg x=some u)(h:Q u s)
  (hd:(x==("__debug__" :Xx))=false:=by decide):wpAny (model X.prog X.w) X.A (eval (.Name x pos) X.env) Q E s:=
 Xa I.ok.kind a (Calls.loadGlobal_global (by rw[I.ok.glob];exact I.mod.glob.keeps I.bk) hm h) hd
def jc(I:Inv X XC σ H s)(g:Gl X x)(hm:X.mg x=none)(a:bootBuiltins x=some u)(h:Q u s)
  (i:x≠ "__name__" :=by decide) (hd:(x==("__debug__" :Xx))=false:=by decide):wpAny (model X.prog X.w) X.A (eval (.Name x pos) X.env) Q E s:=by
 obtain⟨j,f,e⟩:=I.mod.blt;exact Xa I.ok.kind g (Calls.loadGlobal_builtin (by rw[I.ok.glob];exact I.mod.glob.keeps I.bk) hm (by rw[I.ok.blt];exact f.keeps I.bk) ((e x i).trans a) h) hd
def oY (a:Gl X x) (hm:X.mg x=some u) (r:RelV v u) (hd:(x==("__debug__" :Xx))=false:=by decide):PE X (.Name x pos) (tC v):=
 λ_ _ _ H _ I h=>o5 I a hm ⟨v,H,I,r,h⟩ hd
def oS (e:Gl X x) (hm:X.mg x=none) (a:bootBuiltins x=some u) (r:RelV v u) (f:x≠ "__name__" :=by decide) (hd:(x==("__debug__" :Xx))=false:=by decide):PE X (.Name x pos) (tC v):=
 λ_ _ _ H _ I h=>jc I e hm a ⟨v,H,I,r,h⟩ f hd
variable {tb:TE}{pos:Pos}
def PC(X:Cx)(op:CmpOp)(a b:Expr)(t:TE):Prop:=
 ∀(g:XA) (s:Xq) (σ:St) (H:Hp) (Q:VK),Inv X g σ H s->t σ H Q->
  wpAny (model X.prog X.w) X.A (eval a X.env) (λv f=>wpAny (model X.prog X.w) X.A (eval b X.env) (λu e=>wpAny (model X.prog X.w) X.A (compareOp op v u) (EP X g σ Q) X.xe e) X.xe f) X.xe s
def tB(t:TE):TT:=λσ H Q=>t σ H λx H1=>Oo x H1 Q
def Ka(h:PC X op a b t)(f:behindInMarks op b=false:=by first|exact nobehind _ (by decide) (by decide)|rfl):PE X (.Compare a [op] [b] pos) t:=λg s σ H Q I e=>wpAny_Compare1 (h g s σ H Q I e) f
def uV(h:PC X op a b t)(f:behindInMarks op b=false:=by first|exact nobehind _ (by decide) (by decide)|rfl):PT X (.Compare a [op] [b] pos) (tB t):=by
 intro m s σ H Q I l;refine wpAny_isTrue_Compare1 (cX (h m s σ H _ I l) λv o f=>cX f λu n g=>cX g λc p e=>?_) f;obtain⟨x,H1,j,i,q1⟩:=e;obtain⟨d,rfl,q⟩:=q1;cases i;exact RO ⟨H1,j,q⟩
def yK(h:PE X e t)(he:∀f,isTrue e X.env f=(do let v <-f;standAt e.pos;holding [v] (truthy v)):=by intro _;rfl):PT X e (tB t):=by
 intro l s σ H Q I g;refine isTrue_plain (cX (h l s σ H _ I g) λv m a=>?_)<|he _;obtain⟨x,H1,j,i,q1⟩:=a;obtain⟨d,rfl,q⟩:=q1;cases i;exact RO ⟨H1,j,q⟩
variable {rest:Xw Expr}
def Jv(t u:TT):TT:=λσ H Q=>t σ H λc H1=>if c=true then u σ H1 Q else Q false H1
def PR(t u:TT):TT:=λσ H Q=>t σ H λc H1=>if c=true then Q true H1 else u σ H1 Q
def N7(t:TT):TT:=λσ H Q=>t σ H λc H1=>Q (!c) H1
def GU(f:PT X a tA):PW X (.BoolOp .And [a] pos) tA:=by
 intro i g s σ H Q I h;refine isTrue_and<|cX (f g s σ H Q I h) λc j e=>?_;cases c with
 |true=>exact isTrue_and_nil e
 |false=>exact e
def DU(f:PT X a tA):PW X (.BoolOp .Or [a] pos) tA:=by
 intro i g s σ H Q I h;refine isTrue_or<|cX (f g s σ H Q I h) λc j e=>?_;cases c with
 |false=>exact isTrue_or_nil e
 |true=>exact e
def KA(g:PT X a tA)(l:PW X (.BoolOp .And (b::rest) pos) tB'):PW X (.BoolOp .And (a::b::rest) pos) (Jv tA tB'):=by
 intro i f s σ H Q I h;refine isTrue_and<|cX (g f s σ H _ I h) λc j ⟨H1,e,q1⟩=>?_;cases c with
 |true=>exact l i f j σ H1 Q e q1
 |false=>exact⟨H1,e,q1⟩
def Jc(g:PT X a tA)(l:PW X (.BoolOp .Or (b::rest) pos) tB'):PW X (.BoolOp .Or (a::b::rest) pos) (PR tA tB'):=by
 intro i f s σ H Q I h;refine isTrue_or<|cX (g f s σ H _ I h) λc j ⟨H1,e,q1⟩=>?_;cases c with
 |true=>exact⟨H1,e,q1⟩
 |false=>exact l i f j σ H1 Q e q1
def xP(e:PT X a tA):PT X (.UnaryOp .Not a pos) (N7 tA):=by
 intro g s σ H Q I h;exact isTrue_not<|cX (e g s σ H (λc H1=>Q (!c) H1) I h) λc i q=>q.casesOn λH1 f q1=>⟨H1,f,q1⟩
def IB(ta tb:TE):TE:=λσ H Q=>ta σ H λx H1=>Oo x H1 λc a=>if c=true then tb σ a Q else Q (.bl false) a
def Hh(ta tb:TE):TE:=λσ H Q=>ta σ H λx H1=>Oo x H1 λc a=>if c=true then Q (.bl true) a else tb σ a Q
def NA(ta:TE):TE:=λσ H Q=>ta σ H λx H1=>Oo x H1 λc a=>Q (.bl<|!c) a
def uf{op}(h:PE X a t):PE X (.BoolOp op [a] pos) t:=λf s σ H Q I e=>BoolOp_one<|h f s σ H Q I e
def tI(i:PE X a ta)(m:PE X (.BoolOp .And (b::rest) pos) tb):PE X (.BoolOp .And (a::b::rest) pos) (IB ta tb):=by
 intro g s σ H Q I h;refine BoolOp_and<|cX (i g s σ H _ I h) λv l e=>?_;obtain⟨x,H1,f,j,q1⟩:=e;obtain⟨c,rfl,q1⟩:=q1;cases j;refine RO ?_;cases c with
 |true=>exact m g l σ H1 Q f q1
 |false=>exact⟨.bl false,H1,f,rfl,q1⟩
def Ak(i:PE X a ta)(m:PE X (.BoolOp .Or (b::rest) pos) tb):PE X (.BoolOp .Or (a::b::rest) pos) (Hh ta tb):=by
 intro g s σ H Q I h;refine BoolOp_or<|cX (i g s σ H _ I h) λv l e=>?_;obtain⟨x,H1,f,j,q1⟩:=e;obtain⟨c,rfl,q1⟩:=q1;cases j;refine RO ?_;cases c with
 |false=>exact m g l σ H1 Q f q1
 |true=>exact⟨.bl true,H1,f,rfl,q1⟩
def LA(f:PE X a ta):PE X (.UnaryOp .Not a pos) (NA ta):=by
 intro j s σ H Q I h;refine UnaryOp_<|cX (f j s σ H _ I h) λv l e=>?_;obtain⟨x,H1,i,g,q1⟩:=e;obtain⟨c,rfl,q1⟩:=q1;cases g;exact not_of<|RO ⟨.bl<|!c,H1,i,rfl,q1⟩
end
def cN(K:Frag)(H:Hp)(a:Xp)(xs:Xw V):Prop:=
 Rd H a (.lst xs)\/
  ∃(o:Obj) (e:Array Xo) (n:Nat),K.lookup a=some o/\o.cls=.type "list" /\o.dict=none/\o.data=.seq e n/\e.size<=sizeLine/\Vals xs e.toList
def fe(K:Frag)(H:Hp)(a:Xp)(xs:Xw V):Prop:=
 Rd H a (.tup xs)\/
  ∃(o:Obj) (e:Array Xo) (n:Nat),K.lookup a=some o/\o.cls=.type "tuple" /\o.data=.seq e n/\e.size<=sizeLine/\Vals xs e.toList
def PN:Xo->Xu V
 |.none=>some .non
 |.bool b=>some<|.bl b
 |.int i _=>some<|.int i
 |.str x _=>some<|.str x
 |.bytes b _=>some<|.byt b
 |.float b _=>some<|.flt b
 |.ref a=>some<|.ref a
 |.type n=>some<|.ty n
 |_=>none
def RelV.abs(r:RelV x u):PN u=some x:=by
 cases x with
 |non=>cases r;rfl
 |bl _=>cases r;rfl
 |int _=>obtain⟨t,rfl⟩:=r;rfl
 |str _=>obtain⟨t,rfl⟩:=r;rfl
 |byt _=>obtain⟨t,rfl⟩:=r;rfl
 |flt _=>obtain⟨t,rfl⟩:=r;rfl
 |ref _=>cases r;rfl
 |ty _=>cases r;rfl
def RelV.inj(r:RelV x u)(q:RelV y u):x=y:=Rr<|r.abs.symm.trans q.abs
theorem Vals.inj:∀{xs ys:Xw V}{us:Xw Xo},Vals xs us->Vals ys us->xs=ys
 |_,_,_,.nil,.nil=>rfl
 |_,_,_,.cons r t,.cons r' t'=>by rw[r.inj r',Vals.inj t t']
def cN.of{K:Frag}(h:H a=some (.lst xs)):cN K H a xs:=.inl<|.inl h
def fe.of{K:Frag}(h:H a=some (.tup xs)):fe K H a xs:=.inl<|.inl h
def Inv.list(I:Inv X XC σ H s)(h:cN X.K H a xs):∃f:Xw Xo,Vals xs f/\PlainL s.heap a f.toArray/\xs.length<=sizeLine:=by
 obtain h|⟨o,f,n,i,l,g,j,m,r⟩:=h
 ·obtain⟨z,f,n,r,e⟩:=h.ok I.hok
  exact⟨f,r,⟨_,n,e,rfl,rfl,rfl⟩,z⟩
 ·refine⟨f.toList,r,⟨o,n,I.oH a o i,l,g,by simpa using j⟩,?_⟩
  have e:=r.length;simp only[length_toList]at e;lia
def Inv.tuple(I:Inv X XC σ H s)(h:fe X.K H a xs):∃f:Xw Xo,Vals xs f/\IsTup s.heap a f.toArray/\xs.length<=sizeLine:=by
 obtain h|⟨o,f,n,g,j,i,l,r⟩:=h
 ·obtain⟨z,f,r,p⟩:=h.ok I.hok
  exact⟨f,r,p,z⟩
 ·refine⟨f.toList,r,⟨o,I.oH a o g,j,n,by simpa using i⟩,?_⟩
  have e:=r.length;simp only[length_toList]at e;lia
def Inv.xA(I:Inv X XC σ H s)(h:cN X.K H a xs)(h':cN X.K H a ys):xs=ys:=by
 obtain⟨l,r,⟨o,n,e,_,_,d⟩,_⟩:=I.list h;obtain⟨j,i,⟨p,m,g,_,_,f⟩,_⟩:=I.list h';rw[e]at g;cases g;rw[d]at f;injection f with d1 _
 have:l=j:=by simpa using RP Array.toList d1
 subst this;exact r.inj i
def Inv.Bb(I:Inv X XC σ H s)(h:fe X.K H a xs)(h':fe X.K H a ys):xs=ys:=by
 obtain⟨l,r,⟨o,e,_,n,d⟩,_⟩:=I.tuple h;obtain⟨j,i,⟨p,g,_,m,f⟩,_⟩:=I.tuple h';rw[e]at g;cases g;rw[d]at f;injection f with d1 _
 have:l=j:=by simpa using RP Array.toList d1
 subst this;exact r.inj i
abbrev Cx.rp(X:Cx)(E:Xy):Cx:={ X with xe:=E }
abbrev Cx.Mz(X:Cx):Cx:=X.rp λ_ _=>False
def Cx.Ok.rp{X:Cx}(ok:X.Ok)(E:Xy):(X.rp E).Ok:=
 ⟨ok.mod,ok.kind,ok.glob,ok.blt,ok.above,ok.inj,ok.has,ok.cab,ok.hd,ok.frames,ok.stk,ok.exf,ok.bs,ok.bsz,ok.noex,ok.exfs,ok.nV,ok.frf⟩
def Cx.Ok.jy{X:Cx}(ok:(X.rp E).Ok):X.Ok:=
 ⟨ok.mod,ok.kind,ok.glob,ok.blt,ok.above,ok.inj,ok.has,ok.cab,ok.hd,ok.frames,ok.stk,ok.exf,ok.bs,ok.bsz,ok.noex,ok.exfs,ok.nV,ok.frf⟩
def Inv.rp(I:Inv X XC σ H s)(E:Xy):Inv (X.rp E) XC σ H s:=⟨I.ok.rp E,I.os,I.bare,I.base,I.loc,I.cell,I.free,I.freeC,I.pin,I.hok,I.len⟩
def Inv.jy(I:Inv (X.rp E) XC σ H s):Inv X XC σ H s:=⟨I.ok.jy,I.os,I.bare,I.base,I.loc,I.cell,I.free,I.freeC,I.pin,I.hok,I.len⟩
def SP.jy(h:SP (X.rp E) XC D f s'):SP X XC D f s':=by
 cases f with
 |next=>obtain⟨a,e,I,q⟩:=h;exact⟨a,e,I.jy,q⟩
 |brk=>obtain⟨a,e,I,q⟩:=h;exact⟨a,e,I.jy,q⟩
 |cont=>obtain⟨a,e,I,q⟩:=h;exact⟨a,e,I.jy,q⟩
 |ret u=>obtain⟨v,a,e,I,r,q⟩:=h;exact⟨v,a,e,I.jy,r,q⟩
def yT.Mz{st:Xw Stmt}(h:yT X.Mz st t):yT X st t:=λe s σ H D I a=>
 RW (h e s σ H D (I.rp _) a) (λ_ _ q=>q.jy) λ_ _ z=>False.elim z
section
variable {st:Stmt}{rest:Xw Stmt}{t:TS}{u:TS}{e:Expr}{te:TE}{pos:Pos}
def zQ:TS:=λD σ H=>D.nx σ H
def Bm(t u:TS):TS:=λD σ H=>t { D with nx:=u D } σ H
def zA:yT X [] zQ:=λ_ _ σ H _ I h=>Vu ⟨σ,H,I,h⟩
def vC(i:PS X st t)(g:yT X rest u):yT X (st::rest) (Bm t u):=by
 intro e s σ H D I h;refine wpAny_execs_cons<|cX (i e s σ H { D with nx:=u D } I h) λf m q=>?_;cases f with
 |next=>
  obtain⟨a,l,j,q⟩:=q;exact g e m a l D j q
 |ret v=>exact q
 |brk=>exact q
 |cont=>exact q
def lO(a:PS X st t):yT X [st] t:=by
 intro e s σ H D I h;refine wpAny_execs_cons<|cX (a e s σ H D I h) λf g q=>?_;cases f with
 |next=>exact Vu q
 |ret v=>exact q
 |brk=>exact q
 |cont=>exact q
def Inv.quiet(I:Inv X XC σ H s):interactive X.env=false:=by simp[interactive,I.ok.kind]
def Ek(a:TE):TS:=λD σ H=>a σ H λ_ H1=>D.nx σ H1
def GP(he:PE X e te)(a:swapsWith e none pos.line X.env=pure false:=by rfl):PS X (.Expr e pos) (Ek te):=by
 intro g s σ H D I h;exact wpAny_Expr_any (cX (he g s σ H _ I h) λv j ⟨x,H1,f,i,q1⟩=>⟨σ,H1,f,q1⟩) I.quiet a
def GH(a:TE):TS:=λD σ H=>a σ H D.rt
def pW(he:PE X e te):PS X (.Return (some e) pos) (GH te):=by
 intro g s σ H D I h;exact wpAny_Return_some<|cX (he g s σ H _ I h) λv i ⟨x,H1,f,a,q1⟩=>⟨x,σ,H1,f,a,q1⟩
def HP(c:TT)(t u:TS):TS:=λD σ H=>c σ H λb H1=>if b=true then t D σ H1 else u D σ H1
def Jo(l:PT X c tc)(i:yT X a t)(j:yT X b u):PS X (.If c a b pos) (HP tc t u):=by
 intro e s σ H D I h;refine wpAny_If<|cX (l e s σ H _ I h) λd f ⟨H1,g,q1⟩=>?_;cases d with
 |true=>exact i e f σ H1 D g q1
 |false=>exact j e f σ H1 D g q1
def CY:TS:=λ_ _ _=>False
def Cq:yT X sts CY:=λ_ _ _ _ _ _ h=>h.elim
end
abbrev TG:=V->St->Hp->(St->Hp->Prop)->Prop
abbrev wR:=Xw V->St->Hp->(St->Hp->Prop)->Prop
def PG(X:Cx)(target:Expr)(t:TG):Prop:=
 ∀(e:XA) (s:Xq) (σ:St) (H:Hp) (v:V) (u:Xo) (Q:St->Hp->Prop),Inv X e σ H s->RelV v u->t v σ H Q->
  wpAny (model X.prog X.w) X.A (assign target X.env u) (λ_ g=>∃a f,Inv X e a f g/\Q a f) X.xe s
def MK(X:Cx)(i:Xw Expr)(t:wR):Prop:=
 ∀(g:XA) (s:Xq) (σ:St) (H:Hp) (e:Xw V) (us:Xw Xo) (Q:St->Hp->Prop),Inv X g σ H s->Vals e us->t e σ H Q->
  wpAny (model X.prog X.w) X.A (assignInOrder ((assignEach i X.env).map (·.2)) us) (λ_ h=>∃a f,Inv X g a f h/\Q a f) X.xe s
def eR(i:Nat):TG:=λv σ H Q=>Q (σ.set i<|some v) H
def o8(e:X.N.Nodup)(f:X.N[i]? =some x)(g:Loc X.env.scope x)(hf:X.fn x=true\/X.env.scope.names.lookup x=some .local:=by first|exact .inl rfl|exact .inr rfl|assumption):PG X (.Name x pos) (eR i):=by
 intro l s σ H v u Q I r h;exact wpAny_assign_Name<|wQ I e f g r (λj a=>⟨_,H,a,h⟩) hf
def M9:wR:=λa σ H Q=>a=[]/\Q σ H
inductive MS(t:TG)(u:wR)(vs:Xw V)(σ:St)(H:Hp)(Q:St->Hp->Prop):Prop
 |mk(v:V)(r:Xw V)(e:vs=v::r)(q:t v σ H λa H'=>u r a H' Q)
def IX(t:TG)(u:wR):wR:=λa σ H Q=>MS t u a σ H Q
def Hm:MK X [] M9:=by
 intro g s σ H f a Q I r h;obtain⟨e,h⟩:=h;subst e;cases r;exact assignInOrder_nil ⟨σ,H,I,h⟩
def Fc(l:PG X e t)(i:MK X es u)
  (o:(assignEach (e::es) X.env).map (·.2)=assign e X.env::(assignEach es X.env).map (·.2):=by rfl):MK X (e::es) (IX t u):=by
 intro g s σ H q x Q I r h;obtain⟨v,w,p,h⟩:=h;subst p;cases r with
 |cons r m=>
  rw[o];refine assignInOrder_cons<|cX (l g s σ H _ _ _ I r h) λ_ n a=>?_;obtain⟨f,H1,j,q1⟩:=a;exact i g n f H1 _ _ Q j m q1
inductive OU(K:Frag)(n:Nat)(t:wR)(v:V)(σ:St)(H:Hp)(Q:St->Hp->Prop):Prop
 |mk(a:Xp)(xs:Xw V)(f:v=.ref a)(s:fe K H a xs)(e:xs.length=n)(q:t xs σ H Q)
def Lr(K:Frag)(n:Nat)(t:wR):TG:=λv σ H Q=>OU K n t v σ H Q
def EI(B:X.calm=true)(h:MK X es t)
  (z:(assignEach es X.env).length=n:=by rfl)(q:(assignEach es X.env).findIdx? (·.1)=none:=by rfl):PG X (.Tuple es k pos) (Lr X.K n t):=by
 intro i s σ H v u Q I r f;obtain⟨a,x,A,p,w,f⟩:=f;subst A;cases r;obtain⟨D,g,j,C⟩:=I.tuple p;refine assign_Tuple_tuple (I.ok.hd B) j (by simp[z,<-w,g.length]) q λm y=>?_;have l:Inv X i σ H { s with heap:=m }:=I.kept (t':=s.toks) λb o e=>y b o (Rb<|Ri e) e;exact h i _ σ H x _ Q l (by simpa using g) f
def vP(a:TE)(g:TG):TS:=λD σ H=>a σ H λx H1=>g x σ H1 D.nx
def KC(he:PE X e te)(m:PG X tg g)(p:swapsWithSole [tg] e pos.line X.env=pure false:=by rfl)(hw:swappedStores [tg] e X.env=pure none:=by rfl)
  (n:(assignEach [tg] X.env).map (·.2)=[assign tg X.env]:=by rfl):PS X (.Assign [tg] e pos) (vP te g):=by
 intro i s σ H D I h;refine wpAny_Assign_stores (cX (he i s σ H _ I h) λv o f=>?_) p hw;obtain⟨x,H1,l,j,q1⟩:=f;rw[n];exact cX (m i o σ H1 x v _ l j q1) λ_ q ⟨a,b,c,d⟩=>⟨a,b,c,d⟩
def LM(o:X.N.Nodup)(n:X.N[i]? =some x)(p:Loc X.env.scope x)(he:PE X e te)(l:swapsWith e (some<|.Name x XU) pos.line X.env=pure false:=by rfl)(hf:X.fn x=true\/X.env.scope.names.lookup x=some .local:=by first|exact .inl rfl|exact .inr rfl|assumption):
  PS X (.Assign [.Name x XU] e pos) (vP te<|eR i):=by
 intro f s σ H D I h;refine wpAny_Assign_Name (cX (he f s σ H _ I h) λv r a=>?_) l;obtain⟨y,H1,m,j,q1⟩:=a;exact wQ m o n p j (λq g=>⟨_,H1,g,q1⟩) hf
def Dq(c:TT)(tb:TS):TS:=λD σ H=>∃W:Nat->St->Hp->Prop,(∃m,W m σ H)/\∀m σ H,W m σ H->
 c σ H λb H1=>if b=true then ∃N:St->Hp->Prop,(∀a e,N a e->∃f,f<m/\W f a e)/\tb { D with nx:=N,ct:=N,bk:=D.nx } σ H1 else D.nx σ H1
def EY(z:PassesOwn (model X.prog X.w) X.A X.env X.xe)(R:PT X c tc)(J:yT X body tb):PS X (.While c body [] pos) (Dq tc tb):=by
 intro x s σ H D I h;obtain⟨W,⟨O,P⟩,M⟩:=h;refine wpAny_While<|codeAny_whileLoop (λn F=>∃i C,Inv X x i C F/\W n i C) ?_ O ⟨σ,H,I,P⟩;rintro n Q ⟨e,H1,K,G⟩;refine TJ z<|cX (R x Q e H1 _ K<|M n e H1 G) λb L ⟨B,y,l⟩=>?_;cases b with
 |true=>
  obtain⟨N,E,l⟩:=l;rw[QR rfl];refine TJ z<|cX (J x L e B _ y l) λf S j=>?_;cases f with
  |next=>
   obtain⟨a,g,p,o⟩:=j;obtain⟨q,r,m⟩:=E a g o;exact⟨q,r,a,g,p,m⟩
  |cont=>
   obtain⟨a,g,p,o⟩:=j;obtain⟨q,r,m⟩:=E a g o;exact⟨q,r,a,g,p,m⟩
  |brk=>exact j
  |ret v=>exact j
 |false=>
  rw[QO bF0];exact Vu ⟨e,B,y,l⟩
structure It where
 go:Nat->Hp->Prop
 yld:Nat->Hp->V->Hp->Prop
 stop:Nat->Hp->Prop
def nR(X:Cx)(a:XA)(H:Hp)(b:Xp):Prop:=
 H b=none/\b≠X.env.locals/\b ∉ X.fs/\(b∈X.ex\/X.s₀.heap.objs.size<=b)/\(∀x c,X.env.cells.lookup x=some c->c≠b)/\∀p∈X.pn++a,p.1≠b
def Inv.uj(I:Inv X XC σ H s)(a:s.heap.objs.size<=b)(g:H' b=none):nR X XC H' b:=by
 refine⟨g,UH<|Rp I.lt a,I.Px a,.inr<|Rn I.sz a,λx c e z=>?_,λp f z=>?_⟩
 ·obtain⟨v,q⟩:=I.cell x c e
  exact absurd (Rp q.lt<|by rw[z];exact a)<|UD _
 ·exact absurd (Rp (Ri (I.pin p f).1)<|by rw[z];exact a)<|UD _
structure Turn(P:Xr)(w:Xs)(K:Frag)(tg:Expr)(J:It)(fp:Xw Xp)(it:Xp)(tn:Nat->Heap->Prop):Prop where
 mem:it∈fp
 obj:∀i h,tn i h->∀b∈fp,∃o,h.get? b=some o/\∀v,o.data≠.cell v
 keep:∀i h h',tn i h->(∀b∈fp,∀o,h.get? b=some o->h'.get? b=some o)->tn i h'
 item:∀(X:Cx),X.prog=P->X.w=w->X.K=K->X.calm=true->∀(i:Nat) (XC:XA) (s:Xq) (σ:St) (H:Hp) (E:Xy),Inv X XC σ H s->(∀b∈fp,nR X XC H b)->tn i s.heap->J.go i H->
  wpAny (model P w) X.A (pyNext (.ref it)) (λr s1=>∃u,r=some u/\
   wpAny (model P w) X.A (letOwnedTupleGo tg (.ref it) u) (λ_ s2=>∃x H',Inv X XC σ H' s2/\RelV x u/\J.yld i H x H'/\tn (i+1) s2.heap/\∀b∈fp,H' b=none) E s1) E s
 done:∀(X:Cx),X.prog=P->X.w=w->X.K=K->X.calm=true->∀(i:Nat) (XC:XA) (s:Xq) (σ:St) (H:Hp) (E:Xy),Inv X XC σ H s->(∀b∈fp,nR X XC H b)->tn i s.heap->J.stop i H->
  wpAny (model P w) X.A (pyNext (.ref it)) (λr s1=>r=none/\Inv X XC σ H s1) E s
 self:∀(A:Xv) (i:Nat) (s:Xq) (Q:Xy) (E:Xy),tn i s.heap->Q (.ref it) s->wpAny (model P w) A (pyIter (.ref it)) Q E s
abbrev TI:=St->Hp->(It->Hp->Prop)->Prop
def My(X:Cx)(h:XA)(σ:St)(tg:Expr)(R:It->Hp->Prop)(a:Xo)(s2:Xq):Prop:=
 ∃(it:Xp) (g:Xw Xp) (f:Nat->Heap->Prop) (J:It) (e:Hp),a=.ref it/\Inv X h σ e s2/\Turn X.prog X.w X.K tg J g it f/\f 0 s2.heap/\(∀b∈g,nR X h e b)/\R J e
def PI(X:Cx)(tg iter:Expr)(e:TI):Prop:=
 ∀(a:XA) (s:Xq) (σ:St) (H:Hp) (R:It->Hp->Prop),Inv X a σ H s->e σ H R->
  wpAny (model X.prog X.w) X.A (eval iter X.env) (λv f=>wpAny (model X.prog X.w) X.A (pyIter v) (My X a σ tg R) X.xe f) X.xe s
def rK(f:s.heap.get? it=some o)(e:o.cls=.type n)(hd:o.data=.fields vs)
  (g:["enumerate","zip","dict_itemiterator","dict_reverseitemiterator","odict_iterator","itertools.zip_longest","itertools.pairwise"].contains n=false) (a:Q () s):wpAny M A (letOwnedTupleGo tg (.ref it) u) Q E s:=by
 unfold letOwnedTupleGo;cases tg<;>first
  |exact QI a
  | (cases u<;>first
    |exact QI a
    | (refine QH (wpAny_load f ?_)
       rw[e,hd];show wpAny M A (if(["enumerate","zip","dict_itemiterator","dict_reverseitemiterator","odict_iterator","itertools.zip_longest","itertools.pairwise"].contains n&&vs[0]? == some (rawInt _))=true then _ else _) Q E s;rw[QO<|by grind];exact QI a))
def FY(K:Frag)(a:Xp):It:=
 ⟨λi H=>∃e x,cN K H a e/\e[i]? =some x,λi H x f=>f=H/\∀e,cN K H a e->e[i]? =some x,λi H=>∃e,cN K H a e/\e.length<=i⟩
def Pd(K:Frag)(a:Xp):It:=
 ⟨λi H=>∃e x,fe K H a e/\e[i]? =some x,λi H x f=>f=H/\∀e,fe K H a e->e[i]? =some x,λi H=>∃e,fe K H a e/\e.length<=i⟩
def qI(lo:Int)(n:Nat):It:=⟨λi _=>i<n,λi H x a=>a=H/\x=.int (lo+i),λi _=>n<=i⟩
def BQ{P:Xr}{w:Xs}{K:Frag}{tg:Expr}(a it:Xp):Turn P w K tg (FY K a) [it] it (λi h=>h.IsListIter it a i) where
 mem:=by simp
 obj:=λi h f b g=>by
  have e:b=it:=by simpa using g
  subst e;obtain⟨o,e,c,d⟩:=f;exact⟨o,e,λv z=>by rw[d]at z;cases z⟩
 keep:=λi h j f k=>f.at λo e=>k it (by simp) o e
 item:=by
  intro X G B y M i N s σ H E I m f n;subst G B y;obtain⟨T,x,l,D⟩:=n;obtain⟨XF,A,p,R⟩:=I.list l;obtain⟨u,U,Y⟩:=A.get D;obtain⟨q,r,W,J,F,C⟩:=m it (by simp);refine wpAny_pyNext_list_item f p.isList (by simpa using U) λj L Z=>?_;have O:Inv X N σ H { s with heap:=j }:=I.turned (t':=s.toks) (λb o g e=>(Z.2 b g).trans e) q r J F C;obtain⟨o,e,c,d⟩:=id L;exact⟨u,rfl,rK (s:={ s with heap:=j }) e c d (by decide) ⟨x,H,O,Y,⟨rfl,λys S=>by rw[I.xA S l];exact D⟩,L,λb g=>(m b g).1⟩⟩
 done:=by
  intro X G B y M i N s σ H E I m f n;subst G B y;obtain⟨T,l,D⟩:=n;obtain⟨XF,A,p,R⟩:=I.list l;obtain⟨q,r,W,J,F,C⟩:=m it (by simp);have hl:=A.length;exact wpAny_pyNext_list_end (I.ok.hd M) f p.isList (by simp;lia) λj Q=>⟨rfl,I.turned (t':=s.toks) (λb o g e=>Q b o g e) q r J F C⟩
 self:=λ_ _ _ _ _ f h=>wpAny_pyIter_listiter f h
def yQ{P:Xr}{w:Xs}{K:Frag}{tg:Expr}(a it:Xp):Turn P w K tg (Pd K a) [it] it (λi h=>h.IsTupleIter it a i) where
 mem:=by simp
 obj:=λi h f b g=>by
  have e:b=it:=by simpa using g
  subst e;obtain⟨o,e,c,d⟩:=f;exact⟨o,e,λv z=>by rw[d]at z;cases z⟩
 keep:=λi h j f k=>f.at λo e=>k it (by simp) o e
 item:=by
  intro X G B y N i O s σ H E I m f n;subst G B y;obtain⟨U,x,l,D⟩:=n;obtain⟨L,A,p,S⟩:=I.tuple l;obtain⟨u,W,Z⟩:=A.get D;obtain⟨q,r,Y,J,F,C⟩:=m it (by simp);refine wpAny_pyNext_tuple_item f (show s.heap.IsTuple a L.toArray from p) (by simpa using W) λj M sb=>?_;have Q:Inv X O σ H { s with heap:=j }:=I.turned (t':=s.toks) (λb o g e=>(sb.2 b g).trans e) q r J F C;obtain⟨o,e,c,d⟩:=id M;exact⟨u,rfl,rK (s:={ s with heap:=j }) e c d (by decide) ⟨x,H,Q,Z,⟨rfl,λys T=>by rw[I.Bb T l];exact D⟩,M,λb g=>(m b g).1⟩⟩
 done:=by
  intro X G B y N i O s σ H E I m f n;subst G B y;obtain⟨U,l,D⟩:=n;obtain⟨L,A,p,S⟩:=I.tuple l;obtain⟨q,r,Y,J,F,C⟩:=m it (by simp);have hl:=A.length;exact wpAny_pyNext_tuple_end (I.ok.hd N) f (show s.heap.IsTuple a L.toArray from p) (by simp;lia) λj R=>⟨rfl,I.turned (t':=s.toks) (λb o g e=>R b o g e) q r J F C⟩
 self:=λ_ _ _ _ _ f h=>wpAny_pyIter_tupleiter f h
def x8{P:Xr}{w:Xs}{K:Frag}{tg:Expr}(it:Xp)(lo:Int)(n:Nat):Turn P w K tg (qI lo n) [it] it (λi h=>IsRangeIter h it (lo+(i:Nat)*1) ((n:Int)-(i:Nat)) 1) where
 mem:=by simp
 obj:=λi h a b f=>by
  have e:b=it:=by simpa using f
  subst e;exact⟨_,a,λv z=>by
   have J:=z;cases J⟩
 keep:=λi h g a k=>k it (by simp) _ a
 item:=by
  intro X A r q C i G s σ H E I j a l;subst A r q;obtain⟨m,p,O,B,y,x⟩:=j it (by simp);have W:=Walks.range (prog:=X.prog) (w:=X.w) (I.ok.hd C) it lo 1 n;refine W.item i s _ _ l a λv g F Q D M=>?_;obtain⟨t,rfl⟩:=Q;have L:Inv X G σ H { s with heap:=g,toks:=F }:=I.turned (λb o f e=>M b o (by simpa using f) e) m p B y x;refine⟨_,rfl,rK (s:={ s with heap:=g,toks:=F }) (n:= "range_iterator") D rfl rfl (by decide) ⟨.int<|lo+i,H,L,⟨t,?_⟩,⟨rfl,rfl⟩,D,λb f=>(j b f).1⟩⟩;rw[Int.mul_one]
 done:=by
  intro X A r q C i G s σ H E I j a l;subst A r q;obtain⟨m,p,O,B,y,x⟩:=j it (by simp);exact wpAny_pyNext_range_end (I.ok.hd C) a (by have:n<=i:=l;lia) λg N=>⟨rfl,I.turned (t':=s.toks) (λb o f e=>N b o f e) m p B y x⟩
 self:=λ_ _ _ _ _ a h=>wpAny_pyIter_rangeiter a h
inductive Lg(K:Frag)(x:V)(H:Hp)(R:It->Hp->Prop):Prop
 |mk(a:Xp)(e:x=.ref a)(s:∃xs,cN K H a xs)(q:R (FY K a) H)
def IW(K:Frag)(a:TE):TI:=λσ H R=>a σ H λx H1=>Lg K x H1 R
def Om(K:Frag)(e:TE):TI:=λσ H R=>e σ H λx H1=>∃a,x=.ref a/\(∃f,fe K H1 a f)/\R (Pd K a) H1
def GI(r:PE X l tl):PI X tg l (IW X.K tl):=by
 intro w s σ H R I h;refine cX (r w s σ H _ I h) λv i f=>?_;obtain⟨x,H1,g,j,q1⟩:=f;obtain⟨a,e,⟨A,n⟩,q⟩:=q1;subst e;cases j;obtain⟨B,y,p,z⟩:=g.list n;refine TX p.isList ⟨i.heap.objs.size,[i.heap.objs.size],_,_,H1,rfl,g.kept (t':=i.toks) λb o e=>QL _ e,BQ a _,⟨_,QX _ rfl,rfl,rfl⟩,λb m=>?_,q⟩;have e:b=i.heap.objs.size:=by simpa using m
 subst e;exact g.uj (QP _)<|g.hok.fresh<|QP _
def x5(r:PE X l tl):PI X tg l (Om X.K tl):=by
 intro w s σ H R I h;refine cX (r w s σ H _ I h) λv f g=>?_;obtain⟨x,H1,i,j,q1⟩:=g;obtain⟨a,e,⟨B,n⟩,q⟩:=q1;subst e;cases j;obtain⟨y,z,p,A⟩:=i.tuple n;refine wpAny_pyIter_tuple (show f.heap.IsTuple a y.toArray from p) ⟨f.heap.objs.size,[f.heap.objs.size],_,_,H1,rfl,i.kept (t':=f.toks) λb o e=>QL _ e,yQ a _,⟨_,QX _ rfl,rfl,rfl⟩,λb m=>?_,q⟩;have e:b=f.heap.objs.size:=by simpa using m
 subst e;exact i.uj (QP _)<|i.hok.fresh<|QP _
def vD{lo a:Int}{t u v:Tok}{f:Nat}(I:Inv X XC σ H s)(l: -(2^62)<=lo)(i:lo<2^62)(m: -(2^62)<=a)(j:a<2^62)
  (q:R (qI lo (a-lo).toNat) H):wpAny (model X.prog X.w) X.A (pyIter<|.ref s.heap.objs.size) (My X XC σ tg R) E { s with heap:=s.heap.push { cls:=.type "range",data:=.fields #[.int lo t,.int a u,.int 1 v] },toks:=f }:=by
 refine wpAny_pyIter_range (IsRange.new ..) (small_one l i m j) ?_;have g:Inv X XC σ H { s with heap:=s.heap.push { cls:=.type "range",data:=.fields #[.int lo t,.int a u,.int 1 v] },toks:=f }:=I.kept λb o e=>QL _ e;refine⟨(s.heap.push { cls:=.type "range",data:=.fields #[.int lo t,.int a u,.int 1 v] }).objs.size,[(s.heap.push { cls:=.type "range",data:=.fields #[.int lo t,.int a u,.int 1 v] }).objs.size],_,_,H,rfl,
  g.kept (t':=f) λb o e=>QL _ e,x8 _ lo (a-lo).toNat,?_,λb n=>?_,q⟩
 ·have h:lo+((0:Nat):Int)*1=lo:=by simp
  have p:(((a-lo).toNat:Nat):Int)-((0:Nat):Int)=Builtin.Range.rangeSize lo a 1:=by rw[rangeSize_one];split<;>lia
  show IsRangeIter _ _ (lo+((0:Nat):Int)*1) ((((a-lo).toNat:Nat):Int)-((0:Nat):Int)) 1;rw[h,p];exact QX _ rfl
 ·have e:b=(s.heap.push { cls:=.type "range",data:=.fields #[.int lo t,.int a u,.int 1 v] }).objs.size:=by simpa using n
  subst e;exact g.uj (QP _)<|g.hok.fresh<|QP _
def Iu(ta:TA):TI:=λσ H R=>ta σ H λa H1=>∃j:Int,a=[.int j]/\ -(2^62)<=j/\j<2^62/\R (qI 0 j.toNat) H1
def IS(ta:TA):TI:=λσ H R=>ta σ H λa H1=>∃i j:Int,a=[.int i,.int j]/\(-(2^62)<=i/\i<2^62/\ -(2^62)<=j/\j<2^62)/\R (qI i (j-i).toNat) H1
def Cu {p pos:Pos}(i:Gl X "range") (hm:X.mg "range" =none) (o:PA X [a] ta) (n:starEach [a] X.env=[(false,eval a X.env)]:=by rfl):PI X tg (.Call (.Name "range" p) [a] [] pos) (Iu ta):=by
 intro w s σ H R I h;refine Call_<|jc I i hm boot_range<|Sk (cX (o pos w s σ H _ I h) λz y f=>?_) n rfl;obtain⟨x,H1,l,g,q1⟩:=f;obtain⟨j,e,q1,v,q⟩:=q1;subst e;cases g with
 |cons r m=>
  cases m;obtain⟨t,rfl⟩:=r;exact call_range_1 (vD l (by lia) (by lia) q1 v<|by simpa using q)
def mR (o:Gl X "range") (hm:X.mg "range" =none) (z:PA X [a,b] ta) (y:starEach [a,b] X.env=[(false,eval a X.env),(false,eval b X.env)]:=by rfl) (l:starEach [b] X.env=[(false,eval b X.env)]:=by rfl):
  PI X tg (.Call (.Name "range" p) [a,b] [] pos) (IS ta):=by
 intro B s σ H R I h;refine Call_ (jc I o hm boot_range<|Sk (cX (z pos B s σ H _ I h) λF E f=>?_) (by rw[y,l])<|by rw[l];rfl);obtain⟨D,H1,v,n,q1⟩:=f;obtain⟨i,j,e,⟨q1,A,w,x⟩,q⟩:=q1;subst e;cases n with
 |cons r g=>
  cases g with
  |cons m g=>
   cases g;obtain⟨t,rfl⟩:=r;obtain⟨C,rfl⟩:=m;exact call_range_2<|vD v q1 A w x q
def NQ(j:TI)(g:TG)(tb:TS):TS:=λD σ H=>j σ H λJ H1=>∃W:Nat->Nat->St->Hp->Prop,(∃m,W 0 m σ H1)/\∀i m σ H,W i m σ H->
 (J.stop i H/\D.nx σ H)\/(J.go i H/\∃N:St->Hp->Prop,(∀e a,N e a->∃h,h<m/\W (i+1) h e a)/\∀x a,J.yld i H x a->g x σ a λf l=>tb { D with nx:=N,ct:=N,bk:=D.nx } f l)
def uR(fp:Xw Xp)(h:Heap):XA:=fp.filterMap λb=>(h.get? b).map λo=>(b,o)
def eW(a:b∈fp)(e:h.get? b=some o):(b,o)∈uR fp h:=Vw.mpr ⟨b,a,by rw[e];rfl⟩
def BB(a:p∈uR fp h):p.1∈fp/\h.get? p.1=some p.2:=by
 obtain⟨b,f,e⟩:=Vw.mp a;cases q:h.get? b with
 |none=>grind
 |some o=>grind
def Inv.pinned(I:Inv X XC σ H s)(hf:∀b∈fp,nR X XC H b)(i:∀b∈fp,∃o,s.heap.get? b=some o/\∀v,o.data≠.cell v):Inv X (XC++uR fp s.heap) σ H s:=
 I.zS λp h=>(Ro.mp h).elim (λz=>I.pin p<|QV _ z) λz=>by
  obtain⟨a,e⟩:=BB z;obtain⟨l,j,g,_⟩:=hf p.1 a;obtain⟨o,f,d⟩:=i p.1 a;rw[e]at f;cases f;exact⟨e,l,j,g,d⟩
def Inv.iw(I:Inv X (XC++pl) σ H s):Inv X XC σ H s:=I.zS λp a=>I.pin p<|QV _<|Rj _ a
def KL(P:PassesOwn (model X.prog X.w) X.A X.env X.xe)(hc:X.calm=true)(hi:PI X tg iter wi)(hg:PG X tg g)(l:yT X body tb)
  (hs:∀x,foldedSetIterable iter X.env x=pure x:=by intro _;rfl):PS X (.For tg iter body [] pos) (NQ wi g tb):=by
 intro G s σ H D I h;refine wpAny_For (cX (hi G s σ H _ I h) λv s1 h1=>cX h1 λab s2 h2=>?_) hs;obtain⟨it,L,tn,J,H2,e,I2,T,X1,f2,W,⟨m0,w0⟩,Yk⟩:=h2;subst e;have p:∀{C:Hp},(∀b∈L,C b=none)->∀b∈L,nR X G C b:=λhn b l=>⟨hn b l,(f2 b l).2⟩;refine codeAny_forLoop_any (λn s'=>∃i B C,Inv X G B C s'/\tn i s'.heap/\(∀b∈L,C b=none)/\W i n B C) ?_ m0 ⟨0,σ,H2,I2,X1,λb l=>(f2 b l).1,w0⟩;rintro n s3 ⟨i,j,Q,I3,M,O,w3⟩;obtain ⟨stop,qn⟩|⟨go,N,hN,step⟩:=Yk i n j Q w3
 ·refine TJ P (cX (T.done X rfl rfl rfl hc i G s3 j Q X.xe I3 (p O) M stop) λr s4 ⟨hr,I4⟩=>?_)
  subst hr;exact Vu ⟨j,Q,I4,qn⟩
 ·refine TJ P (cX (T.item X rfl rfl rfl hc i G s3 j Q X.xe I3 (p O) M go) λr s4 ⟨u,hr,h4⟩=>?_)
  subst hr;refine TJ P<|cX h4 λ_ s5 y=>?_;obtain⟨x,Z,I5,r5,y5,F,S⟩:=y;have Y:=I5.pinned (p S)<|T.obj _ _ F;refine TJ P<|cX (hg _ s5 j Z x u _ Y r5<|step x Z y5) λ_ s6 y=>?_;obtain⟨U,H6,I6,q6⟩:=y;refine TJ P<|cX (l _ s6 U H6 _ I6 q6) λf R E=>?_;have again:∀{a:St}{q:Hp},Inv X (G++uR L s5.heap) a q R->N a q->∃m,m<n/\∃i B C,Inv X G B C R/\tn i R.heap/\(∀b∈L,C b=none)/\W i m B C:=λ{a q} z K=>by
   obtain⟨m',hm,w7⟩:=hN a q K;refine⟨m',hm,i+1,a,q,z.iw,T.keep _ _ _ F λb l o e=>(z.pin (b,o)<|QV _<|QV _<|eW l e).1,λb l=>?_,w7⟩;obtain⟨o,e,d⟩:=T.obj _ _ F b l;exact(z.pin (b,o)<|QV _<|QV _<|eW l e).2.1
  cases f with
  |next=>obtain⟨a,q,z,K⟩:=E;exact again z K
  |cont=>obtain⟨a,q,z,K⟩:=E;exact again z K
  |brk=>obtain⟨a,q,z,E⟩:=E;exact⟨a,q,z.iw,E⟩
  |ret v=>obtain⟨x7,a,q,z,r7,E⟩:=E;exact⟨x7,a,q,z.iw,r7,E⟩
def c4{K:Frag}{a:Xp}{xs:Xw V}{g:TG}{tb:TS}{D:Ends}{σ:St}{H:Hp}(Pv:Nat->St->Hp->Prop)(h0:Pv 0 σ H)(o:∀i σ H,i<=xs.length->Pv i σ H->cN K H a xs)
  (r:∀i x σ H,xs[i]? =some x->Pv i σ H->g x σ H λh l=>tb { D with nx:=Pv<|i+1,ct:=Pv<|i+1,bk:=D.nx } h l)(hd:∀σ H,Pv xs.length σ H->D.nx σ H):
  ∃W:Nat->Nat->St->Hp->Prop,(∃m,W 0 m σ H)/\∀i m σ H,W i m σ H->
   ((FY K a).stop i H/\D.nx σ H)\/((FY K a).go i H/\∃N:St->Hp->Prop,(∀f H',N f H'->∃n,n<m/\W (i+1) n f H')/\∀x H',(FY K a).yld i H x H'->g x σ H' λh l=>tb { D with nx:=N,ct:=N,bk:=D.nx } h l):=by
 refine⟨λi m σ H=>m=xs.length-i/\i<=xs.length/\Pv i σ H,⟨xs.length,by simp,RQ _,h0⟩,?_⟩;rintro i m σ H ⟨rfl,s,p⟩;have q:=o i σ H s p;by_cases j:i<xs.length
 ·refine .inr ⟨⟨xs,xs[i],q,by simp[j]⟩,Pv<|i+1,λf H' v=>⟨xs.length-(i+1),by lia,rfl,j,v⟩,λx H' y=>?_⟩
  obtain⟨e,y⟩:=y;subst e;exact r i x σ _ (y xs q) p
 ·have e:i=xs.length:=by lia
  subst e;exact .inl ⟨⟨xs,q,QP _⟩,hd σ H p⟩
def mJ{lo:Int}{n:Nat}{g:TG}{tb:TS}{D:Ends}{σ:St}{H:Hp}(Pv:Nat->St->Hp->Prop)(h0:Pv 0 σ H)
  (q:∀i σ H,i<n->Pv i σ H->g (.int<|lo+i) σ H λf j=>tb { D with nx:=Pv<|i+1,ct:=Pv<|i+1,bk:=D.nx } f j)(hd:∀σ H,Pv n σ H->D.nx σ H):
  ∃W:Nat->Nat->St->Hp->Prop,(∃m,W 0 m σ H)/\∀i m σ H,W i m σ H->
   ((qI lo n).stop i H/\D.nx σ H)\/((qI lo n).go i H/\∃N:St->Hp->Prop,(∀h H',N h H'->∃l,l<m/\W (i+1) l h H')/\∀x H',(qI lo n).yld i H x H'->g x σ H' λf j=>tb { D with nx:=N,ct:=N,bk:=D.nx } f j):=by
 refine⟨λi m σ H=>m=n-i/\i<=n/\Pv i σ H,⟨n,by simp,RQ _,h0⟩,?_⟩;rintro i m σ H ⟨rfl,r,p⟩;by_cases a:i<n
 ·refine .inr ⟨a,Pv<|i+1,λh H' o=>⟨n-(i+1),by lia,rfl,a,o⟩,λx H' y=>?_⟩
  obtain⟨e,y⟩:=y;subst e y;exact q i σ _ a p
 ·have e:i=n:=by lia
  subst e;exact .inl ⟨QP _,hd σ H p⟩
abbrev R2:=V->V->Hp->VK->Prop
def jk(X:Cx)(f:Xo->Xo->Sem Xo)(r:R2):Prop:=
 ∀(a:XA) (s:Xq) (σ:St) (H:Hp) (x y:V) (v u:Xo) (Q:VK),Inv X a σ H s->RelV x v->RelV y u->r x y H Q->
  wpAny (model X.prog X.w) X.A (f v u) (EP X a σ Q) X.xe s
def OC(X:Cx)(f:Xo->Sem Xo)(r:V->Hp->VK->Prop):Prop:=
 ∀(a:XA) (s:Xq) (σ:St) (H:Hp) (x:V) (v:Xo) (Q:VK),Inv X a σ H s->RelV x v->r x H Q->
  wpAny (model X.prog X.w) X.A (f v) (EP X a σ Q) X.xe s
def eG(X:Cx)(f:Xo)(r:Xw V->Hp->VK->Prop):Prop:=
 ∀(a:XA) (s:Xq) (σ:St) (H:Hp) (xs:Xw V) (us:Xw Xo) (Q:VK),Inv X a σ H s->Vals xs us->r xs H Q->
  wpAny (model X.prog X.w) X.A (call f us) (EP X a σ Q) X.xe s
def Fm(r:R2)(ta tb:TE):TE:=λσ H Q=>ta σ H λx H1=>tb σ H1 λy a=>r x y a Q
def Qf(r:V->Hp->VK->Prop)(ta:TE):TE:=λσ H Q=>ta σ H λx H1=>r x H1 Q
inductive Pw(C:Int->Int->Prop)(g:Int->Int->V)(x y:V)(H:Hp)(Q:VK):Prop
 |mk(i j:Int)(a:x=.int i)(e:y=.int j)(c:C i j)(q:Q (g i j) H)
inductive MT(g:Int->Int->V)(x y:V)(H:Hp)(Q:VK):Prop
 |mk(i j:Int)(e:x=.int i)(a:y=.int j)(q:Q (g i j) H)
def rI(C:Int->Int->Prop)(g:Int->Int->V):R2:=λx y H Q=>Pw C g x y H Q
def Cv(g:Int->Int->V):R2:=λx y H Q=>MT g x y H Q
def rU(g:Int->V):V->Hp->VK->Prop:=λx H Q=>∃i,x=.int i/\Q (g i) H
def LF(z:PE X a ta)(n:PE X b tb){H:Hp}{R:V->V->Hp->Prop}(I:Inv X XC σ H s)
  (h:ta σ H λx H1=>tb σ H1 λy g=>R x y g){Q:Xy}{f:Xo->Xo->Sem Xo}
  (hf:∀v u l x y g,Inv X XC σ g l->RelV x v->RelV y u->R x y g->wpAny (model X.prog X.w) X.A (f v u) Q X.xe l):
  wpAny (model X.prog X.w) X.A (eval a X.env) (λv j=>wpAny (model X.prog X.w) X.A (eval b X.env) (λu i=>wpAny (model X.prog X.w) X.A (f v u) Q X.xe i) X.xe j) X.xe s:=by
 refine cX (z XC s σ H _ I h) λv q e=>?_;obtain⟨x,H1,o,m,q1⟩:=e;refine cX (n XC q σ H1 _ o q1) λu l e=>?_;obtain⟨y,g,p,r,B⟩:=e;exact hf v u l x y g p m r B
def Ip{r:R2}(f:jk X (binaryOp op) r)(i:PE X a ta)(l:PE X b tb):PE X (.BinOp a op b pos) (Fm r ta tb):=by
 intro o s σ H Q I h;exact wpAny_BinOp<|LF i l I h λv u g x y e n m j q=>f o g σ e x y v u Q n m j q
def EM(f:OC X (unaryOp op) r)(g:PE X a ta):PE X (.UnaryOp op a pos) (Qf r ta):=by
 intro e s σ H Q I h;exact UnaryOp_<|cX (g e s σ H _ I h) λv j ⟨x,H1,l,i,q1⟩=>f e j σ H1 x v Q l i q1
def Oz{g:Int->Int->Int}
  (rule:∀(i j:Int)(t u:Tok)(s:Xq)(Q:Xy)(E:Xy),C i j->Q (.int (g i j) s.toks) { s with toks:=s.toks+1 }->wpAny (model X.prog X.w) X.A (f (.int i t)<|.int j u) Q E s):
  jk X f (rI C λi j=>.int<|g i j):=by
 intro n s σ H x y v u Q I e l h;obtain⟨i,j,rfl,rfl,m,q⟩:=h;obtain⟨t,rfl⟩:=e;obtain⟨a,rfl⟩:=l;exact rule i j t a s _ _ m ⟨.int<|g i j,H,I.tok _,⟨_,rfl⟩,q⟩
def O2{g:Int->Int->Int}
  (rule:∀(i j:Int)(t u:Tok)(s:Xq)(Q:Xy)(E:Xy),Q (.int (g i j) s.toks) { s with toks:=s.toks+1 }->wpAny (model X.prog X.w) X.A (f (.int i t)<|.int j u) Q E s):
  jk X f (Cv λi j=>.int<|g i j):=by
 intro m s σ H x y v u Q I e l h;obtain⟨i,j,rfl,rfl,q⟩:=h;obtain⟨t,rfl⟩:=e;obtain⟨a,rfl⟩:=l;exact rule i j t a s _ _ ⟨.int<|g i j,H,I.tok _,⟨_,rfl⟩,q⟩
def Im{g:Int->Int->Bool}
  (rule:∀(i j:Int)(t u:Tok)(s:Xq)(Q:Xy)(E:Xy),Q (.bool<|g i j) s->wpAny (model X.prog X.w) X.A (f (.int i t)<|.int j u) Q E s):
  jk X f (Cv λi j=>.bl<|g i j):=by
 intro m s σ H x y v u Q I e l h;obtain⟨i,j,rfl,rfl,q⟩:=h;obtain⟨t,rfl⟩:=e;obtain⟨a,rfl⟩:=l;exact rule i j t a s _ _ ⟨.bl<|g i j,H,I,rfl,q⟩
def MU(i j:Int):Prop:=0<j/\j<1073741824
def Nb(i j:Int):Prop:=0<=j/\j<=1000000/\i.natAbs<2^64
def Hf(i j:Int):Prop:=(-(2^64)<i/\i<2^64)\/(-(2^64)<j/\j<2^64)
def Hf.ok(h:Hf i j):IntMulOk i j:=by
 obtain ⟨a,e⟩|⟨a,e⟩:=h
 ·exact .of_left<|intBits_le_64 a e
 ·exact .of_right<|intBits_le_64 a e
def KH:jk X (binaryOp .Add) (Cv λi j=>.int<|i+j):=O2 λ_ _ _ _ _ _ _ q=>add_int q
def JD:jk X (binaryOp .Mult) (rI Hf λi j=>.int<|i*j):=Oz λ_ _ _ _ _ _ _ a q=>mul_int q a.ok
def HN:jk X (binaryOp .FloorDiv) (rI MU λi j=>.int<|i / j):=Oz λi j _ _ _ _ _ a q=>by
 have f:=a.1;have e:=a.2;exact floordiv_int (by lia) (by grind) (.inl<|PyProof.noPylong_small<|by lia)
def JY:jk X (binaryOp .Mod) (rI (λ_ j=>0<j) λi j=>.int<|i%j):=Oz λi j _ _ _ _ _ a q=>by
 exact mod_int' (by lia) (by grind)
def nG:jk X (binaryOp .Pow) (rI Nb λi j=>.int<|i^j.toNat):=Oz λ_ _ _ _ _ _ _ a q=>pow_int_small a.1 a.2.1 a.2.2 q
def Qo{g:Int->Int}
  (rule:∀(i:Int)(t:Tok)(s:Xq)(Q:Xy)(E:Xy),Q (.int (g i) s.toks) { s with toks:=s.toks+1 }->wpAny (model X.prog X.w) X.A (f<|.int i t) Q E s):
  OC X f (rU λi=>.int<|g i):=by
 intro e s σ H x v Q I a h;obtain⟨i,rfl,q⟩:=h;obtain⟨t,rfl⟩:=a;exact rule i t s _ _ ⟨.int<|g i,H,I.tok _,⟨_,rfl⟩,q⟩
def xX:OC X (unaryOp .USub) (rU λi=>.int<|-i):=Qo λ_ _ _ _ _ q=>neg_int q
def NI:V->V->Bool
 |.non,.non=>true|.non,.int _=>true|.int _,.non=>true|.non,.bl _=>true|.bl _,.non=>true|.non,.str _=>true|.str _,.non=>true
 |.int _,.int _=>true|.bl _,.bl _=>true|.str _,.str _=>true|.byt _,.byt _=>true
 |.int _,.str _=>true|.str _,.int _=>true|.bl _,.str _=>true|.str _,.bl _=>true
 |_,_=>false
def Qb:R2:=λx y H Q=>NI x y=true/\Q (.bl<|decide<|x=y) H
def Qa:R2:=λx y H Q=>NI x y=true/\Q (.bl<|!decide (x=y)) H
def Ae:decide (V.int i=V.int j)=(i==j):=by grind
def DR:decide (V.bl i=V.bl j)=(i==j):=by grind
def zG:decide (V.str i=V.str j)=(i==j):=by grind
def AM:decide (V.byt i=V.byt j)=(i.toList==j.toList):=by
 rw[Bool.eq_iff_iff];cases i;cases j;simp
def cW(I:Inv X XC σ H s)(q:Q (.bl k) H)(e:k=k'):EP X XC σ Q (.bool k') s:=by
 subst e;exact⟨.bl k,H,I,rfl,q⟩
def IL:jk X (compareOp .Eq) Qb:=by
 intro l s σ H x y v u Q I g a h;obtain⟨f,q⟩:=h;cases x with
 |non=>
  cases g;cases y with
  |non=>cases a;exact PySem.EqNone.eq_none_none (cW I q<|by simp)
  |bl j=>cases a;exact PySem.EqNone.eq_none_bool (cW I q<|by simp)
  |int j=>obtain⟨e,rfl⟩:=a;exact PySem.EqNone.eq_none_int (cW I q<|by simp)
  |str j=>obtain⟨e,rfl⟩:=a;exact PySem.EqNone.eq_none_str (cW I q<|by simp)
  |_=>exact absurd (show false=true from f) bF0
 |bl i=>
  cases g;cases y with
  |non=>cases a;exact PySem.EqNone.eq_bool_none (cW I q<|by simp)
  |bl j=>cases a;exact eq_bool<|cW I q DR
  |str j=>obtain⟨e,rfl⟩:=a;exact PySem.EqMixed.eq_bool_str (cW I q<|by simp)
  |_=>exact absurd (show false=true from f) bF0
 |int i=>
  obtain⟨t,rfl⟩:=g;cases y with
  |non=>cases a;exact PySem.EqNone.eq_int_none (cW I q<|by simp)
  |int j=>obtain⟨e,rfl⟩:=a;exact eq_int<|cW I q Ae
  |str j=>obtain⟨e,rfl⟩:=a;exact PySem.EqMixed.eq_int_str (cW I q<|by simp)
  |_=>exact absurd (show false=true from f) bF0
 |str i=>
  obtain⟨t,rfl⟩:=g;cases y with
  |non=>cases a;exact PySem.EqNone.eq_str_none (cW I q<|by simp)
  |bl j=>cases a;exact PySem.EqMixed.eq_str_bool (cW I q<|by simp)
  |int j=>obtain⟨e,rfl⟩:=a;exact PySem.EqMixed.eq_str_int (cW I q<|by simp)
  |str j=>obtain⟨e,rfl⟩:=a;exact eq_str<|cW I q zG
  |_=>exact absurd (show false=true from f) bF0
 |byt i=>
  obtain⟨t,rfl⟩:=g;cases y with
  |byt j=>obtain⟨e,rfl⟩:=a;exact PySem.W.eq_bytes<|cW I q AM
  |_=>exact absurd (show false=true from f) bF0
 |_=>cases y<;>exact absurd (show false=true from f) bF0
def Jp:jk X (compareOp .NotEq) Qa:=by
 intro l s σ H x y v u Q I g a h;obtain⟨f,q⟩:=h;cases x with
 |non=>
  cases g;cases y with
  |non=>cases a;exact PySem.EqNone.ne_none_none (cW I q<|by simp)
  |bl j=>cases a;exact PySem.EqNone.ne_none_bool (cW I q<|by simp)
  |int j=>obtain⟨e,rfl⟩:=a;exact PySem.EqNone.ne_none_int (cW I q<|by simp)
  |str j=>obtain⟨e,rfl⟩:=a;exact PySem.EqNone.ne_none_str (cW I q<|by simp)
  |_=>exact absurd (show false=true from f) bF0
 |bl i=>
  cases g;cases y with
  |non=>cases a;exact PySem.EqNone.ne_bool_none (cW I q<|by simp)
  |bl j=>cases a;exact ne_bool<|cW I q<|RP not DR
  |str j=>obtain⟨e,rfl⟩:=a;exact PySem.EqMixed.ne_bool_str (cW I q<|by simp)
  |_=>exact absurd (show false=true from f) bF0
 |int i=>
  obtain⟨t,rfl⟩:=g;cases y with
  |non=>cases a;exact PySem.EqNone.ne_int_none (cW I q<|by simp)
  |int j=>obtain⟨e,rfl⟩:=a;exact ne_int<|cW I q<|RP not Ae
  |str j=>obtain⟨e,rfl⟩:=a;exact PySem.EqMixed.ne_int_str (cW I q<|by simp)
  |_=>exact absurd (show false=true from f) bF0
 |str i=>
  obtain⟨t,rfl⟩:=g;cases y with
  |non=>cases a;exact PySem.EqNone.ne_str_none (cW I q<|by simp)
  |bl j=>cases a;exact PySem.EqMixed.ne_str_bool (cW I q<|by simp)
  |int j=>obtain⟨e,rfl⟩:=a;exact PySem.EqMixed.ne_str_int (cW I q<|by simp)
  |str j=>obtain⟨e,rfl⟩:=a;exact ne_str<|cW I q<|RP not zG
  |_=>exact absurd (show false=true from f) bF0
 |byt i=>
  obtain⟨t,rfl⟩:=g;cases y with
  |byt j=>obtain⟨e,rfl⟩:=a;exact PySem.W.ne_bytes<|cW I q<|RP not AM
  |_=>exact absurd (show false=true from f) bF0
 |_=>cases y<;>exact absurd (show false=true from f) bF0
def NS:jk X (compareOp .Lt) (Cv λi j=>.bl<|decide<|i<j):=Im λ_ _ _ _ _ _ _ q=>lt_int q
def vx:jk X (compareOp .LtE) (Cv λi j=>.bl<|decide<|i<=j):=Im λ_ _ _ _ _ _ _ q=>le_int q
def Ng:jk X (compareOp .Gt) (Cv λi j=>.bl<|decide<|j<i):=Im λ_ _ _ _ _ _ _ q=>gt_int q
def Ec:jk X (compareOp .GtE) (Cv λi j=>.bl<|decide<|j<=i):=Im λ_ _ _ _ _ _ _ q=>ge_int q
def pf:jk X (compareOp .Is) (λx y H Q=>y=.non/\Q (.bl<|decide<|x=.non) H):=by
 intro f s σ H x y v u Q I a e h;obtain⟨rfl,q⟩:=h;cases e;refine is_none_gen<|cW I q ?_;cases x<;>first
  | (cases a;rfl)
  | (obtain⟨t,rfl⟩:=a;rfl)
def oQ:jk X (compareOp .IsNot) (λx y H Q=>y=.non/\Q (.bl<|!decide (x=.non)) H):=by
 intro f s σ H x y v u Q I a e h;obtain⟨rfl,q⟩:=h;cases e;refine isnot_none_gen<|cW I q ?_;cases x<;>first
  | (cases a;rfl)
  | (obtain⟨t,rfl⟩:=a;rfl)
def cL(b:Expr)(h:op≠.In:=by decide)(a:op≠.NotIn:=by decide):behindInMarks op b=false:=by
 have f:(op==CmpOp.In)=false:=by cases op<;>first|rfl|exact absurd rfl h
 have e:(op==CmpOp.NotIn)=false:=by cases op<;>first|rfl|exact absurd rfl a
 cases b<;>simp[behindInMarks,f,e]
def Au{r:R2}(f:jk X (compareOp op) r)(i:PE X a ta)(l:PE X b tb)(hm:behindInMarks op b=false):PE X (.Compare a [op] [b] pos) (Fm r ta tb):=by
 intro o s σ H Q I h;exact wpAny_Compare1 (LF i l I h λv u g x y e n m j q=>f o g σ e x y v u Q n m j q) hm
def zW(t:TE):TT:=λσ H Q=>t σ H λx a=>Oo x a Q
def Gn(w:jk X (compareOp op) r)(D:PE X a ta)(j:PE X b tb)(hm:behindInMarks op b=false):PT X (.Compare a [op] [b] pos) (zW<|Fm r ta tb):=by
 intro f s σ H Q I h;refine wpAny_isTrue_Compare1 (cX (D f s σ H _ I h) λv A ⟨x,H1,l,i,q1⟩=>cX (j f A σ H1 _ l q1) λu o ⟨y,C,q,B,E⟩=>
  cX (w f o σ C x y v u _ q i B E) λc F ⟨z,m,n,g,k,e,p⟩=>?_) hm
 subst e;cases g;exact RO ⟨m,n,p⟩
def tW(r g:R2)(ta tb i:TE):TE:=λσ H Q=>ta σ H λx H1=>tb σ H1 λy e=>r x y e λz a=>∃k,z=.bl k/\
 (if k=true then i σ a λh f=>g y h f Q else Q (.bl false) a)
def jT(G:jk X (compareOp op) r)(O:jk X (compareOp op') r')(N:PE X a ta)(w:PE X b tb)(P:PE X c tc)
  (hm:lastMarks [op,op'] [b,c]=false:=by with_unfolding_all rfl):PE X (.Compare a [op,op'] [b,c] pos) (tW r r' ta tb tc):=by
 intro f s σ H Q I h;refine Compare_chain (cX (N f s σ H _ I h) λv K ⟨x,H1,B,p,q1⟩=>chain_link (cX (w f K σ H1 _ B q1) λu E ⟨y,L,F,l,R⟩=>
  cX (G f E σ L x y v u _ F p l R) λd M ⟨z,g,i,n,k,e,j⟩=>?_)) hm
 subst e;cases n;refine RO ?_;cases k with
 |false=>exact ite_ff ⟨.bl false,g,i,rfl,j⟩
 |true=>exact ite_tt<|chain_last<|cX (P f M σ g _ i j) λo m ⟨A,D,q,C,J⟩=>O f m σ D y A u o Q q l C J
def jW(P:jk X (compareOp op) r)(Y:jk X (compareOp op') r')(W:PE X a ta)(A:PE X b tb)(hc:PE X c tc)
  (hm:lastMarks [op,op'] [b,c]=false:=by with_unfolding_all rfl):PT X (.Compare a [op,op'] [b,c] pos) (zW<|tW r r' ta tb tc):=by
 intro g s σ H Q I h;refine isTrue_chain (cX (W g s σ H _ I h) λv S ⟨x,H1,C,q,q1⟩=>test_link (cX (A g S σ H1 _ C q1) λu G ⟨y,T,L,m,q2⟩=>
  cX (P g G σ T x y v u _ L q m q2) λd U ⟨z,i,j,o,k,e,l⟩=>?_)) hm
 subst e;cases o;refine RO ?_;cases k with
 |false=>
  obtain⟨k',K,Z⟩:=l;cases K;exact ite_ff ⟨i,j,Z⟩
 |true=>
  refine ite_tt<|test_last<|cX (hc g U σ i _ j l) λp n ⟨B,F,w,E,R⟩=>cX (Y g n σ F y B u p _ w m E R) λd' s5 f=>?_;obtain⟨z2,D,J,N,k2,M,O⟩:=f;subst M;cases N;exact RO ⟨D,J,O⟩
def qc:(sizeLine:Nat)<2^63:=by rw[Rh];decide
def iU:jk X (binaryOp .Add) (λx y H Q=>∃i j,x=.str i/\y=.str j/\i.length+j.length<=sizeLine/\Q (.str<|i++j) H):=by
 intro m s σ H x y v u Q I e f h;obtain⟨i,j,rfl,rfl,g,q⟩:=h;obtain⟨t,rfl⟩:=e;obtain⟨a,rfl⟩:=f;exact add_str (λa l=>⟨.str<|i++j,H,I.tok _,⟨_,rfl⟩,q⟩) g
def vals1(r:Vals [x] us):∃u,us=[u]/\RelV x u:=by
 cases r with
 |cons e a=>cases a;exact⟨_,rfl,e⟩
def vals2(r:Vals [x,y] us):∃u a,us=[u,a]/\RelV x u/\RelV y a:=by
 cases r with
 |cons h e=>
  cases e with
  |cons g f=>cases f;exact⟨_,_,rfl,h,g⟩
def mZ(e:X.calm=true):eG X (.builtin "max") (λxs H Q=>∃i j,xs=[.int i,.int j]/\Q (.int<|if j > i then j else i) H):=by
 intro o s σ H xs n Q I r h;obtain⟨i,j,rfl,q⟩:=h;obtain⟨u,f,rfl,⟨t,rfl⟩,⟨g,rfl⟩⟩:=vals2 r;refine max_two_ints (I.ok.hd e) λl m k=>⟨_,H,I.kept k,?_,q⟩;by_cases a:j > i
 ·rw[QR a,QR a];exact⟨_,rfl⟩
 ·rw[QO a,QO a];exact⟨_,rfl⟩
def gr(e:X.calm=true):eG X (.builtin "min") (λxs H Q=>∃i j,xs=[.int i,.int j]/\Q (.int<|if j<i then j else i) H):=by
 intro o s σ H xs n Q I r h;obtain⟨i,j,rfl,q⟩:=h;obtain⟨u,f,rfl,⟨t,rfl⟩,⟨g,rfl⟩⟩:=vals2 r;refine min_two_ints (I.ok.hd e) λl m k=>⟨_,H,I.kept k,?_,q⟩;by_cases a:j<i
 ·rw[QR a,QR a];exact⟨_,rfl⟩
 ·rw[QO a,QO a];exact⟨_,rfl⟩
def m9:eG X (.type "int") (λxs H Q=>(∃i,xs=[.int i]/\Q (.int i) H)\/∃k,xs=[.bl k]/\Q (.int<|if k then 1 else 0) H):=by
 intro f s σ H xs e Q I r h;obtain ⟨i,rfl,q⟩|⟨k,rfl,q⟩:=h
 ·obtain⟨u,rfl,t,rfl⟩:=vals1 r
  exact call_int_int ⟨.int i,H,I,⟨_,rfl⟩,q⟩
 ·obtain⟨u,rfl,a⟩:=vals1 r
  cases a;exact call_int_bool ⟨.int<|if k then 1 else 0,H,I.tok _,⟨_,rfl⟩,q⟩
structure zd(h:Heap)(x dx C:Xp)(mA:XB):Prop where
 obj:h.get? x=some (instObj C dx)
 ns:h.Ns1 dx mA
 ne:dx≠x
def Cb{h:Heap}(n:h.Ns1 dx mA):∃g,h.get? dx=some g/\∀name,lookIn name g=some (mA name):=by
 obtain⟨o,r,s,m,i,j,_,l⟩:=n;refine⟨o,m,λname=>?_⟩;have e:=l name;unfold nsFind findBy at e;rw[<-Array.find?_toList]at e;unfold lookIn;rw[i];dsimp only;split
 ·grind
 ·rename_i q
  rw[q]at e;have a:r.toList.any (·.refKey)=false:=by
   rw[List.any_eq_false];intro y p;obtain⟨z,t,f⟩:=j y<|Vi.mp p;simp[DictEntry.refKey,f]
  rw[QO<|by rw[a];exact bF0];exact RP some e
def zd.look(I:zd h x dx C mA):∃a,PySem.W.InstAt h x (instObj C dx) C (some a)/\∀name,lookIn name a=some (mA name):=
 let ⟨a,f,e⟩:=Cb I.ns
 ⟨a,⟨I.obj,rfl,rfl,f⟩,e⟩
section
variable {E:Xy}{s:Xq}{K:Frag}{x:Xp}{dx:Xp}{C:Xp}{f:Xp}{mA:XB}{name:Xx}{v:Xo}
def get_map(X:K.In s.heap)(I:zd s.heap x dx C mA)(j:plainGet K C name=true)(f:hasDictIn K C=true)
  (e:findIn K (.ref C) name=some none)(a:mA name=some v)(i:handedIn v=true)(h:Q v { s with toks:=s.toks+1 }):
  wpAny (model prog w) A (getAttr (.ref x) name expr) Q E s:=by
 obtain⟨l,J,g⟩:=I.look;exact PySem.W.get_value X J (plainGet_of j).1 (PySem.W.findObj_own f e rfl<|by rw[g,a]) i h
def DA(X:K.In s.heap)(I:zd s.heap x dx C mA)(a:plainGet K C name=true)
  (hf:findIn K (.ref C) name=some (some<|.ref f))(j:isFn K (.ref f)=true)(e:mA name=none)(h:Q (.ref f,[.ref x]) s):
  wpAny (model prog w) A (getMethod (.ref x) name pl) Q E s:=by
 obtain⟨g,J,i⟩:=I.look;exact PySem.W.method_fn X J (plainGet_of a).1 (plainGet_of a).2 hf (Vx.mp j) (by show(lookIn name g).map (·.isSome)=some false;rw[i,e];rfl) h
def GS(X:K.In s.heap)(I:zd s.heap x dx C mA)
  (p:findIn K (.ref C) "__setattr__" =some (some<|.builtin "object.__setattr__")) (n:plainOver K C=true) (l:takerIn K C name=some none) (o:hasDictIn K C=true)
  (hw:PySem.Within mA ns)(B:ns.length<=sizeLine)
  (h:∀h',zd h' x dx C (λy=>if y=name then some v else mA y)->Heap.SameBut dx s.heap h'->Q () { s with heap:=h',toks:=s.toks+2 }):
  wpAny (model prog w) A (setAttr (.ref x) name v) Q E s:=by
 obtain⟨G,J,F⟩:=I.look;refine PySem.W.set_plain X J p<|PySem.W.osa_open X J n l λb=>?_;obtain⟨D,q,i⟩:=PySem.W.any_some o;refine QH<|QI<|QH<|QH<|wpAny_loadPart I.obj<|QH<|PySem.W.Looks.here (PySem.W.looks_clsIn X q) ?_;rw[i];refine QI<|QH<|QI<|QH ?_;refine wpAny_nsSet1 I.ns λh' a j=>?_;obtain⟨z,r,m,g,e,f⟩:=a.count<|PySem.Within.cons name v hw;refine QH (wpAny_lookBehind g (by rw[e];exact pastItsLine_dict<|Rn f<|by rw[RG];lia) ?_);exact QI<|h _ ⟨(j.2 _<|To I.ne).trans I.obj,a,I.ne⟩ j
def E2(X:K.In s.heap)(hm:makesIn K C=true)
  (a:findIn K (.ref C) "__init__" =some (some<|.ref f)) (hf:PySem.W.typeIn K (.ref f)=some (.type "function"))
  (h:codeAny (model prog w) (A.under<|.builtin "type.__call__" ⟨.ref C::vs,kw⟩) (.call (.ref f) ⟨.ref (s.heap.objs.size+1)::vs,kw⟩) (PySem.W.InitBack (s.heap.objs.size+1) R)
   { s with heap:=(s.heap.push emptyDict).push (instObj C s.heap.objs.size) }):
  codeAny (model prog w) A (.call (.ref C) ⟨vs,kw⟩) R s:=by
 obtain⟨i,g,d,t,e⟩:=s;exact PySem.W.make_core (PySem.W.makes_of X hm) (PySem.W.looks_findIn X a) (λself=>PySem.W.bind_fn X self hf) (.inl rfl) h
end
def gj(f:Xx)(v:V):Xw (Xx×V)->Xw (Xx×V)
 |[]=>[(f,v)]
 | (g,x)::r=>if g=f then(g,v)::r else(g,x)::gj f v r
theorem cR(f g:Xx)(v:V):∀fs:Xw (Xx×V),(gj f v fs).lookup g=if g=f then some v else fs.lookup g
 |[]=>by
  show List.lookup g [(f,v)]=_;by_cases h:g=f
  ·grind
  ·grind
 | (k,x)::r=>by
  have a:=cR f g v r;rw[show gj f v ((k,x)::r)=(if k=f then(k,v)::r else(k,x)::gj f v r) from rfl];by_cases e:k=f
  ·grind
  ·grind
theorem mK(f:Xx)(v:V):∀fs:Xw (Xx×V),f∈(gj f v fs).map (·.1)/\∀g,g∈fs.map (·.1)->g∈(gj f v fs).map (·.1)
 |[]=>⟨by simp[gj],λg h=>by simp at h⟩
 | (k,x)::r=>by
  obtain⟨a,i⟩:=mK f v r;rw[show gj f v ((k,x)::r)=(if k=f then(k,v)::r else(k,x)::gj f v r) from rfl];by_cases e:k=f
  ·grind
  ·grind
theorem n8(f:Xx)(v:V):∀fs:Xw (Xx×V),(gj f v fs).length<=fs.length+1
 |[]=>by simp[gj]
 | (k,x)::r=>by
  have a:=n8 f v r;rw[show gj f v ((k,x)::r)=(if k=f then(k,v)::r else(k,x)::gj f v r) from rfl];by_cases e:k=f
  ·grind
  ·grind
def jr.some_of(r:jr (some v) o):∃u,o=some u/\RelV v u:=by
 cases o with
 |none=>exact(show False from r).elim
 |some u=>exact⟨u,rfl,r⟩
def jr.none_of(r:jr none o):o=none:=by
 cases o with
 |none=>rfl
 |some u=>exact(show False from r).elim
def Cr(r:RelV v u):handedIn u=true:=by
 cases v with
 |non=>cases (show u=Value.none from r);rfl
 |bl b=>cases (show u=Value.bool b from r);rfl
 |int i=>obtain⟨t,e⟩:=(show ∃t,u=Value.int i t from r);cases e;rfl
 |str x=>obtain⟨t,e⟩:=(show ∃t,u=Value.str x t from r);cases e;rfl
 |byt b=>obtain⟨t,e⟩:=(show ∃t,u=Value.bytes b t from r);cases e;rfl
 |flt b=>obtain⟨t,e⟩:=(show ∃t,u=Value.float b t from r);cases e;rfl
 |ref a=>cases (show u=Value.ref a from r);rfl
 |ty n=>cases (show u=Value.type n from r);rfl
def oU(i:gJ P w H h)(e:H a=some (.ins C dx fs)):∃g,zd h a dx C g/\(∀f,jr (fs.lookup f)<|g f)/\PySem.Within g (fs.map (·.1))/\fs.length<=1000/\H dx=some (.own a):=by
 obtain⟨d,z,j,ob,g,n,r,q⟩:=(show cV P w H h a (.ins C dx fs) from i a _ e);exact⟨g,⟨ob,n,j⟩,r,q,z,d⟩
structure Ah(K:Frag)(C:Xp):Prop where
 pg:plainGet K C Str.empty=true
 hd:hasDictIn K C=true
 po:plainOver K C=true
 sa:findIn K (.ref C) "__setattr__" =some (some (.builtin "object.__setattr__"))
def Ah.get{K:Frag}(c:Ah K C)(f:Xx):plainGet K C f=true:=c.pg
def ie(K:Frag)(C:Xp)(f:Xx):Prop:=findIn K (.ref C) f=some none
def ie.MF{K:Frag}(n:ie K C f):takerIn K C f=some none:=by
 unfold takerIn;rw[show findIn K (.ref C) f=some none from n];rfl
structure Meth(K:Frag)(C:Xp)(m:Xx)(f:Xp):Prop where
 at_:findIn K (.ref C) m=some (some (.ref f))
 fn:isFn K (.ref f)=true
 kp:keepIn K (.ref f)=true
def yN(I:Inv X XC σ H s)(e:H a=some (.ins C dx fs))(c:Ah X.K C)(n:ie X.K C f)(l:fs.lookup f=some v)
  (h:∀u s',Inv X XC σ H s'->RelV v u->Q u s'):wpAny (model X.prog X.w) A (getAttr (.ref a) f b) Q E s:=by
 obtain⟨j,O,r,_,_,_⟩:=oU I.hok e;obtain⟨u,i,g⟩:=jr.some_of (v:=v) (o:=j f) (by grind);exact get_map I.oH O (c.get f) c.hd n i (Cr g)<|h u _ (I.tok _) g
def xM(I:Inv X XC σ H s)(e:H a=some (.ins C dx fs))(c:Ah X.K C)(k:Meth X.K C m g)(l:fs.lookup m=none)
  (h:Q (.ref g,[.ref a]) s):wpAny (model X.prog X.w) A (getMethod (.ref a) m pl) Q E s:=by
 obtain⟨f,O,r,_,_,_⟩:=oU I.hok e;exact DA I.oH O (c.get m) k.at_ k.fn (jr.none_of<|by grind) h
def yE(I:Inv X XC σ H s)(e:H a=some (.ins C dx fs))(c:Ah X.K C)(n:ie X.K C f)(L:fs.length<1000)(G:RelV y u)
  (h:∀s',Inv X XC σ (upd H a<|.ins C dx<|gj f y fs) s'->Q () s'):wpAny (model X.prog X.w) A (setAttr (.ref a) f u) Q E s:=by
 obtain⟨m,O,r,j,_,l⟩:=oU I.hok e;refine GS I.oH O c.sa c.po n.MF c.hd j (by rw[QM,Rh];lia) λD i J=>h _ ?_;have p:∃o,D.get? dx=some o:=let ⟨o,_,_,F,_⟩:=i.ns;⟨o,F⟩;refine I.write (x:=a) (e:=dx) (by rw[e];exact True.intro) (.inr l) (λb q v z=>(J.2 b v).trans z) p ?_;refine⟨by rw[cG O.ne];exact l,?_,O.ne,i.obj,_,i.ns,λg=>?_,λg B=>?_⟩
 ·have:=n8 f y fs;lia
 ·show jr ((gj f y fs).lookup g) (if g=f then some u else m g)
  rw[cR];by_cases q:g=f
  ·rw[QR q,QR q];exact G
  ·rw[QO q,QO q];exact r g
 ·by_cases q:g=f
  ·rw[q];exact(mK f y fs).1
  ·refine(mK f y fs).2 g (j g λz=>B ?_)
   show(if g=f then some u else m g)=none;rw[QO q];exact z
def Inv.made(I:Inv X XC σ H s):Inv X XC σ (upd (upd H s.heap.objs.size<|.own<|s.heap.objs.size+1) (s.heap.objs.size+1)<|.ins C s.heap.objs.size [])
  { s with heap:=(s.heap.push emptyDict).push (instObj C s.heap.objs.size) }:=by
 have f:(s.heap.push emptyDict).get? s.heap.objs.size=some emptyDict:=QX s.heap rfl;have l:((s.heap.push emptyDict).push<|instObj C s.heap.objs.size).get? (s.heap.objs.size+1)=some (instObj C s.heap.objs.size):=by
  have:=QX (s.heap.push emptyDict) (o:=instObj C s.heap.objs.size) rfl
  rwa [Ui]at this
 have j:=I.laid (o:=.own<|s.heap.objs.size+1) (h':=s.heap.push emptyDict) (t':=s.toks) (λb u q=>QL _ q) (QP _) ⟨_,f⟩;refine j.laid (a:=s.heap.objs.size+1) (o:=.ins C s.heap.objs.size []) (t':=s.toks) (λb u q=>QL _ q) (SA<|Ui _ _) ?_;have g:s.heap.objs.size≠s.heap.objs.size+1:=Rb<|Tv _;refine⟨by rw[cG g,cE],RQ _,g,l,λ_=>none,(Heap.Ns1.of_empty<|⟨emptyDict,#[],_,f,rfl,λe h=>absurd h<|by simp,λ_=>rfl⟩).at λo q=>QL _ q,λ_=>True.intro,λy i=>absurd rfl i⟩
def Hw(g:attributeBase e f env (eval e env)=eval e env)
  (h:wpAny (model prog w) A (eval e env) (λo a=>wpAny (model prog w) A (getAttr o f true) Q E a) E s):wpAny (model prog w) A (eval (.Attribute e f pos) env) Q E s:=
 Attribute_any_ h (by rw[arm_eval_Attribute,g])
inductive OE(K:Frag)(f:Xx)(x:V)(H:Hp)(Q:VK):Prop
 |mk(a C e:Xp)(fs:Xw (Xx×V))(v:V)(g:x=.ref a)(h:H a=some (.ins C e fs))(c:Ah K C)(n:ie K C f)(l:fs.lookup f=some v)(q:Q v H)
def Mp(K:Frag)(ta:TE)(f:Xx):TE:=λσ H Q=>ta σ H λx H1=>OE K f x H1 Q
def MG(K:Frag)(ta h:TE)(f:Xx):TS:=λD σ H=>h σ H λy H1=>ta σ H1 λx e=>∃a C g fs,x=.ref a/\e a=some (.ins C g fs)/\Ah K C/\ie K C f/\fs.length<1000/\
 D.nx σ (upd e a<|.ins C g<|gj f y fs)
def Ds(X:Cx)(op:Operator)(rd:V->V->Hp->VK->Prop):Prop:=
 ∀(a:XA) (s:Xq) (σ:St) (H:Hp) (x y:V) (u v:Xo) (Q:VK),Inv X a σ H s->RelV x u->RelV y v->rd x y H Q->wpAny (model X.prog X.w) X.A (inplaceOp op u v) (EP X a σ Q) X.xe s
def K8(he:PE X e ta)(j:attributeBase e f X.env (eval e X.env)=eval e X.env):PE X (.Attribute e f pos) (Mp X.K ta f):=by
 intro y s σ H Q I h;refine Hw j<|cX (he y s σ H _ I h) λu B g=>?_;obtain⟨x,H1,m,p,a,C,D,fs,v,i,w,c,n,l,q⟩:=g;subst i;obtain rfl:u=Value.ref a:=p;exact yN m w c n l λA z o r=>⟨v,H1,o,r,q⟩
def mG(E:PE X o ta)(B:PE X value tv)(w:swapsWith value (some<|.Attribute o f XU) pos.line X.env=pure false):PS X (.Assign [.Attribute o f XU] value pos) (MG X.K ta tv f):=by
 intro g s σ H D I h;refine plainObj_wpAny_Assign_Attribute (cX (B g s σ H _ I h) λu r ⟨y,H1,j,z,q⟩=>cX (E g r σ H1 _ j q) λv J e=>?_) w;obtain⟨x,L,p,A,a,C,N,fs,i,F,c,n,l,G⟩:=e;subst i;obtain rfl:v=Value.ref a:=A;exact yE p F c n l z λM m=>⟨σ,_,m,G⟩
def O5:V->V->Hp->VK->Prop:=λx y H Q=>∃i j,x=.int i/\y=.int j/\Q (.int<|i+j) H
def OS:V->V->Hp->VK->Prop:=λx y H Q=>∃i j,x=.int i/\y=.int j/\Q (.int<|i-j) H
def JZ:Ds X .Add O5:=by
 rintro g s σ H x y u v Q I e f ⟨i,j,rfl,rfl,q⟩;obtain⟨t,rfl⟩:=(show ∃t,u=Value.int i t from e);obtain⟨a,rfl⟩:=(show ∃a,v=Value.int j a from f);exact PyProof.Rows.iadd_int ⟨.int<|i+j,H,I.tok _,⟨_,rfl⟩,q⟩
def JR:Ds X .Sub OS:=by
 rintro g s σ H x y u v Q I e f ⟨i,j,rfl,rfl,q⟩;obtain⟨t,rfl⟩:=(show ∃t,u=Value.int i t from e);obtain⟨a,rfl⟩:=(show ∃a,v=Value.int j a from f);exact PyProof.Rows.isub_int ⟨.int<|i-j,H,I.tok _,⟨_,rfl⟩,q⟩
inductive gN(K:Frag)(H:Hp):V->Xo->Prop where
 |non:gN K H .non (.type "NoneType")
 |bl (x:Bool):gN K H (.bl x) (.type "bool")
 |int (i:Int):gN K H (.int i) (.type "int")
 |str (x:Xx):gN K H (.str x) (.type "str")
 |flt (x:UInt64):gN K H (.flt x) (.type "float")
 |lst {a:Xp}{xs:Xw V}(e:H a=some (.lst xs)):gN K H (.ref a) (.type "list")
 |frz {a:Xp}{o:Obj}{xs:Xw V}(e:H a=some (.frz o (.lst xs))):gN K H (.ref a) (.type "list")
 |tup {a:Xp}{xs:Xw V}(e:H a=some (.tup xs)):gN K H (.ref a) (.type "tuple")
 |dK {a:Xp}{XD:Xw (Key×V)}(e:H a=some (.dK XD)):gN K H (.ref a) (.type "dict")
 |dT {a:Xp}{XD:Xw (Xw Key×V)}(e:H a=some (.dT XD)):gN K H (.ref a) (.type "dict")
 |ins {a C f:Xp}{fs:Xw (Xx×V)}(e:H a=some (.ins C f fs)) (cl:Ah K C) (g:findIn K (.ref C) "__class__" =some (some (.builtin "object.__class__")))
   (j:PySem.W.specialIn K (.builtin "object.__class__") "__get__" =some (some (.builtin "getset_descriptor.__get__"))) (h:PySem.W.takesIn K (.builtin "object.__class__")=some true)
   (hm:PySem.W.mroIn K C (.type "object")=some true):gN K H (.ref a) (.ref C)
def By(I:Inv X XC σ H s)(f:RelV x u)(ty:gN X.K H x t)(e:kitOne X.K t c=some b)(h:∀m,Q (.bool b) { s with toks:=m }):
  wpAny (model X.prog X.w) A (call (.builtin "isinstance") [u,c]) Q E s:=by
 cases ty with
 |non=>cases (show u=Value.none from f);exact U3 PySem.W.kitx_none I.oH True.intro e (λz=>nomatch z) h
 |bl y=>cases (show u=Value.bool y from f);exact U3 PySem.W.kitx_bool I.oH True.intro e (λz=>nomatch z) h
 |int i=>obtain⟨t,q⟩:=(show ∃t,u=Value.int i t from f);cases q;exact U3 PySem.W.kitx_int I.oH True.intro e (λz=>nomatch z) h
 |str y=>obtain⟨t,q⟩:=(show ∃t,u=Value.str y t from f);cases q;exact U3 PySem.W.kitx_str I.oH True.intro e (λz=>nomatch z) h
 |flt y=>obtain⟨t,q⟩:=(show ∃t,u=Value.float y t from f);cases q;exact U3 PySem.W.kitx_float I.oH True.intro e (λz=>nomatch z) h
 | @lst a j ea=>
  cases (show u=Value.ref a from f);obtain⟨_,_,n,_,g⟩:=(show cV X.prog X.w H s.heap a (.lst j) from I.hok a _ ea);exact U3 kitx_list I.oH ⟨_,g,rfl⟩ e (λz=>nomatch z) h
 | @frz a ob j ea=>
  cases (show u=Value.ref a from f);obtain⟨_,_,_,n,_,g⟩:=(show cV X.prog X.w H s.heap a (.frz ob<|.lst j) from I.hok a _ ea);exact U3 kitx_list I.oH ⟨_,g,rfl⟩ e (λz=>nomatch z) h
 | @tup a j ea=>
  cases (show u=Value.ref a from f);obtain⟨_,_,_,p⟩:=(show cV X.prog X.w H s.heap a (.tup j) from I.hok a _ ea);obtain⟨o,g,l,_⟩:=p;exact U3 PySem.W.kitx_tuple I.oH ⟨o,g,l⟩ e (λz=>nomatch z) h
 | @dK a XD ea=>
  cases (show u=Value.ref a from f);obtain⟨_,_,B,_,p⟩:=(show cV X.prog X.w H s.heap a (.dK XD) from I.hok a _ ea);obtain⟨o,r,v,g,l,_⟩:=p;exact U3 kitx_dict I.oH ⟨o,g,l.1⟩ e (λz=>nomatch z) h
 | @dT a XD ea=>
  cases (show u=Value.ref a from f);obtain⟨_,_,j,_,o,r,v,g,l,_⟩:=(show cV X.prog X.w H s.heap a (.dT XD) from I.hok a _ ea);exact U3 kitx_dict I.oH ⟨o,g,l.1⟩ e (λz=>nomatch z) h
 | @ins a C dx fs ea cl ha hn Yd hm=>
  cases (show u=Value.ref a from f);obtain⟨D,O,_⟩:=oU I.hok ea;obtain⟨F,J,_⟩:=O.look;exact U3 (PySem.W.kitx_own (cl.get _) cl.hd ha hn Yd hm) I.oH J e (λz=>nomatch z) h
structure dO(k:Nat)(A:Xv):Prop where
 hd:A.handled=none
 dp:A.depth+3*k+5<recursionLimit
 un:A.units+16*k+200<cLine
def dO.mono(r:dO k A)(h:j<=k):dO j A:=⟨r.hd,by have:=r.dp;lia,by have:=r.un;lia⟩
def dO.deeper(r:dO (k+1) A)(env:Env):dO k (A.deeper env):=
 ⟨r.hd,by have:=r.dp;show A.depth+1+3*k+5<_;lia,by have:=r.un;show A.units+3+16*k+200<_;lia⟩
def dO.in1(r:dO (k+1) A):dO k A.in1:=
 ⟨r.hd,by have:=r.dp;show A.depth+3*k+5<_;lia,by have:=r.un;show A.units+1+16*k+200<_;lia⟩
def ze{A:Xv}{us:Xw Xo}{kw:Xw (Xx×Xo)}:(A.under<|.builtin "type.__call__" ⟨.ref C::us,kw⟩).depth=A.depth+1:=by
 first|rfl|simp[Around.under,Code.weight,Code.isCreation,Code.isGuard,Code.isCaller,Code.frames,Code.isFrame,guardIds]
def yV{A:Xv}{us:Xw Xo}{kw:Xw (Xx×Xo)}:(A.under<|.builtin "type.__call__" ⟨.ref C::us,kw⟩).units=A.units+1:=by
 first|rfl|simp[Around.under,Code.cUnits,Code.frames,Code.isFrame]
def dO.make(r:dO (k+1) A)(C:Xp)(us:Xw Xo)(kw:Xw (Xx×Xo)):dO k (A.under<|.builtin "type.__call__" ⟨.ref C::us,kw⟩):=
 ⟨r.hd,by have:=r.dp;rw[ze];lia,by have:=r.un;rw[yV];lia⟩
def dO.depth(r:dO k A):A.depth<recursionLimit:=by have:=r.dp;lia
def dO.units(r:dO k A):A.units+64<cLine:=by have:=r.un;lia
def kU:TA:=λ_ H Q=>Q [] H
def dF(ta:TE)(tr:TA):TA:=λσ H Q=>ta σ H λx H1=>tr σ H1 λe a=>Q (x::e) a
def kZ:PA X [] kU:=λ_ _ _ _ H Q I h=>Uv ⟨[],H,I,.nil,h⟩
def fH(r:PE X e te)(hr:PA X es t)(o:starEach (e::es) X.env=(false,eval e X.env)::starEach es X.env:=by rfl):PA X (e::es) (dF te t):=by
 intro f g s σ H Q I h;rw[o];refine SH<|cX (r g s σ H _ I h) λu n a=>?_;obtain⟨x,H1,j,i,q1⟩:=a;exact cX (hr f g n σ H1 _ j q1) λy w ⟨m,q,l,p,v⟩=>⟨x::m,q,l,.cons i p,v⟩
def Ny(t:TA):TE:=λσ H Q=>t σ H λa H1=>a.length<=sizeLine/\∀p,H1 p=none->Q (.ref p) (upd H1 p<|.tup a)
def FA(t:TA):TE:=λσ H Q=>t σ H λa H1=>a.length<=sizeLine/\∀p,H1 p=none->Q (.ref p) (upd H1 p<|.lst a)
def J2{x1}(h:PA X es t):PE X (.Tuple es x1 pos) (Ny t):=by
 intro l s σ H Q I i;refine wpAny_Tuple_spliced (cX (h pos l s σ H _ I i) λg a ⟨j,H1,f,r,z,q⟩=>⟨by rw[<-r.length];exact z,?_⟩);refine⟨.ref a.heap.objs.size,upd H1 a.heap.objs.size<|.tup j,f.laid (t':=a.toks) (λb u e=>QL _ e) (QP _) ?_,rfl,q _<|f.hok.fresh<|QP _⟩;exact⟨z,g,r,⟨_,QX _ rfl,rfl,_,rfl⟩⟩
def LK(h:PA X es t):PE X (.List es pos) (FA t):=by
 intro l s σ H Q I i;refine wpAny_List_spliced (cX (h pos l s σ H _ I i) λg a ⟨j,H1,f,r,z,q⟩=>⟨by rw[<-r.length];exact z,?_⟩);refine⟨.ref a.heap.objs.size,upd H1 a.heap.objs.size<|.lst j,f.laid (t':=a.toks) (λb u e=>QL _ e) (QP _) ?_,rfl,q _<|f.hok.fresh<|QP _⟩;exact⟨z,g,0,r,QX _ rfl⟩
abbrev Sp:=Xw V->Hp->VK->XK->Prop
abbrev JM:=Xw Env->Hp->Xq->XK->Xy
structure qU(P:Xr)(w:Xs)(K:Frag)(mg:XB)(base:Heap)(A:Xv)(outer:Xw Env)(s:Xq)(H:Hp):Prop where
 frames:A.frames=some outer
 mod:Mod K mg base
 bs:∀b o,base.get? b=some o->s.heap.get? b=some o/\H b=none
 bsz:base.objs.size<=s.heap.objs.size
 nV:s.heap.FunFrames base outer
 frf:∀b∈Bp outer,H b=none
 hok:gJ P w H s.heap
 bare:AllBare s.gens
def CE(outer:Xw Env)(P:Xr)(w:Xs)(H:Hp)(s:Xq)(Q:VK)(u:Xo)(s':Xq):Prop:=
 ∃v a,s'.os=s.os/\AllBare s'.gens/\Un (Bp outer) [] H a s.heap s'.heap/\gJ P w a s'.heap/\RelV v u/\Q v a
def CR(CX:JM)(outer:Xw Env)(P:Xr)(w:Xs)(H:Hp)(s:Xq)(Q:VK)(E:XK)(r:Result)(s':Xq):Prop:=
 match r with
 |.ok (.ret u)=>CE outer P w H s Q u s'
 |.ok _=>False
 |.error e=>CX outer H s E e s'
structure fg(P:Xr)(w:Xs)(K:Frag)(mg:XB)(base:Heap)(CX:JM)(k:Nat)(f:Xp)(fd:FuncData)(ps:Xw Xx)(sp:Sp):Prop where
 len:∀vs H Q E,sp vs H Q E->vs.length=ps.length
 run:∀(A:Xv) (outer:Xw Env) (s:Xq) (H:Hp) (args:Args) (us:Xw Xo) (vs:Xw V) (Q:VK) (E:XK),dO k A->qU P w K mg base A outer s H->BindsTo s fd args (ps.zip us)->Vals vs us->sp vs H Q E->
  codeAny (model P w) A (.call (.ref f) args) (CR CX outer P w H s Q E) s
def qU.make{K:Frag}{a:XB}{base:Heap}{A:Xv}{outer:Xw Env}{s:Xq}{H:Hp}(e:qU P w K a base A outer s H)(C:Xp)(us:Xw Xo)(kw:Xw (Xx×Xo)):
  qU P w K a base (A.under<|.builtin "type.__call__" ⟨.ref C::us,kw⟩) outer s H:=⟨by first|exact e.frames| (simpa [Around.under,Code.envs,Code.isFrame,pushEnvs] using e.frames),e.mod,e.bs,e.bsz,e.nV,e.frf,e.hok,e.bare⟩
def qU.in1{K:Frag}{a:XB}{base:Heap}{A:Xv}{outer:Xw Env}{s:Xq}{H:Hp}(e:qU P w K a base A outer s H):
  qU P w K a base A.in1 outer s H:=⟨e.frames,e.mod,e.bs,e.bsz,e.nV,e.frf,e.hok,e.bare⟩
def Inv.Lu(I:Inv X XC σ H s):qU X.prog X.w X.K X.mg X.base X.A X.stack s H:=
 ⟨I.ok.frames,I.ok.mod,I.bs,Rn I.ok.bsz I.sz,I.stack,I.zj,I.hok,I.bare⟩
def Inv.after(I:Inv X XC σ H s)(h:CE X.stack X.prog X.w H s Q u s'):EP X XC σ Q u s':=by
 obtain⟨v,j,f,bare,un,a,r,q⟩:=h;obtain⟨i,g,d,t,e⟩:=s';obtain rfl:e=s.os:=f;exact⟨v,j,I.call (h':=i) (g':=g) (d':=d) (t':=t) un a bare λb z=>absurd z<|by simp,r,q⟩
def pY(sp:Sp)(a:Xw V)(E:XK)(t:TA):TE:=λσ H Q=>t σ H λe H1=>sp (e++a) H1 Q E
inductive MethP(C:Xp)(m:Xx)(x:V)(H:Hp)(G:Prop):Prop
 |mk(a e:Xp)(fs:Xw (Xx×V))(f:x=.ref a)(h:H a=some (.ins C e fs))(l:fs.lookup m=none)(q:G)
def IK(C:Xp)(m:Xx)(sp:Sp)(f:Xw V)(E:XK)(ta:TE)(t:TA):TE:=λσ H Q=>ta σ H λx H1=>MethP C m x H1<|t σ H1 λe a=>sp (x::(e++f)) a Q E
def Jf(C:Xp)(sp:Sp)(g:Xw V)(E:XK)(t:TA):TE:=λσ H Q=>t σ H λf H1=>∀x a,H1 x=none->H1 a=none->a≠x->
 sp (.ref x::(f++g)) (upd (upd H1 a<|.own x) x<|.ins C a []) (λv e=>v=.non/\Q (.ref x) e) E
def Binds(K:Frag)(fd:FuncData)(ps:Xw Xx)(ds:Xw Xo):Prop:=
 ∀(s:Xq) (us:Xw Xo),K.In s.heap->(us++ds).length=ps.length->BindsTo s fd ⟨us,[]⟩ (ps.zip<|us++ds)
def Binds.all{K:Frag}(h:∀us:Xw Xo,us.length=ps.length->bindArgs fd ⟨us,[]⟩=pure (ps.zip us)):Binds K fd ps []:=λs us _ a=>by
 rw[Ry]at a ⊢;exact .of_eq<|h us a
def Passes(CX:JM)(X:Cx)(E:XK):Prop:=∀(f:XA) (σ:St) (H:Hp) (s:Xq) (e:Xo) (a:Xq),Inv X f σ H s->CX X.stack H s E e a->X.xe e a
def Fj(F:fg X.prog X.w X.K X.mg X.base CX k f fd ps sp)(hr:dO k X.A)(j:Binds X.K fd ps ds)(hd:Vals Yh ds)(l:Passes CX X E)
  (I:Inv X XC σ H s)(r:Vals vs us)(h:sp (vs++Yh) H Q E):wpAny (model X.prog X.w) X.A (call (.ref f) us) (EP X XC σ Q) X.xe s:=by
 have g:=r.append hd;refine V5 (Ti (F.run X.A X.stack s H ⟨us,[]⟩ (us++ds) (vs++Yh) Q E hr I.Lu (j s us I.oH<|by rw[<-g.length];exact F.len _ _ _ _ h) g h) λr i a=>?_);cases r with
 |error e=>exact l XC σ H s e i I a
 |ok fl=>
  cases fl with
  |ret u=>exact I.after a
  |next=>exact False.elim a
  |brk=>exact False.elim a
  |cont=>exact False.elim a
def zJ(F:fg X.prog X.w X.K X.mg X.base CX k f fd ps sp)(hr:dO k X.A)(j:Gl X x)(hm:X.mg x=some (.ref f))(l:keepIn X.K (.ref f)=true)(i:Binds X.K fd ps ds)(hd:Vals Yh ds)(n:Passes CX X E)
  (o:PA X (e::es) t) (a:(x==("__debug__" :Xx))=false:=by decide) (he:starEach (e::es) X.env=(false,eval e X.env)::starEach es X.env:=by rfl) (m:(backTo pos<|starEach es X.env).any (·.1)=false:=by rfl):
  PE X (.Call (.Name x p) (e::es) [] pos) (pY sp Yh E t):=by
 intro v s σ H Q I h;refine Tb<|o5 I j hm ?_ a;refine callWith_K I.ok.mod.kin l (cX (o pos v s σ H _ I h) λB z ⟨y,H1,g,r,q⟩=>⟨g.oH,?_⟩) he m;exact Fj F hr i hd n g r q
def C9(he:PE X o ta)(c:Ah X.K C)(hm:Meth X.K C m f)(F:fg X.prog X.w X.K X.mg X.base CX k f fd ps sp)(hr:dO k X.A)(p:Binds X.K fd ps ds)(hd:Vals Yh ds)(v:Passes CX X E)
  (n:eval (.Call (.Attribute o m XH) [] [] pos) X.env=(do
   let i <-eval o X.env
   standAt XH.atName
   let (f,first) <-holding [i] (getMethod i m pl)
   callWith pos f first (backTo pos<|starEach [] X.env) (backToKw pos<|keywordEach [] X.env)):=by rfl):
  PE X (.Call (.Attribute o m XH) [] [] pos) (IK C m sp Yh E ta kU):=by
 intro z s σ H Q I h;refine PySem.W.methodCall_KW (cX (he z s σ H _ I h) λu B e=>?_) n;obtain⟨x,H1,g,r,a,D,fs,j,y,l,q⟩:=e;subst j;obtain rfl:u=Value.ref a:=r;exact xM g y c hm l <| PySem.W.callWith_K0 g.oH hm.kp (Fj (vs:=[.ref a]) F hr p hd v g (.cons rfl .nil) q)
structure Mk(K:Frag)(C f:Xp):Prop where
 makes:makesIn K C=true
 init:findIn K (.ref C) "__init__" =some (some (.ref f))
 fn:isFn K (.ref f)=true
 kp:keepIn K (.ref C)=true
def CS(M:Mk X.K C f)(F:fg X.prog X.w X.K X.mg X.base CX k f fd ps sp)(hr:dO (k+1) X.A)(n:Binds X.K fd ps ds)(hd:Vals Yh ds)
  (B:Passes CX X E)(I:Inv X XC σ H s)(r:Vals vs us)
  (h:∀x i,H x=none->H i=none->i≠x->sp (.ref x::(vs++Yh)) (upd (upd H i<|.own x) x<|.ins C i []) (λv D=>v=.non/\Q (.ref x) D) E):
  wpAny (model X.prog X.w) X.A (call (.ref C) us) (EP X XC σ Q) X.xe s:=by
 have j:=h (s.heap.objs.size+1) s.heap.objs.size (I.hok.fresh<|T6 _) (I.hok.fresh<|QP _)<|Rb<|Tv _;have g:=Inv.made (C:=C) I;have l:Vals (V.ref (s.heap.objs.size+1)::(vs++Yh)) (Value.ref (s.heap.objs.size+1)::(us++ds)):=.cons rfl<|r.append hd;have z:(Value.ref (s.heap.objs.size+1)::us++ds).length=ps.length:=by
  have e:=l.length;rw[F.len _ _ _ _ j]at e;exact e.symm
 refine V5 (E2 I.oH M.makes M.init (Vx.mp M.fn) (Ti (F.run _ X.stack _ _ ⟨Value.ref (s.heap.objs.size+1)::us,[]⟩ (Value.ref (s.heap.objs.size+1)::(us++ds)) _ _ E (hr.make C us [])
  (g.Lu.make C us []) (n _ (Value.ref (s.heap.objs.size+1)::us) g.oH z) l j) λr m a=>?_))
 cases r with
 |error e=>exact B XC σ _ _ e m g a
 |ok fl=>
  cases fl with
  |ret u=>
   obtain⟨v,G,p,y,o,q⟩:=g.after a;subst o;exact⟨y,⟨V.ref<|s.heap.objs.size+1,G,p,rfl,q⟩⟩
  |next=>exact False.elim a
  |brk=>exact False.elim a
  |cont=>exact False.elim a
def Gz(M:Mk X.K C f)(F:fg X.prog X.w X.K X.mg X.base CX k f fd ps sp)(hr:dO (k+1) X.A)(l:Gl X x)(hm:X.mg x=some (.ref C))(m:Binds X.K fd ps ds)(hd:Vals Yh ds)(o:Passes CX X E)
  (j:PA X (e::es) t) (a:(x==("__debug__" :Xx))=false:=by decide) (he:starEach (e::es) X.env=(false,eval e X.env)::starEach es X.env:=by rfl) (i:(backTo pos<|starEach es X.env).any (·.1)=false:=by rfl):
  PE X (.Call (.Name x p) (e::es) [] pos) (Jf C sp Yh E t):=by
 intro n s σ H Q I h;refine Tb<|o5 I l hm ?_ a;refine callWith_K I.ok.mod.kin M.kp (cX (j pos n s σ H _ I h) λy z ⟨v,H1,g,r,q⟩=>⟨g.oH,?_⟩) he i;exact CS M F hr m hd o g r q
structure cK(N P:Xw Xx)(sc:Scope):Prop where
 kind:sc.kind=.function:=by rfl
 co:sc.isCoroutine=false:=by rfl
 gen:sc.isGenerator=false:=by rfl
 nd:N.Nodup:=by decide+kernel
 pre:N.take P.length=P:=by rfl
 par:∀x∈P,sc.names.lookup x=some .local\/sc.names.lookup x=some .cell:=by decide+kernel
 nofree:∀y∈sc.names,y.2≠.free:=by decide+kernel
theorem r8{kindOf:Xx->Xu NameKind}{x:Xx}:∀{binds:Xw (Xx×Xo)}{m:XB},(∀v,(x,v) ∉ binds)->bindL kindOf binds m x=m x
 |[],_,_=>rfl
 | (n,v)::r,m,h=>by
  unfold bindL;rw[r8 λw a=>h w<|RK _ a];split
  ·grind
  ·rfl
theorem tD{kindOf:Xx->Xu NameKind}{x:Xx}:∀{binds:Xw (Xx×Xo)}{m:XB},(∀v,(x,v) ∉ binds)->bindC kindOf binds m x=m x
 |[],_,_=>rfl
 | (n,v)::r,m,h=>by
  unfold bindC;rw[tD λw a=>h w<|RK _ a];split
  ·rfl
  ·grind
theorem rQ{kindOf:Xx->Xu NameKind}{x:Xx}{v:Xo}:∀{P:Xw Xx}{vs:Xw Xo}{i:Nat}{m:XB},P.Nodup->P[i]? =some x->vs[i]? =some v->kindOf x=some .local->
  bindL kindOf (P.zip vs) m x=some v
 |[],_,_,_,_,h,_,_=>by simp at h
 |_::_,[],_,_,_,_,h,_=>by simp at h
 |p::P,w::vs,0,m,nd,h1,h2,hk=>by
  simp at h1 h2;subst h1;subst h2;show bindL kindOf ((p,w)::P.zip vs) m p=_;unfold bindL;rw[r8 λv a=>(Tj.mp nd).1 (WX a).1,QR hk];simp
 |p::P,w::vs,i+1,m,nd,h1,h2,hk=>by
  show bindL kindOf ((p,w)::P.zip vs) m x=_;unfold bindL;exact rQ (Tj.mp nd).2 (by simpa using h1) (by simpa using h2) hk
theorem sV{kindOf:Xx->Xu NameKind}{x:Xx}{v:Xo}:∀{P:Xw Xx}{vs:Xw Xo}{i:Nat}{m:XB},P.Nodup->P[i]? =some x->vs[i]? =some v->kindOf x≠some .local->
  bindC kindOf (P.zip vs) m x=some v
 |[],_,_,_,_,h,_,_=>by simp at h
 |_::_,[],_,_,_,_,h,_=>by simp at h
 |p::P,w::vs,0,m,nd,h1,h2,hk=>by
  simp at h1 h2;subst h1;subst h2;show bindC kindOf ((p,w)::P.zip vs) m p=_;unfold bindC;rw[tD λv a=>(Tj.mp nd).1 (WX a).1,QO hk];simp
 |p::P,w::vs,i+1,m,nd,h1,h2,hk=>by
  show bindC kindOf ((p,w)::P.zip vs) m x=_;unfold bindC;exact sV (Tj.mp nd).2 (by simpa using h1) (by simpa using h2) hk
def start(N:Xw Xx)(vs:Xw V):St:=vs.map some++List.replicate (N.length-vs.length) none
def BF(CX:JM)(P:Xr)(w:Xs)(K:Frag)(mg:XB)(base:Heap)(N:Xw Xx)(g:Xx)(scope:Scope)(f:Xp)(cd:Xo)(A:Xv)(outer:Xw Env)(s:Xq)(H:Hp)(E:XK):Cx where
 prog:=P
 w:=w
 K:=K
 mg:=mg
 base:=base
 A:=A.deeper<|envOfC g scope s.heap.objs.size f cd
 N:=N
 s₀:=s
 H₀:=H
 env:=envOfC g scope s.heap.objs.size f cd
 outer:=outer
 stack:=envOfC g scope s.heap.objs.size f cd::outer
 ex:=[]
 calm:=true
 fn:=λ_=>true
 pn:=[]
 xe:=λe h=>wpAny (model P w) (A.deeper<|envOfC g scope s.heap.objs.size f cd) (leaving (envOfC g scope s.heap.objs.size f cd) e) (λ_ a=>CX outer H s E e a) (λi a=>CX outer H s E i a) h
def vO{sc:Scope}(h:sc.names.lookup x=some .cell):∃c,(cellsFrom n sc.names []).lookup x=some c:=Wn.mp<|WE sc.names n []<|.inl h
def BH{w:Xs}{K:Frag}{F:XB}{base:Heap}{N ps:Xw Xx}{B:Xx}{scope:Scope}{f:Xp}{cd:Xo}{A:Xv}{outer:Xw Env}{s s1:Xq}{H:Hp}{E:XK}{us:Xw Xo}{vs:Xw V}
  (S:cK N ps scope)(hd:A.handled=none)(j:qU P w K F base A outer s H)(Q:vs.length=ps.length)(r:Vals vs us)
  (x:InCallC s s.heap.objs.size (bindL (envOfC B scope s.heap.objs.size f cd).kindOf (ps.zip us) λ_=>none) (cellsFrom (s.heap.objs.size+1) scope.names []) (bindC (envOfC B scope s.heap.objs.size f cd).kindOf (ps.zip us) λ_=>none) s1):
  Inv (BF CX P w K F base N B scope f cd A outer s H E) [] (start N vs) H s1:=by
 have O:ps.length<=N.length:=by have:=RP List.length S.pre;rw[RU]at this;lia
 obtain⟨C,M,rfl,G⟩:=x.done;have m:∀b:Xp,b ∉ (BF CX P w K F base N B scope f cd A outer s H E).ex:=λb z=>absurd (show b∈([]:Xw Xp) from z) (by simp);refine⟨⟨j.mod,S.kind,rfl,rfl,QP _,λy z c C g=>?_,λy l=>?_,λy c _ h=>?_,λ_=>hd,Around.frames_deeper j.frames,.inr ⟨rfl,rfl⟩,λb z=>absurd z<|m b,j.bs,j.bsz,λb _ _=>m b,λb z=>absurd z<|m b,j.nV,j.frf⟩,
  rfl,j.bare,Un.kept G,⟨_,x.toInCall.ns,λi y v C g R=>?_⟩,λy c h=>⟨_,x.cell y c h⟩,j.hok.fresh<|QP _,λy c h=>?_,λp n=>absurd (show p∈([]:XA) from n)<|by simp,j.hok.kept G,?_⟩
 ·exact name_of_addr x.apart (SM C)<|SM g
 ·have l:scope.names.lookup y=some .cell\/scope.names.lookup y=some .free:=l
  obtain l|l:=l
  ·exact vO l
  ·exact absurd rfl<|S.nofree _<|SM l
 ·exact Us<|x.above y c<|SM h
 ·have D:i<vs.length:=by
   unfold start at g;by_cases D:i<vs.length
   ·exact D
   ·rw[QW<|by simpa using D]at g
    rw[Wu]at g;split at g<;>cases g
  have L:vs[i]? =some v:=by
   unfold start at g;rw[Rf<|by simpa using D,QY]at g;cases e:vs[i]? with
   |none=>rw[e]at g;cases g
   |some a=>rw[e]at g;cases g;rfl
  obtain⟨u,I,J⟩:=r.get L;have n:ps[i]? =some y:=by
   rw[<-S.pre,Sv<|by lia];exact C
  have o:ps.Nodup:=by rw[<-S.pre];exact S.nd.sublist<|VM _ _
  refine⟨u,J,?_⟩;obtain k|k:=S.par y (QN n)
  ·exact .inl ⟨k,rQ o n I k⟩
  ·obtain⟨c,e⟩:=vO k
   refine .inr ⟨.inl k,c,e,?_⟩;have q:=x.cell y c e;rw[sV o n I<|by show scope.names.lookup y≠_;rw[k];decide]at q;exact q
 ·exact j.hok.fresh<|Us<|x.above y c<|SM h
 ·unfold start
  show _=N.length;rw[QK,QM,WY];lia
def Mj{w:Xs}{K:Frag}{B:XB}{base:Heap}{k:Nat}{f:Xp}{name h:Xx}{params:Arguments}{body:Xw Stmt}{scope:Scope}{G kV F pm i ct M:Xo}{an od:Xu Xp}
  {T:Array (Xu Xo)}{N ps:Xw Xx}{sp:Sp}(I:K.lookup f=some ⟨M,od,.func<|fnOf name h params body scope G kV F pm an i ct,T⟩) (X:codeIn K i h=true) (S:cK N ps scope)
  (len:∀vs H Q E,sp vs H Q E->vs.length=ps.length)
  (L:∀(A:Xv) (outer:Xw Env) (s:Xq) (H:Hp) (vs:Xw V) (Q:VK) (E:XK),dO k (A.deeper<|envOfC h scope s.heap.objs.size f i)->sp vs H Q E->
   ∃t,yT (BF CX P w K B base N h scope f i A outer s H E) body t/\t { nx:=λ_ H'=>Q .non H',rt:=Q } (start N vs) H):
  fg P w K B base CX (k+1) f (fnOf name h params body scope G kV F pm an i ct) ps sp:=by
 refine⟨len,λA outer s H args us vs Q E hr l O r D=>?_⟩;have C:=l.mod.kin.keeps λb o e=>(l.bs b o e).1;have g:∀y∈ps.zip us,scope.names.lookup y.1=some .local\/(scope.names.lookup y.1=some .cell/\((cellsFrom (s.heap.objs.size+1) scope.names []).lookup y.1).isSome=true):=λ⟨n,v⟩ Z=>by
  obtain q|q:=S.par n (WX Z).1
  ·exact .inl q
  ·exact .inr ⟨q,WE _ _ _<|.inl q⟩
 refine codeAny_call_function hr.depth (C _ _ I) rfl S.co S.gen rfl (PySem.W.codeRec_of C X)<|O _ _ _ _ ?_;refine wpAny_newFunctionEnv_cells S.kind g λY he s1 x=>?_;subst he;refine⟨(l.mod.nolimit.keeps λb o e=>(l.bs b o e).1).keeps x.toInCall.keep,codeAny_func ?_⟩;obtain⟨t,R,U⟩:=L A outer s H vs Q E (hr.deeper _) D;refine RW (R [] s1 (start N vs) H _ (BH S hr.hd l (len _ _ _ _ D) r x) U) (λfl p j=>?_) λe p j=>j;have m:∀{a:St}{H':Hp}{v:V}{u:Xo},Inv (BF CX P w K B base N h scope f i A outer s H E) [] a H' p->RelV v u->Q v H'->CE outer P w H s Q u p:=
  λ{a H' v u} J z q=>⟨v,H',J.os,J.bare,J.base,J.hok,z,q⟩
 cases fl with
 |ret u=>
  obtain⟨v,a,H',J,z,q⟩:=j;exact m J z q
 |next=>
  obtain⟨a,H',J,q⟩:=j;exact m (v:=V.non) (u:=Value.none) J rfl q
 |brk=>
  obtain⟨_,_,_,q⟩:=j;exact False.elim q
 |cont=>
  obtain⟨_,_,_,q⟩:=j;exact False.elim q
section
variable {id:String}{T:String}{r:Xw V->Hp->VK->Prop}
def Ma(r:Xw V->Hp->VK->Prop)(t:TA):TE:=λσ H Q=>t σ H λa H1=>r a H1 Q
def iC (w:eG X (.builtin id) r) (o:Gl X x) (hm:X.mg x=none) (l:bootBuiltins x=some (.builtin id)) (m:PA X (e::es) t) (y:x≠ "__name__" :=by decide) (a:(x==("__debug__" :Xx))=false:=by decide)
  (he:starEach (e::es) X.env=(false,eval e X.env)::starEach es X.env:=by rfl)(g:(backTo pos<|starEach es X.env).any (·.1)=false:=by rfl):PE X (.Call (.Name x p) (e::es) [] pos) (Ma r t):=by
 intro f s σ H Q I h;refine Tb<|jc I o hm l ?_ y a;exact PyProof.Rows.callWith_builtin1 (cX (m pos f s σ H _ I h) λj q ⟨i,H1,v,n,q1⟩=>w f q σ H1 i j Q v n q1) he g
def Cd (w:eG X (.type T) r) (o:Gl X x) (hm:X.mg x=none) (l:bootBuiltins x=some (.type T)) (m:PA X (e::es) t) (y:x≠ "__name__" :=by decide) (a:(x==("__debug__" :Xx))=false:=by decide)
  (he:starEach (e::es) X.env=(false,eval e X.env)::starEach es X.env:=by rfl)(g:(backTo pos<|starEach es X.env).any (·.1)=false:=by rfl):PE X (.Call (.Name x p) (e::es) [] pos) (Ma r t):=by
 intro f s σ H Q I h;refine Tb<|jc I o hm l ?_ y a;exact Sk (cX (m pos f s σ H _ I h) λj q ⟨i,H1,v,n,q1⟩=>w f q σ H1 i j Q v n q1) he g
end
end L2
namespace HT
def ik(n d:Nat):Xu Int->Nat
 |none=>d
 |some v=>if v<0 then(v+(n:Int)).toNat else min v.toNat n
def jK(n d:Nat):ik n d none=d:=rfl
def lT(n d k:Nat):ik n d (some (k:Int))=min k n:=by
 show(if(k:Int)<0 then((k:Int)+(n:Int)).toNat else min (k:Int).toNat n)=min k n;rw[QO<|by lia,VN]
def Kz(n d:Nat)(hd:d<=n)(o:Xu Int):ik n d o<=n:=by
 cases o with
 |none=>exact hd
 |some v=>
  show(if v<0 then(v+(n:Int)).toNat else min v.toNat n)<=n;by_cases a:v<0
  ·rw[QR a];lia
  ·rw[QO a];exact VX _ _
def Fx(a b:Nat):((min a b:Nat):Int)=min (a:Int) (b:Int):=by lia
end HT
namespace L2
abbrev TO:=St->Hp->(Xu Int->Hp->Prop)->Prop
def PO(X:Cx)(e:Xu Expr)(t:TO):Prop:=
 ∀(f:XA) (s:Xq) (σ:St) (H:Hp) (Q:Xu Int->Hp->Prop),Inv X f σ H s->t σ H Q->
  wpAny (model X.prog X.w) X.A (evalPart e X.env) (λu g=>∃o a,Inv X f σ a g/\IsPart u o/\Q o a) X.xe s
def AB:TO:=λ_ H Q=>Q none H
inductive OK(x:V)(H:Hp)(Q:Xu Int->Hp->Prop):Prop
 |mk(i:Int)(h:x=.int i)(q:Q (some i) H)
def IF(t:TE):TO:=λσ H Q=>t σ H λx H1=>OK x H1 Q
def intsAre_of{ns:Xw Int}:∀{us:Xw Xo},Vals (ns.map V.int) us->IntsAre us ns:=by
 induction ns with
 |nil=>intro us r;rw[map_nil]at r;cases r;exact .nil
 |cons n ns f=>
  intro us r;rw[RL]at r;cases r with
  |cons g a=>
   obtain⟨t,e⟩:=g;subst e;exact .cons n t<|f a
section
variable {te:TE}{lo:Xu Expr}{hi:Xu Expr}{tl:TO}{th:TO}{pos:Pos}{p2:Pos}
def Gs:PO X none AB:=by
 intro a s σ H Q I h;rw[evalPart_none];exact QI ⟨none,H,I,.none,h⟩
def GR(h:PE X e te):PO X (some e) (IF te):=by
 intro l s σ H Q I f;rw[evalPart_some];refine cX (h l s σ H _ I f) λu m a=>?_;obtain⟨x,H1,j,g,q1⟩:=a;obtain⟨i,rfl,q⟩:=q1;obtain⟨t,rfl⟩:=g;exact⟨some i,H1,j,.int i t,q⟩
def Ow(X:Cx)(r:V->Xu Int->Xu Int->Hp->VK->Prop):Prop:=
 ∀(g:XA) (s:Xq) (σ:St) (H:Hp) (x:V) (v e a:Xo) (lo f:Xu Int) (sl:Xp) (Q:VK),Inv X g σ H s->RelV x v->s.heap.IsSliceOf sl e a .none->IsPart e lo->IsPart a f->r x lo f H Q->
  ∃T id,typeLookup (.type T) "__getitem__" =pure (some<|.builtin id)/\s.TypeIs v T/\wpAny (model X.prog X.w) X.A (getItem v<|.ref sl) (EP X g σ Q) X.xe s
def Qe(r:V->Xu Int->Xu Int->Hp->VK->Prop)(e:TE)(f g:TO):TE:=λσ H Q=>e σ H λx H1=>f σ H1 λl a=>g σ a λu h=>r x l u h Q
def D6(hr:Ow X r)(he:PE X e te)(G:PO X lo tl)(L:PO X hi th):PE X (.Subscript e (.Slice lo hi none p2) pos) (Qe r te tl th):=by
 intro g s σ H Q I h;refine Subscript_<|cX (he g s σ H _ I h) λv M a=>?_;obtain⟨x,H1,z,n,q1⟩:=a;refine wpAny_Slice<|cX (G g M σ H1 _ z q1) λj C ⟨l,N,F,J,O⟩=>cX (L g C σ N _ F O) λi f a=>?_;obtain⟨u,m,B,K,E⟩:=a;rw[evalPart_none];refine QI ?_;have o:Inv X g σ m { f with heap:=f.heap.push { cls:=.type "slice",data:=.fields #[j,i,.none] } }:=B.kept (t':=f.toks) λb ob q=>QL _ q;obtain⟨T,id,D,p,y⟩:=hr g { f with heap:=f.heap.push { cls:=.type "slice",data:=.fields #[j,i,.none] } } σ m x v j i l u f.heap.objs.size Q o n (Heap.IsSliceOf.new ..) J K E;show wpAny (model X.prog X.w) X.A (subscriptTail e (.Slice lo hi none p2) v<|.ref f.heap.objs.size) (EP X g σ Q) X.xe { f with heap:=f.heap.push { cls:=.type "slice",data:=.fields #[j,i,.none] } };exact tail_any p D y (by with_unfolding_all rfl)
def d4(xs:Xw V)(lo a:Xu Int):Xw V:=(xs.drop<|HT.ik xs.length 0 lo).take<|HT.ik xs.length xs.length a-HT.ik xs.length 0 lo
def jA(xs:Xw V)(lo a:Xu Int):(d4 xs lo a).length<=xs.length:=by
 unfold d4;rw[RU,Sy];exact Rn (VX _ _)<|sub_le _ _
end
def L5(n:Nat)(i:Int):Xu Nat:=if 0<=i then(if i<n then some i.toNat else none) else if -(n:Int)<=i then some (i+n).toNat else none
def qR{α:Type}(xs:Xw α)(i:Int):Xu α:=(L5 xs.length i).bind λj=>xs[j]?
def F9(h:L5 n i=some j):seqIndex? i n=some j/\j<n/\ -(n:Int)<=i/\i<n:=by
 unfold L5 at h;by_cases f:0<=i
 ·rw[QR f]at h
  by_cases a:i<n
  ·rw[QR a]at h
   have e:=Rr h;exact⟨by rw[seqIndex_of f a,e],by lia,by lia,a⟩
  ·rw[QO a]at h;cases h
 ·rw[QO f]at h
  by_cases a: -(n:Int)<=i
  ·rw[QR a]at h
   have e:=Rr h;exact⟨by rw[seqIndex_neg (by lia) a,e],by lia,a,by lia⟩
  ·rw[QO a]at h;cases h
def tV{α:Type}{xs:Xw α}{i:Int}{v:α}(h:qR xs i=some v):∃j,seqIndex? i xs.length=some j/\xs[j]? =some v/\j<xs.length/\ -(xs.length:Int)<=i/\i<xs.length:=by
 unfold qR at h;cases e:L5 xs.length i with
 |none=>rw[e]at h;cases h
 |some j=>
  rw[e]at h;obtain⟨g,a,l,f⟩:=F9 e;exact⟨j,g,h,a,l,f⟩
def dj{j:Nat}{v:α}(h:xs[j]? =some v):qR xs (j:Int)=some v:=by
 have a:=(gI0.mp h).1;have e:L5 xs.length (j:Int)=some j:=by
  unfold L5;rw[QR<|by lia,QR<|by lia];simp
 unfold qR;rw[e];exact h
def dS(b:Expr):Prop:=∀o i,subscripted b false o i=operate [o,i] (getItem o i)
def Mf(X:Cx)(r:R2):Prop:=
 ∀(value slice:Expr) (a:XA) (s:Xq) (σ:St) (H:Hp) (x y:V) (v u:Xo) (Q:VK),Inv X a σ H s->RelV x v->RelV y u->r x y H Q->
  subscripted slice false v u=operate [v,u] (getItem v u)->wpAny (model X.prog X.w) X.A (subscriptTail value slice v u) (EP X a σ Q) X.xe s
def PJ(X:Cx)(id:String)(r:V->Xw V->Hp->VK->Prop):Prop:=
 ∀(a:XA) (s:Xq) (σ:St) (H:Hp) (x:V) (xs:Xw V) (v:Xo) (us:Xw Xo) (Q:VK),Inv X a σ H s->RelV x v->Vals xs us->r x xs H Q->
  wpAny (model X.prog X.w) X.A (call (.builtin id) (v::us)) (EP X a σ Q) X.xe s
section
variable {tb:TE}{pos:Pos}
def Ni{r:R2}(hr:Mf X r)(n:PE X a ta)(e:PE X b tb)(j:dS b):PE X (.Subscript a b pos) (Fm r ta tb):=by
 intro o s σ H Q I h;exact Subscript_<|LF n e I h λv u f x y m g i l q=>hr a b o f σ m x y v u Q g i l q<|j _ _
inductive OD(S:Xp->Xw V->Prop)(x y:V)(H:Hp)(Q:VK):Prop
 |mk(p:Xp)(xs:Xw V)(i:Int)(v:V)(f:x=.ref p)(a:y=.int i)(s:S p xs)(e:qR xs i=some v)(q:Q v H)
inductive OI(x y:V)(H:Hp)(Q:VK):Prop
 |mk(z:Xx)(i:Int)(c:Nat)(f:x=.str z)(a:y=.int i)(s:z.length<=sizeLine)(e:qR z.cps.toList i=some c)(q:Q (.str ⟨#[c]⟩) H)
def xT{K:Frag}{H:Hp}{p:Xp}{xs:Xw V}{i:Int}{v:V}{Q:VK}(h:H p=some (.tup xs))(e:qR xs i=some v)(q:Q v H):OD (fe K H) (.ref p) (.int i) H Q:=⟨p,xs,i,v,rfl,rfl,fe.of h,e,q⟩
def xL{K:Frag}{H:Hp}{p:Xp}{xs:Xw V}{i:Int}{v:V}{Q:VK}(h:H p=some (.lst xs))(e:qR xs i=some v)(q:Q v H):OD (cN K H) (.ref p) (.int i) H Q:=⟨p,xs,i,v,rfl,rfl,cN.of h,e,q⟩
def Ld(K:Frag):R2:=λx y H Q=>OD (cN K H) x y H Q
def Jx(K:Frag):R2:=λx y H Q=>OD (fe K H) x y H Q
def Mt:R2:=λx y H Q=>OI x y H Q
def zU:Mf X (Ld X.K):=by
 intro value slice L s σ H x y v u Q I F G h o;obtain⟨p,O,i,z,rfl,rfl,B,J,q⟩:=h;cases F;obtain⟨t,rfl⟩:=G;obtain⟨M,r,g,N⟩:=I.list B;obtain⟨j,e,A,P,C,D⟩:=tV J;obtain⟨w,n,f⟩:=r.get A;have E:=r.length;have R:=qc;have a:EP X L σ Q w s:=⟨z,H,I,f,q⟩;by_cases m:0<=i
 ·have l:i.toNat=j:=by
   rw[seqIndex_of m D]at e;exact Rr e
  exact item_listR g.isList m (by lia) (by rw[l];simpa using n) a o
 ·have l:(i+(M.toArray.size:Int)).toNat=j:=by
   rw[seqIndex_neg (by lia) C]at e;rw[Rw,<-E];exact Rr e
  exact subscriptTail_builtinR g.isList.typeIs slot_list_getitem.lookup
   (wpAny_getItem_list_neg g.isList (by lia) (by rw[Rw]<;>lia) (by lia) (by rw[l];simpa using n) ⟨rfl,a⟩) o
def Ep:Mf X (Jx X.K):=by
 intro value slice M s σ H x y v u Q I m o h n;obtain⟨p,G,i,z,rfl,rfl,g,A,q⟩:=h;cases m;obtain⟨t,rfl⟩:=o;obtain⟨N,r,e,E⟩:=I.tuple g;obtain⟨j,C,f,J,B,D⟩:=tV A;obtain⟨w,l,a⟩:=r.get f;have F:=r.length;have L:=qc;exact subscriptTail_builtinR e.typeIs slot_tuple_getitem.lookup
  (getItem_tuple (j:=j) e (by lia) (by lia) (by grind) (by simpa using l) ⟨rfl,⟨z,H,I,a,q⟩⟩) n
def yk:Mf X Mt:=by
 intro value slice E s σ H x y v u Q I n p h o;obtain⟨z,i,c,rfl,rfl,B,w,q⟩:=h;obtain⟨t,rfl⟩:=n;obtain⟨A,rfl⟩:=p;obtain⟨j,a,e,C,f,g⟩:=tV w;have m:z.cps.toList.length=z.length:=by simp[Str.length]
 rw[m]at a f g;have D:=qc;exact tail_any (typeIs_str s z t) slot_str_getitem.lookup (getItem_str (by
  have r:decide (i < -(2^63:Int))=false:=QU (by lia);have l:decide (i ≥ 2^63)=false:=QU (by lia);rw[r,l,Bool.or_false]) (by rw[a];simpa using e) ⟨.str ⟨#[c]⟩,H,I.tok _,⟨_,rfl⟩,q⟩) o
def DI(v:Int)(n d:Nat):max 0 (min (if v<0 then v+(n:Int) else v) (n:Int))=((HT.ik n d (some v):Nat):Int):=by
 show _=(((if v<0 then(v+(n:Int)).toNat else min v.toNat n):Nat):Int);by_cases a:v<0
 ·rw[QR a,QR a,Int.toNat_eq_max,Int.max_comm,Int.min_eq_left<|by lia]
 ·rw[QO a,QO a,HT.Fx,Sq<|Int.not_lt.mp a]
  exact Int.max_eq_right<|Int.le_min.mpr ⟨Int.not_lt.mp a,Int.natCast_nonneg n⟩
def uG(lo a:Xu Int)(n:Nat):(sliceBounds lo a none n).1=((HT.ik n 0 lo:Nat):Int)/\(sliceBounds lo a none n).2.1=((HT.ik n n a:Nat):Int)/\(sliceBounds lo a none n).2.2=1:=by
 refine⟨?_,?_,rfl⟩
 ·cases lo with
  |none=>simp[sliceBounds,HT.ik]
  |some i=>
   simp only[sliceBounds,getD_none,show(1:Int) > 0 by decide,if_true];exact DI i n 0
 ·cases a with
  |none=>simp[sliceBounds,HT.ik]
  |some i=>
   simp only[sliceBounds,getD_none,show(1:Int) > 0 by decide,if_true];exact DI i n n
def qN(a:Xw Xo)(lo e:Xu Int):slicePick a.toArray lo e none=((a.drop<|HT.ik a.length 0 lo).take<|HT.ik a.length a.length e-HT.ik a.length 0 lo).toArray:=by
 obtain⟨g,f,h⟩:=uG lo e a.toArray.size;unfold slicePick;rw[g,f,h];simp only[sliceRange_one,pick_run,size_toArray]<;>rfl
inductive QF(K:Frag)(x:V)(lo e:Xu Int)(H:Hp)(Q:VK):Prop
 |mk(a:Xp)(xs:Xw V)(f:x=.ref a)(s:cN K H a xs)(q:∀p,H p=none->Q (.ref p) (upd H p (.lst (d4 xs lo e))))
def Nh(K:Frag):V->Xu Int->Xu Int->Hp->VK->Prop:=λx a e H Q=>QF K x a e H Q
def FO:Ow X (Nh X.K):=by
 intro A s σ H x v z y f i sl Q I o p m n h;obtain⟨a,e,rfl,w,q⟩:=h;cases o;obtain⟨B,r,g,l⟩:=I.list w;have j:=r.length;refine⟨"list",_,slot_list_getitem.lookup,g.isList.typeIs,?_⟩;refine wpAny_getItem_list_slice g.isList p m n .none (by simp) ?_ (by grind);rw[qN,<-j];refine⟨.ref s.heap.objs.size,_,I.laid (t':=s.toks) (λb ob q=>QL _ q) (QP _) ?_,rfl,q _<|I.hok.fresh<|QP _⟩;exact⟨Rn (jA e f i) l,_,0,(r.drop<|HT.ik e.length 0 f).take<|HT.ik e.length e.length i-HT.ik e.length 0 f,QX _ rfl⟩
def dN:V->Bool
 |.non=>true
 |.bl _=>true
 |.int _=>true
 |.str _=>true
 |_=>false
def vR:V->V->Bool
 |.non,.non=>true
 |.bl a,.bl b=>a==b
 |.bl a,.int b=>(if a then 1 else 0)==b
 |.int a,.bl b=>a==(if b then 1 else 0)
 |.int a,.int b=>a==b
 |.str a,.str b=>a==b
 |_,_=>false
def um(h:RelV y u)(e:RelV x v)(i:dN y=true)(g:dN x=true):SeqAt.EqAt A s u v (vR y x):=by
 cases y with
 |non=>
  cases h;cases x with
  |non=>cases e;exact WG _
  |bl b=>cases e;exact SeqAt.EqAt.none_bool b
  |int b=>obtain⟨t,rfl⟩:=e;exact SeqAt.EqAt.none_int b t
  |str b=>obtain⟨t,rfl⟩:=e;exact SeqAt.EqAt.none_str b t
  |_=>exact absurd (show false=true from g) bF0
 |bl a=>
  cases h;cases x with
  |non=>cases e;exact SeqAt.EqAt.bool_none a
  |bl b=>cases e;exact SeqAt.EqAt.bool_bool a b
  |int b=>obtain⟨t,rfl⟩:=e;exact SeqAt.EqAt.bool_int a b t
  |str b=>obtain⟨t,rfl⟩:=e;exact SeqAt.EqAt.bool_str a b t
  |_=>exact absurd (show false=true from g) bF0
 |int a=>
  obtain⟨f,rfl⟩:=h;cases x with
  |non=>cases e;exact SeqAt.EqAt.int_none a f
  |bl b=>cases e;exact SeqAt.EqAt.int_bool a f b
  |int b=>obtain⟨t,rfl⟩:=e;exact SeqAt.EqAt.int_int a f b t
  |str b=>obtain⟨t,rfl⟩:=e;exact SeqAt.EqAt.int_str a f b t
  |_=>exact absurd (show false=true from g) bF0
 |str a=>
  obtain⟨f,rfl⟩:=h;cases x with
  |non=>cases e;exact SeqAt.EqAt.str_none a f
  |bl b=>cases e;exact SeqAt.EqAt.str_bool a f b
  |int b=>obtain⟨t,rfl⟩:=e;exact SeqAt.EqAt.str_int a f b t
  |str b=>obtain⟨t,rfl⟩:=e;exact SeqAt.EqAt.str_str a f b t
  |_=>exact absurd (show false=true from g) bF0
 |_=>exact absurd (show false=true from i) bF0
def yG(x:V)(u:Xo):Bool:=match u with
 |.none=>vR .non x
 |.bool b=>vR (.bl b) x
 |.int i _=>vR (.int i) x
 |.str z _=>vR (.str z) x
 |_=>false
def Dr(r:RelV y u)(f:dN y=true):yG x u=vR y x:=by
 cases y with
 |non=>cases r;rfl
 |bl b=>cases r;rfl
 |int i=>obtain⟨t,rfl⟩:=r;rfl
 |str z=>obtain⟨t,rfl⟩:=r;rfl
 |_=>exact absurd (show false=true from f) bF0
theorem lU{x:V}:∀{xs:Xw V}{us:Xw Xo},Vals xs us->xs.all dN=true->us.any (yG x)=xs.any λy=>vR y x
 |_,_,.nil,_=>rfl
 |y::xs,u::us,.cons r t,f=>by
  rw[Wc,R6]at f;rw[Tp,Tp,Dr r f.1,lU t f.2]
theorem jC{A:Xv}{s:Xq}{x:V}{v:Xo}(g:RelV x v)(e:dN x=true):∀{xs:Xw V}{us:Xw Xo},Vals xs us->xs.all dN=true->∀u∈us,SeqAt.EqAt A s u v (yG x u)
 |_,_,.nil,_=>λu a=>by cases a
 |y::xs,u::us,.cons r t,f=>λh a=>by
  rw[Wc,R6]at f;obtain rfl|a:=Rq.mp a
  ·rw[Dr r f.1];exact um r g f.1 e
  ·exact jC g e t f.2 h a
def IT(x:V)(xs:Xw V):Bool:=xs.any λy=>vR y x
inductive Qn(K:Frag)(neg:Bool)(x y:V)(H:Hp)(Q:VK):Prop
 |mk(p:Xp)(xs:Xw V)(a:y=.ref p)(s:cN K H p xs\/fe K H p xs)(f:dN x=true)(fs:xs.all dN=true)(q:Q (.bl (if neg then !IT x xs else IT x xs)) H)
def Nt(K:Frag)(neg:Bool):R2:=λx y H Q=>Qn K neg x y H Q
def iA:jk X (compareOp .In) (Nt X.K false):=by
 intro o s σ H x y v u Q I j m h;obtain⟨p,n,rfl,a,i,fs,q⟩:=h;cases m;obtain a|a:=a
 ·obtain⟨e,r,g,l⟩:=I.list a
  refine SeqAt.in_listAt (yG x) g.isList (λw f=>jC j i r fs w<|by simpa using f) ⟨.bl _,H,I,rfl,?_⟩;rw[show e.toArray.any (yG x)=e.any (yG x) by simp,lU r fs];exact q
 ·obtain⟨e,r,g,l⟩:=I.tuple a
  refine SeqAt.in_tupleAt (yG x) g (λw f=>jC j i r fs w<|by simpa using f) ⟨.bl _,H,I,rfl,?_⟩;rw[show e.toArray.any (yG x)=e.any (yG x) by simp,lU r fs];exact q
def gb:jk X (compareOp .NotIn) (Nt X.K true):=by
 intro o s σ H x y v u Q I j m h;obtain⟨p,n,rfl,a,i,fs,q⟩:=h;cases m;obtain a|a:=a
 ·obtain⟨e,r,g,l⟩:=I.list a
  refine SeqAt.notIn_listAt (yG x) g.isList (λw f=>jC j i r fs w<|by simpa using f) ⟨.bl _,H,I,rfl,?_⟩;rw[show e.toArray.any (yG x)=e.any (yG x) by simp,lU r fs];exact q
 ·obtain⟨e,r,g,l⟩:=I.tuple a
  refine SeqAt.notIn_tupleAt (yG x) g (λw f=>jC j i r fs w<|by simpa using f) ⟨.bl _,H,I,rfl,?_⟩;rw[show e.toArray.any (yG x)=e.any (yG x) by simp,lU r fs];exact q
inductive Mb(K:Frag)(xs:Xw V)(H:Hp)(Q:VK):Prop
 |mk(p:Xp)(ys:Xw V)(e:xs=[.ref p])(s:cN K H p ys\/fe K H p ys)(q:Q (.int ys.length) H)
def ug:eG X (.builtin "len") (λxs H Q=>L2.Mb X.K xs H Q):=by
 intro v s σ H xs o Q I r h;obtain⟨p,i,rfl,a,q⟩:=h;obtain⟨u,rfl,l⟩:=vals1 r;cases l;have n:=qc;obtain a|a:=a
 ·obtain⟨m,e,g,j⟩:=I.list a
  have f:=e.length;exact Calls.call_len_list g.isList (by simp only[size_toArray]<;>lia) ⟨.int i.length,H,I.tok _,⟨s.toks+1,by rw[Rw,f]⟩,q⟩
 ·obtain⟨m,e,g,j⟩:=I.tuple a
  have f:=e.length;exact len_tuple g (by simp only[size_toArray]<;>lia) ⟨.int i.length,H,I.tok _,⟨s.toks+1,by rw[Rw,f]⟩,q⟩
def gf:eG X (.builtin "len") (λxs H Q=>∃z,xs=[.str z]/\z.length<=sizeLine/\Q (.int z.length) H):=by
 intro e s σ H xs a Q I r h;obtain⟨z,rfl,g,q⟩:=h;obtain⟨u,rfl,t,rfl⟩:=vals1 r;have f:=qc;exact len_str (by lia) ⟨.int z.length,H,I.tok _,⟨_,rfl⟩,q⟩
def vj:eG X (.type "list") (λxs H Q=>∃p ys,xs=[.ref p]/\(cN X.K H p ys\/fe X.K H p ys)/\∀l,H l=none->Q (.ref l) (upd H l<|.lst ys)):=by
 intro F s σ H xs G Q I r h;obtain⟨p,ys,rfl,v,q⟩:=h;obtain⟨u,rfl,E⟩:=vals1 r;cases E;have m:∀(f:Xw Xo),Vals ys f->ys.length<=sizeLine->∀(a:Heap) (i:Nat),(∀b C,s.heap.get? b=some C->a.get? b=some C)->
   a.get? s.heap.objs.size=some { cls:=.type "list",dict:=none,data:=.seq f.toArray i,slots:= #[] }->EP X F σ Q (.ref s.heap.objs.size) { s with heap:=a }:=λf g x a i j e=>
  ⟨.ref s.heap.objs.size,_,I.laid (t':=s.toks) j (QP _)<|show cV X.prog X.w _ a _ (.lst ys) from ⟨x,f,i,g,e⟩,rfl,q _<|I.hok.fresh<|QP _⟩
 obtain v|v:=v
 ·obtain⟨f,g,A,x⟩:=I.list v
  have D:=g.length;obtain⟨o,z,B,n,y⟩:=A.isList;exact call_list_seq p (.inl rfl) z B y (λa i j e=>m f g x a i j e) (by simp only[size_toArray]<;>lia)
 ·obtain⟨f,g,A,x⟩:=I.tuple v
  have D:=g.length;obtain⟨o,z,B,n,y⟩:=A;exact call_list_seq p (.inr rfl) z B y (λa i j e=>m f g x a i j e) (by simp only[size_toArray]<;>lia)
def Qh(K:Frag)(T:String)(x:V)(H:Hp):Prop:=match x with
 |.str _=>T= "str"
 |.int _=>T= "int"
 |.ref p=>(T= "list" /\∃e,cN K H p e)\/(T= "tuple" /\∃o,K.lookup p=some o/\o.cls=.type "tuple" /\o.dict=none)\/
   (T= "dict" /\((∃a,H p=some (.dK a))\/∃a,H p=some (.dT a)))\/(T= "set" /\∃S n,H p=some (.set S n))
 |_=>False
def Ki(I:Inv X XC σ H s)(r:RelV x v)(ty:Qh X.K T x H):
  s.TypeIs v T/\∀a,v=.ref a->∃ob,s.heap.get? a=some ob/\ob.dict=none:=by
 cases x with
 |str z=>
  obtain⟨t,rfl⟩:=r;cases (show T= "str" from ty);exact⟨typeIs_str s z t,λ_ e=>nomatch e⟩
 |int i=>
  obtain⟨t,rfl⟩:=r;cases (show T= "int" from ty);exact⟨typeIs_int s i t,λ_ e=>nomatch e⟩
 |ref p=>
  cases r;obtain ⟨rfl,y,m⟩|⟨rfl,o,f,w,h⟩|⟨rfl,f⟩|⟨rfl,S,n,f⟩:=ty
  ·obtain⟨A,_,l,_⟩:=I.list m
   refine⟨l.isList.typeIs,λa e=>?_⟩;cases e;obtain⟨o,n,e,c,h,_⟩:=l;exact⟨o,e,h⟩
  ·refine⟨⟨o,I.oH p o f,w⟩,λa e=>?_⟩
   cases e;exact⟨o,I.oH _ o f,h⟩
  ·have z:∃o,s.heap.get? p=some o/\o.ExactDict:=by
    obtain ⟨q,f⟩|⟨q,f⟩:=f
    ·obtain⟨_,_,_,_,o,_,_,e,g,_⟩:=I.hok p _ f
     exact⟨o,e,g⟩
    ·obtain⟨_,_,_,_,o,_,_,e,g,_⟩:=I.hok p _ f
     exact⟨o,e,g⟩
   obtain⟨o,e,g⟩:=z;refine⟨⟨o,e,g.1⟩,λa j=>?_⟩;cases j;exact⟨o,e,g.2.1⟩
  ·obtain⟨o,_,_,_,e,g,_⟩:=I.hok p _ f
   refine⟨⟨o,e,g.1⟩,λa j=>?_⟩;cases j;exact⟨o,e,g.2.1⟩
 |_=>exact False.elim ty
def PY(K:Frag)(T:String)(r:V->Xw V->Hp->VK->Prop)(to:TE)(t:TA):TE:=λσ H Q=>to σ H λx H1=>Qh K T x H1/\t σ H1 λa e=>r x a e Q
variable {T:String}{id:String}{r:V->Xw V->Hp->VK->Prop}
def NV (M:PlainAttrs T) (slot:Slot T name id) (i:typeOf (.builtin id)=pure (.type "method_descriptor")) (hm:PJ X id r) (B:PE X o to) (L:PA X (e::es) t)
  (q:attributeBase o name X.env (eval o X.env)=eval o X.env:=by rfl)
  (g:((backTo XG<|starEach (e::es) X.env).all (λx=> !x.1)&&(backToKw XG<|keywordEach [] X.env).all (λx=>x.1.isSome)
   && decide ((e::es).length+([]:Xw Keyword).length+(if([]:Xw Keyword).isEmpty then 0 else 1)<30))=true:=by rfl)
  (C:(XH.endLine==XG.line)=true:=by rfl) (E:starEach (e::es) X.env=(false,eval e X.env)::starEach es X.env:=by rfl) (a:(backTo XG<|starEach es X.env).any (·.1)=false:=by rfl):
  PE X (.Call (.Attribute o name XH) (e::es) [] XG) (PY X.K T r to t):=by
 intro j s σ H Q I h;refine wpAny_Call_method_late q g C rfl<|cX (B j s σ H _ I h) λv D f=>?_;obtain⟨x,H1,m,l,ty,q1⟩:=f;obtain⟨z,p⟩:=Ki m l ty;refine⟨T,id,M,slot,i,z,p,?_⟩;have n:=L XG j D σ H1 _ m q1;rw[E]at n ⊢;refine TF (by show(false||(backTo XG<|starEach es X.env).any (·.1))=false;rw[a]<;>rfl)<|UJ ?_;exact cX n λJ y ⟨w,G,A,F,N⟩=>hm j y σ G x w v J Q A l F N
end
def PH(X:Cx)(id:String)(r:V->Xw V->Hp->VK->Prop):Prop:=
 ∀(a:XA) (s:Xq) (σ:St) (H:Hp) (x:V) (xs:Xw V) (v:Xo) (us:Xw Xo) (Q:VK),Inv X a σ H s->RelV x v->Vals xs us->r x xs H Q->
  wpAny (model X.prog X.w) X.A (call (.builtin id) (v::us)) (EP X a σ Q) X.xe s
def Vals.one:∀{x:V}{us:Xw Xo},Vals [x] us->∃u,us=[u]/\RelV x u
 |_,_,.cons r .nil=>⟨_,rfl,r⟩
theorem Vals.eraseIdx:∀{xs:Xw V}{us:Xw Xo}(i:Nat),Vals xs us->Vals (xs.eraseIdx i) (us.eraseIdx i)
 |_,_,_,.nil=>.nil
 |_,_,0,.cons _ t=>t
 |_,_,i+1,.cons r t=>.cons r<|Vals.eraseIdx i t
theorem rL{α:Type}:∀(l:Xw α) (i:Nat),(l.eraseIdx i).length<=l.length
 |[],_=>QP _
 |_::_,0=>T6 _
 |_::r,i+1=>Nat.succ_le_succ<|rL r i
def Inv.Ky{a X8:Xw Xo}{f:Array Xo->Array Xo}{t':Nat}(I:Inv X XC σ H s)(h:H l=some (.lst xs))
  (e:s.heap.get? l=some { cls:=.type "list",data:=.seq a.toArray n }) (hf:f a.toArray=X8.toArray) (g:Vals ys X8) (hz:ys.length<=sizeLine):
  Inv X XC σ (upd H l<|.lst ys) { s with heap:=s.heap.update l<|Obj.mapSeq f,toks:=t' }:=by
 have q:=PySem.IsL.update e f;rw[hf]at q;refine I.write (by rw[h];exact trivial) (.inl rfl) (λm u j i=>(Uw s.heap (Obj.mapSeq f)<|To j).trans i) ⟨_,q⟩ ?_;exact⟨hz,X8,_,g,q⟩
def Inv.O1(I:Inv X XC σ H s)(a:Vals ys XF)(hz:ys.length<=sizeLine):
  Inv X XC σ (upd H s.heap.objs.size<|.lst ys) { s with heap:=s.heap.push { cls:=.type "list",data:=.seq XF.toArray },toks:=t' }:=
 I.laid (λ_ _ q=>QL _ q) (QP _) ⟨hz,XF,0,a,QX _ rfl⟩
def Inv.fresh(I:Inv X XC σ H s):H s.heap.objs.size=none:=I.hok.fresh<|QP _
def Inv.Fy(I:Inv X XC σ H s)(f:H l=some (.lst xs)):xs.length<=sizeLine/\∃(a:Xw Xo) (n:Nat),Vals xs a/\xs.length=a.length/\s.heap.get? l=some { cls:=.type "list",data:=.seq a.toArray n }:=by
 obtain⟨z,a,n,r,e⟩:=I.hok l _ f;exact⟨z,a,n,r,r.length,e⟩
def EK(h:n<=sizeLine):Builtin.List.listTooLong n=false:=by
 unfold Builtin.List.listTooLong;exact QU (by lia)
inductive OQ(x:V)(vs:Xw V)(H:Hp)(Q:VK):Prop
 |mk(l:Xp)(xs:Xw V)(y:V)(e:x=.ref l)(a:vs=[y])(s:H l=some (.lst xs))(b:xs.length<sizeLine)(q:Q .non (upd H l (.lst (xs++[y]))))
def Ag:V->Xw V->Hp->VK->Prop:=λx a H Q=>OQ x a H Q
def r6:PH X "list.append" Ag:=by
 intro B s σ H x m v A Q I i g h;obtain⟨l,w,y,rfl,rfl,a,o,q⟩:=h;cases i;obtain⟨u,rfl,j⟩:=g.one;obtain⟨z,f,n,r,p,e⟩:=I.Fy a;refine Xb RA ⟨_,e,rfl⟩ F.entry_list_append (F.args_list_append_2 _ _) (PySem.list_append l f.toArray n u<|by grind) ⟨e,.non,_,I.Ky (X8:=f++[u]) a e (by simp) (r.append<|.cons j .nil) ?_,rfl,q⟩;rw[QK,List.length_singleton];lia
def AR:V->Xw V->Hp->VK->Prop:=λx f H Q=>∃l b a e,x=.ref l/\f=[.ref b]/\H l=some (.lst a)/\H b=some (.lst e)/\a.length+e.length<=sizeLine/\Q .non (upd H l<|.lst<|a++e)
def mP:PH X "list.extend" AR:=by
 intro N s σ H x G v M Q I w p h;obtain⟨l,b,L,D,rfl,rfl,i,B,J,q⟩:=h;cases w;obtain⟨u,rfl,A⟩:=p.one;cases A;obtain⟨z,g,n,r,K,e⟩:=I.Fy i;obtain⟨E,a,C,y,j,o⟩:=I.Fy B;have m:g.toArray.size+a.toArray.size<=sizeLine:=by rw[Rw,Rw];lia
 have f:¬(!g.toArray.isEmpty&&Builtin.List.listTooLong (g.toArray.size+a.toArray.size))=true:=by
  rw[EK m,SF];exact bF0
 refine Xb F.slot_list_extend ⟨_,e,rfl⟩ F.entry_list_extend (F.args_list_extend_2 _ _)
  (AutoSeq1.list_extend_list_list_0 l g.toArray n b a.toArray C f (by lia)<|by lia) ⟨e,o,?_⟩
 refine⟨.non,_,I.Ky (X8:=g++a) i e (by simp) (r.append y) ?_,rfl,q⟩;rw[QK];lia
def Eo:V->Xw V->Hp->VK->Prop:=λx e H Q=>∃l a i k y,x=.ref l/\e=[.int i]/\H l=some (.lst a)/\ -(2^63)<=i/\i<2^63/\seqIndex? i a.length=some k/\a[k]? =some y/\Q y (upd H l<|.lst<|a.eraseIdx k)
def p5:PH X "list.pop" Eo:=by
 intro L s σ H x J v K Q I E p h;obtain⟨l,D,i,k,y,rfl,rfl,g,o,j,m,C,q⟩:=h;cases E;obtain⟨u,rfl,G⟩:=p.one;obtain⟨t,rfl⟩:=G;obtain⟨z,a,n,r,B,e⟩:=I.Fy g;obtain⟨w,A,f⟩:=r.get C;refine Xb F.slot_list_pop ⟨_,e,rfl⟩ F.entry_list_pop (F.args_list_pop_2 _ _)
  (MeetsSeq.list_pop_at l a.toArray n i t k w (fitsIndex_both o j) (by rw[Rw,<-B];exact m) (by rw[<-Rc];exact A)<|by rw[Rw];lia) ⟨e,?_⟩
 refine⟨y,_,I.Ky (X8:=a.eraseIdx k) g e ?_ (r.eraseIdx k) ?_,f,q⟩
 ·show a.toArray.eraseIdxIfInBounds k=(a.eraseIdx k).toArray
  rw[List.eraseIdxIfInBounds_toArray]
 ·have:=rL D k
  lia
end L2
namespace Att
open PySem.W PySem.Calls
def oF{P:Params}{h:Heap}:∀(ns:Xw Int) (vs:Xw Xo),WellAll P h vs (ns.map WData.int)->IntsAre vs ns:=by
 intro ns
 induction ns with
 |nil=>
  intro vs w;rw[map_nil]at w;cases w;exact .nil
 |cons n ns e=>
  intro vs w;rw[RL]at w;cases w with
  |cons a b=>
   cases a;exact .cons _ _<|e _ b
def Cs{l:OpenLaw}(z:l.most=some n){h:Heap}{args:Xw WData}{j:Xw Xo}
  (m:l.row.toRowW.claim.pre args=true)(i:WellAll P h j args):
  ∃a vs ns,j=[Value.ref a]/\args=[WData.list<|ns.map WData.int]/\h.get? a=some { cls:=.type "list",data:=.seq vs.toArray }/\IntsAre vs ns/\ns.length<=n:=by
 have o:l.pre.holds [] { args:=args }=true:=(pre_splitW m).2;obtain⟨d,r,rfl,w,s⟩:=hasAllW_cons<|(pre_splitW m).1;obtain rfl:=hasAllW_nil s;obtain⟨B,rfl,y⟩:=hasW_list w;obtain⟨ns,rfl⟩:=items_int y;have v:ns.length<=n:=by
  unfold OpenLaw.pre at o;have f:(WTm.not<|.lt (.lit<|.int (n:Int))<|.len<|.arg 0).holds [] { args:=[.list<|ns.map .int] }=true:=by
   have f:=(holds_andW o).1;rw[z]at f;exact f
  have g:=condW_of f<|w_not<|w_lt w_lit<|w_len_list<|w_arg rfl;rw[QM]at g;refine Nat.le_of_not_lt λq=>?_
  first
   | (rw[dT0<|by lia]at g;exact absurd g<|by decide)
   | (simp at g;lia)
 cases i with
 |cons p A=>
  cases A;cases p with
  |list x e=>exact⟨_,_,ns,rfl,rfl,x,oF ns _ e,v⟩
def BU(l:OpenLaw)(args:Xw WData):l.row.toRowW.claim.post args (.bool true) args=true:=
 postW_of
  (show WShape.has [] (.bool true) .bool=true by first|rfl|decide|simp[WShape.has,WShape.arms,WShape.armsAll])
  (show(WTm.eq .res<|.lit<|.bool true).value [] { args:=args,res:=some<|.bool true,after:=args }=some (.bool<|true==true) from w_eq_bool (w_res rfl) w_lit) rfl
def wb{l:OpenLaw}{loose:Xw Xx}{XP:(XB)->Heap->Prop}{YP:Xs->Heap->Prop}{d:DefRec}
  (M:l.most=some n)(s:d.params.defaults=[])
  (call:∀(w:Xs)(s₀ e:Xq)(j v:XB)(h:Xp)(o:Obj)(m i x:Xo)(a:Xp)(vs:Xw Xo)(ns:Xw Int),
   Ground q loose [] XP w s₀ j v e.heap->YP w e.heap->
   e.heap.get? h=some o->o.data=.func (docDef d.name d.params d.body d.scope m i x)->e.heap.CodeRec i d.name->j d.name=some (.ref h)->
   e.heap.get? a=some { cls:=.type "list",data:=.seq vs.toArray }->IntsAre vs ns->ns.length<=n->e.gens= #[]->
   codeAny (model l.prog w) callerA (.call (.ref h) ⟨[.ref a],[]⟩) (λr s'=>r=.ok (.ret<|.bool true)/\OldK e.heap s'.heap/\s'.os=e.os/\AllBare s'.gens) e):
  WalkO q loose XP YP l.row.toRowW d [] (λf vs=>PySem.call f vs):=by
 intro w s₀ e j v G Y h o m i x O kV J B I z y E args R Q L A P p S;obtain rfl:O=.none:=Dflts.none z s;obtain rfl:kV=.none:=Dflts.noKw z;obtain⟨a,vs,ns,rfl,rfl,g,hints,D⟩:=Cs M L p;refine enter_call<|Ti (call w s₀ e j v h o m i x a vs ns G Y J (fd_plain B) I y g hints D E) λr s' F=>?_;obtain⟨rfl,C,K,H⟩:=F;exact⟨.inl ⟨.bool true,.bool true,[],rfl,λ_=>rfl,.bool true,BU l _,λ_=>⟨List.Pairwise.nil,λ_ N=>nomatch N⟩⟩,C,K,H⟩
end Att
namespace L2
theorem mD:∀{vs:Xw Xo}{ns:Xw Int},IntsAre vs ns->Vals (ns.map V.int) vs
 |_,_,.nil=>.nil
 |_,_,.cons n t h=>.cons ⟨t,rfl⟩<|mD h
def Lx(H:Hp):Prop:=∀b,H b=none\/∃o a,H b=some (.frz o<|.lst a)
def Eh{w:Xs}{K:Frag}{I O:XB}{CX:JM}{k:Nat}{M a:Xp}{fd:FuncData}{x:Xx}{sp:Sp}{f:Xq}{vs:Xw Xo}{ns:Xw Int}
  (U:K.In f.heap) (A:f.heap.Ns mainGlobals I) (i:f.heap.Ns builtinsNs O) (S:∀x:Xx,x≠ "__name__" ->O x=bootBuiltins x) (B:f.heap.NoLimit) (hg:f.gens= #[])
  (L:f.heap.get? a=some { cls:=.type "list",data:=.seq vs.toArray }) (hi:IntsAre vs ns) (Z:ns.length<=sizeLine) (hr:dO k callerA)
  (F:∀base:Heap,K.In base->base.Ns mainGlobals I->fg P w K I base CX k M fd [x] sp)(l:∀(s:Xq)(u:Xo),BindsTo s fd ⟨[u],[]⟩ [(x,u)])
  (YM:∀H:Hp,Lx H->cN K H a (ns.map V.int)->sp [.ref a] H (λv _=>v=.bl true) λ_ _ _=>False)
  (R:∀H e s',CX [] H f (λ_ _ _=>False) e s'->False):
  codeAny (model P w) callerA (.call (.ref M) ⟨[.ref a],[]⟩) (λr s'=>r=.ok (.ret<|.bool true)/\OldK f.heap s'.heap/\s'.os=f.os/\AllBare s'.gens) f:=by
 have Y:=mD hi;have D:=hi.length;have core:∀H:Hp,Lx H->cN K H a (ns.map V.int)->gJ P w H f.heap->(∀b,H b≠none->b=a)->(H a≠none->K.lookup a=none)->
   codeAny (model P w) callerA (.call (.ref M) ⟨[.ref a],[]⟩) (λr s'=>r=.ok (.ret<|.bool true)/\OldK f.heap s'.heap/\s'.os=f.os/\AllBare s'.gens) f:=by
  intro H W hS E X hK;have g:∀{b:Xp}{o:Obj},f.heap.get? b=some o->H b=none->(uw f.heap H).get? b=some o:=λe n=>DY e n;have T:∀{b:Xp}{o:Obj}{C:Array DictEntry}{G:Nat},f.heap.get? b=some o->o.data=.dict C G->H b=none:=λ{b o C G} e d=>by
   cases q:H b with
   |none=>rfl
   |some u=>
    have Q:b=a:=X b (by rw[q];simp);subst Q;rw[L]at e;cases e;have d':Data.seq vs.toArray _=Data.dict C G:=d;cases d'
  have j:∀{b:Xp}{m:XB},f.heap.Ns b m->(uw f.heap H).Ns b m:=λ{b m} ⟨o,C,G,e,d,r⟩=>⟨o,C,G,g e<|T e d,d,r⟩;have J:K.In (uw f.heap H):=λb o e=>g (U b o e) (by
   cases q:H b with
   |none=>rfl
   |some u=>
    have Q:b=a:=X b (by rw[q];simp);subst Q;rw[hK<|by rw[q];simp]at e;cases e)
  have hM:Mod K I (uw f.heap H):=⟨J,j A,⟨O,j i,S⟩,let ⟨mc,h1,h2⟩:=B;⟨mc,j h1,h2⟩⟩;have e0:qU P w K I (uw f.heap H) callerA [] f H:=⟨rfl,hM,λb o e=>Il e,SA<|AU _ _,trivial,λb i=>absurd (show b∈([]:Xw Xp) from i)<|by simp,E,.of_eq hg⟩;refine Ti ((F _ J<|j A).run callerA [] f H ⟨[.ref a],[]⟩ [.ref a] [.ref a] _ _ hr e0 (l f<|.ref a) (.cons rfl .nil)<|YM H W hS) λr s' h=>?_;cases r with
  |error e=>exact(R H e s' h).elim
  |ok fl=>
   cases fl with
   |next=>exact False.elim h
   |brk=>exact False.elim h
   |cont=>exact False.elim h
   |ret u=>
    obtain⟨v,H',os,bare,un,y,r',q⟩:=h;have q':v=.bl true:=q;subst q';obtain rfl:u=Value.bool true:=r';refine⟨rfl,OldK.of_keep λb o e=>?_,os,bare⟩;cases q:H b with
    |none=>exact un.keep b o e q (by intro z;exact absurd (show b∈([]:Xw Xp) from z)<|by simp) (by simp)
    |some u=>
     obtain z|⟨ob,xs,z⟩:=W b
     ·rw[q]at z;cases z
     ·have z2:=un.frzs b ob _ z
      obtain⟨e1,_⟩:=E b _ z;obtain⟨e2,_⟩:=y b _ z2;rw[e]at e1;cases e1;exact e2
 cases N:K.lookup a with
 |some o=>
  have e:=U a o N;rw[L]at e;cases e;refine core (λ_=>none) (λ_=>.inl rfl) (.inr ⟨_,vs.toArray,_,N,rfl,rfl,rfl,by rw[Rw,D];exact Z,by simpa using Y⟩) (λb u z=>by have p:(none:Xu HO)=some u:=z;cases p) (λb z=>absurd rfl z) λz=>absurd rfl z
 |none=>
  refine core (λb=>if b=a then some (.frz { cls:=.type "list",data:=.seq vs.toArray } (.lst<|ns.map V.int)) else none) (λb=>?_) (.inl<|.inr ⟨{ cls:=.type "list",data:=.seq vs.toArray },QR rfl⟩) (λb u z=>?_) (λb z=>?_) λ_=>N
  ·by_cases i:b=a
   ·exact .inr ⟨_,_,QR i⟩
   ·exact .inl<|QO i
  ·by_cases i:b=a
   ·have p:=(QR i).symm.trans z
    cases p;subst i;exact⟨L,by rw[QM];exact Z,vs,_,Y,L⟩
   ·have p:=(QO i).symm.trans z
    cases p
  ·by_cases i:b=a
   ·exact i
   ·exact absurd (QO i) z
def HM{l:PySem.W.OpenLaw}{n k:Nat}{q:Xr}{loose:Xw Xx}{XP:(XB)->Heap->Prop}{YP:Xs->Heap->Prop}{d:DefRec}{K:Params->Frag}{CX:Xs->JM}{sp:Xs->Sp}{x:Xx}
  (P:l.most=some n)(A:n<=sizeLine)(y:d.params.defaults=[])(hr:dO k callerA)
  (O:∀(w:Xs)(h:Heap),YP w h->(K w.params).In h)
  (F:∀(w:Xs)(i:XB)(p:Xp)(h:Heap),(K w.params).In h->h.Ns mainGlobals i->i d.name=some (.ref p)->
   ∃r:FuncData,(∀(s:Xq) (u:Xo),BindsTo s r ⟨[u],[]⟩ [(x,u)])/\
    ∀base:Heap,(K w.params).In base->base.Ns mainGlobals i->fg l.prog w (K w.params) i base (CX w) k p r [x] (sp w))
  (L:∀(w:Xs) (H:Hp) (a:Xp) (ns:Xw Int),ns.length<=n->Lx H->cN (K w.params) H a (ns.map V.int)->sp w [.ref a] H (λv _=>v=.bl true) λ_ _ _=>False)
  (z:∀(w:Xs) (H:Hp) (s:Xq) (e:Xo) (s':Xq),CX w [] H s (λ_ _ _=>False) e s'->False):
  PySem.W.WalkO q loose XP YP l.row.toRowW d [] (λf vs=>PySem.call f vs):=by
 refine Att.wb P y λw E m i U p o S cd X5 a vs ns G Y Z R X B j hints C J=>?_;have D:=O w _ Y;obtain⟨r,I,N⟩:=F w i p _ D G.T.g B;exact Eh D G.T.g G.T.b G.T.builtins G.T.nolimit J j hints (Rn C A) hr N I (λH M Q=>L w H a ns C M Q) λH e s'=>z w H m e s'
abbrev oE:JM:=λ_ _ _ _ _ _=>False
abbrev E0:XK:=λ_ _ _=>False
def Af:Passes oE X E0:=λ_ _ _ _ _ _ _ h=>h.elim
structure qT(K:Frag)(x XI:Xx)(st:Stmt)(f:Xp)(fd:FuncData):Prop where
 ex:∃(oc:Xo) (od:Xu Xp) (kV X5 pm:Xo) (an:Xu Xp) (XY ct:Xo) (YJ:Array (Xu Xo)),
  fd=fnOf x XI (dY st) (df st) (cI st) .none kV X5 pm an XY ct/\K.lookup f=some ⟨oc,od,.func fd,YJ⟩/\codeIn K XY XI=true
 kp:keepIn K (.ref f)=true
section
variable {K:Frag}{mg:XB}{base:Heap}
def qT.ok{x e:Xx}{st:Stmt}{f:Xp}{fd:FuncData}{N ps:Xw Xx}{k:Nat}{sp:Sp}(F:qT K x e st f fd)(S:cK N ps (cI st))(len:∀vs H Q E,sp vs H Q E->vs.length=ps.length)
  (i:∀(a:Xo)(A:Xv)(outer:Xw Env)(s:Xq)(H:Hp)(vs:Xw V)(Q:VK)(E:XK),dO k (A.deeper<|envOfC e (cI st) s.heap.objs.size f a)->sp vs H Q E->
   ∃t,yT (BF oE P w K mg base N e (cI st) f a A outer s H E).Mz (df st) t/\t { nx:=λ_ H'=>Q .non H',rt:=Q } (start N vs) H):fg P w K mg base oE (k+1) f fd ps sp:=by
 obtain⟨n,v,kV,p,m,r,a,y,o,rfl,g,l⟩:=F.ex;refine Mj g l S len λA outer s H vs Q E hr j=>?_;obtain⟨t,h,q⟩:=i a A outer s H vs Q E hr j;exact⟨t,h.Mz,q⟩
def qT.binds{st:Stmt}{f:Xp}{fd:FuncData}{ps:Xw Xx}(F:qT K x XI st f fd)
  (h:∀(kV i e:Xo)(a:Xu Xp)(g ct:Xo)(us:Xw Xo),us.length=ps.length->bindArgs (fnOf x XI (dY st) (df st) (cI st) .none kV i e a g ct) ⟨us,[]⟩=pure (ps.zip us)):Binds K fd ps []:=by
 obtain⟨o,l,kV,i,e,a,g,ct,j,rfl,m,n⟩:=F.ex;exact .all<|h kV i e a g ct
def jZ{st:Stmt}{f:Xp}{i:Xo}{h an:Xu Xp}{g:Array (Xu Xo)}{kV e pm a ct:Xo}(l:K.lookup f=some ⟨i,h,.func<|fnOf x XI (dY st) (df st) (cI st) .none kV e pm an a ct,g⟩)
  (c:codeIn K a XI=true)(k:keepIn K (.ref f)=true):qT K x XI st f (fnOf x XI (dY st) (df st) (cI st) .none kV e pm an a ct):=⟨⟨i,h,kV,e,pm,an,a,ct,g,rfl,l,c⟩,k⟩
end
def dZ(hr:dO k A):A.units+1<cLine:=UW (Xi (by decide:1<=64) _) hr.units
def pv (i:Nat) (a:X.N[i]? =some x:=by rfl) (f:OJ X.env.scope x:=by first|exact Or.inl rfl|exact Or.inr (Or.inl rfl)|exact Or.inr<|Or.inr rfl) (hd:(x==("__debug__" :Xx))=false:=by decide)
  (e:(x==("__classdict__" :Xx))=false:=by decide):PE X (.Name x pos) (jd i):=mV a f hd e
def dG{A B:Prop}(h:B):if false=true then A else B:=by grind
def fL{A B:Prop}(h:A):if true=true then A else B:=by grind
def dD{c A B:Prop} [Decidable c] (a:c->A)(e:¬c->B):if c then A else B:=by grind
def cH(H H':Hp):Prop:=∀b o,H b=some o->H' b=some o
def cH.refl(H:Hp):cH H H:=λ_ _ h=>h
def cH.trans(a:cH H H1)(b:cH H1 H2):cH H H2:=λc o h=>b c o<|a c o h
def cH.free(e:cH H H')(h:H' l=Option.none):H l=Option.none:=by
 cases q:H l with
 |none=>rfl
 |some o=>
  rw[e l o q]at h;cases h
def cH.seq{K:Frag}{a:Xp}{xs:Xw V}(e:cH H H')(h:cN K H a xs):cN K H' a xs:=by
 obtain (h|⟨o,h⟩)|h:=h
 ·exact .inl<|.inl<|e _ _ h
 ·exact .inl<|.inr ⟨o,e _ _ h⟩
 ·exact .inr h
def x4(h:∀y∈scope.names,y.2=.free->∃c,env.cells.lookup y.1=some c):
  ∃f,closureFor scope env=pure f/\(∀y c,f.lookup y=some c->env.cells.lookup y=some c)/\(∀y∈scope.names,y.2=.free->f.lookup y.1=env.cells.lookup y.1):=by
 have w:∀(names:Xw (Xx×NameKind)) (i:Xw (Xx×Xp)),(∀y∈names,y.2=.free->∃c,env.cells.lookup y.1=some c)->(∀y c,i.lookup y=some c->env.cells.lookup y=some c)->
   ∃f,(forIn names i λx r=>match x with
    | (name,kind)=>if(kind==NameKind.free)=true then do
      let a <-cellOf env name
      pure (ForInStep.yield ((name,a)::r))
     else pure (ForInStep.yield r))=pure f/\(∀y c,f.lookup y=some c->env.cells.lookup y=some c)/\(∀y c,i.lookup y=some c->f.lookup y=some c)/\(∀y∈names,y.2=.free->f.lookup y.1=env.cells.lookup y.1):=by
  intro names
  induction names with
  |nil=>intro i _ o;exact⟨i,rfl,o,λ_ _ e=>e,λy g=>nomatch g⟩
  |cons x r D=>
   intro i B o;obtain⟨n,k⟩:=x;by_cases v:k=.free
   ·subst v
    obtain⟨c,p⟩:=B (n,.free) RD rfl;have A:cellOf env n=pure c:=by
     unfold cellOf;rw[show env.cells.lookup n=some c from p]
    have C:∀y d,((n,c)::i).lookup y=some d->env.cells.lookup y=some d:=λy d e=>by
     rw[VG]at e;cases q:y==n with
     |true=>rw[q]at e;cases e;rw[eq_of_beq q];exact p
     |false=>rw[q]at e;exact o y d e
    obtain⟨f,e,l,j,m⟩:=D ((n,c)::i) (λy g=>B y<|RK _ g) C;refine⟨f,?_,l,λy d q=>?_,λy g s=>?_⟩
    ·rw[forIn_cons]
     simp only[beq_self_eq_true,if_true,A];exact e
    ·cases z:y==n with
     |true=>
      have:y=n:=eq_of_beq z;subst this;have q1:=o y d q;rw[p]at q1;cases q1;exact j y c (by rw[VG,z])
     |false=>exact j y d (by rw[VG,z];exact q)
    ·obtain rfl|g:=Rq.mp g
     ·have:=j n c (by rw[VG,R4])
      rw[this,p]
     ·exact m y g s
   ·have E:(k==NameKind.free)=false:=by simpa using v
    obtain⟨f,e,l,j,m⟩:=D i (λy g=>B y<|RK _ g) o;refine⟨f,?_,l,j,λy g s=>?_⟩
    ·rw[forIn_cons]
     simp only[E,false_eq_true,if_false];exact e
    ·obtain rfl|g:=Rq.mp g
     ·exact absurd s v
     ·exact m y g s
 obtain⟨f,e,l,_,m⟩:=w scope.names [] h (λy c e=>by cases e);refine⟨f,?_,l,m⟩;simp only[closureFor];rw[show(forIn scope.names ([]:Xw (Xx×Xp)) _:Sem _)=pure f from e];rfl
theorem l7{env:Env}(g:env.scope.kind=.function):∀{names:Xw (Xx×NameKind)}{x:Xx},names.lookup x=some .free->env.kindOf x=some .cell->
  (names.map λ(n,k)=>if(k==NameKind.free&&env.scope.kind==.function&&env.kindOf n==some .cell) then(n,NameKind.cell) else(n,k)).lookup x=some .cell
 |[],_,h,_=>by simp at h
 | (n,k)::r,x,h,hc=>by
  have i:=@l7 env g r x;show List.lookup x ((if(k==NameKind.free&&env.scope.kind==.function&&env.kindOf n==some .cell)=true then(n,NameKind.cell) else(n,k))::_)=_;cases f:x==n with
  |true=>
   simp only[lookup_cons,f]at h;cases h;have e:x=n:=eq_of_beq f;subst e;rw[QR<|by simp[g,hc]];simp[lookup_cons]
  |false=>
   simp only[lookup_cons,f]at h;by_cases a:(k==NameKind.free&&env.scope.kind==.function&&env.kindOf n==some .cell)=true
   ·rw[QR a];simp only[lookup_cons,f];exact i h hc
   ·rw[QO a];simp only[lookup_cons,f];exact i h hc
def l0(h:(relabel scope env).names.lookup y=some k')(g:k'=.cell\/k'=.free)(a:∀z∈scope.names,z.2≠.cell):(y,NameKind.free)∈scope.names:=by
 obtain⟨⟨n,k⟩,f,e⟩:=Ru.mp<|SM h;dsimp only at e;split at e
 ·grind
 ·grind
def dq(X:Cx)(a:Xw Xx)(scope:Scope)(cl:Xw (Xx×Xp))(fp:Xw Xp)(s3:Xq)(e:Hp)(C:Xp):Cx:=
 { X with N:=a,s₀:=s3,H₀:=e,env:=compEnvC scope cl C X.env,outer:=X.stack,ex:=fp,fn:=λ_=>false,pn:=[],xe:=λ_ _=>False }
def d8(is:Xw Nat)(σ:St):St:=is.map λi=>(σ[i]?).join
def jY(J:It)(is:Xw Nat)(j:TE)(σ:St)(H1:Hp)(Q:VK):Prop:=∀D,H1 D=none->∃W:Nat->Nat->Xw V->Hp->Prop,(∃m,W 0 m []<|upd H1 D<|.lst [])/\
 ∀i m e a,W i m e a->a D=some (.lst e)/\((J.stop i a/\Q (.ref D) a)\/(J.go i a/\∀v h,J.yld i a v h->j (some v::d8 is σ) h λy f=>
  f D=some (.lst e)/\e.length<sizeLine/\∃g,g<m/\W (i+1) g (e++[y]) (upd f D<|.lst<|e++[y])))
def Qd(a:TI)(is:Xw Nat)(e:TE):TE:=λσ H Q=>a σ H λJ H1=>jY J is e σ H1 Q
structure N3(sc:Scope)(N:Xw Xx)(x:Xx)(scope:Scope)(is:Xw Nat)(ns:Xw Xx):Prop where
 kind:scope.kind=.function:=by rfl
 nocell:∀y∈scope.names,y.2≠.cell:=by decide+kernel
 names:∀y∈scope.names,y.2=.local->scope.names.lookup y.1=some .local:=by decide+kernel
 free:∀y∈scope.names,y.2=.free->sc.names.lookup y.1=some .cell:=by decide+kernel
 hx:scope.names.lookup x=some .local:=by rfl
 cap:ns.map some=is.map λi=>N[i]? :=by rfl
 nd:(x::ns).Nodup:=by decide+kernel
 capf:∀y∈ns,scope.names.lookup y=some .free/\sc.names.lookup y=some .cell:=by decide+kernel
section
variable {K:Frag}{σ:St}{H:Hp}{Q:VK}
def cH.upd{H:Hp}(h:H D=none):cH H (upd H D o):=λb u e=>by
 rw[cG<|cF e h];exact e
def J7{J:It}{xs:Xw V}(f:V->V)(hz:xs.length<=sizeLine)(x:∀i a,cH H a->i<xs.length->J.go i a)(s:∀a,cH H a->J.stop xs.length a)
  (w:∀i a v l,cH H a->i<xs.length->J.yld i a v l->l=a/\xs[i]? =some v)
  (he:∀v a p,v∈xs->cH H a->p (f v) a->te (some v::d8 is σ) a p)(q:∀D,H D=none->Q (.ref D) (upd H D<|.lst<|xs.map f)):jY J is te σ H Q:=by
 intro D o;refine⟨λi m n a=>m=xs.length-i/\i<=xs.length/\n=(xs.take i).map f/\a=upd H D (.lst n),⟨_,rfl,RQ _,by simp,rfl⟩,?_⟩;rintro i m n a ⟨rfl,z,h,rfl⟩;have j:cH H (upd H D<|.lst n):=cH.upd o;refine⟨cE,?_⟩;by_cases g:i<xs.length
 ·refine .inr ⟨x i _ j g,λv l y=>?_⟩
  obtain⟨rfl,r⟩:=w i _ v l j g y;refine he v _ _ (QN r) j ⟨cE,?_,xs.length-(i+1),by lia,rfl,g,?_,zE⟩
  ·rw[h,QM,RU]
   lia
  ·rw[h,RN,r,Sr]
   rfl
 ·have e:i=xs.length:=by lia
  subst e;refine .inl ⟨s _ j,?_⟩;rw[h,RX];exact q D o
def cH.Lw{xs:Xw V}(e:cH H H')(h:fe K H a xs):fe K H' a xs:=by
 obtain (h|⟨o,h⟩)|h:=h
 ·exact .inl<|.inl<|e _ _ h
 ·exact .inl<|.inr ⟨o,e _ _ h⟩
 ·exact .inr h
end
def signs(z:Xx):Xw V:=z.cps.toList.map λc=>V.str ⟨#[c]⟩
def signs_length(z:Xx):(signs z).length=z.cps.size:=by simp[signs]
def qJ(z:Xx):It:=⟨λi _=>i<z.cps.size,λi H x a=>a=H/\(signs z)[i]? =some x,λi _=>i=z.cps.size⟩
def CV{P:Xr}{w:Xs}{K:Frag}{tg:Expr}{ty:String}{z:Xx}{t:Tok}(it:Xp)(L:∀A:Xv,A.handled=none->Walks P w A it [it] [it] z.cps.size (SignAt z) λi h=>h.IsStrIter it ty z t i)
  (U:∀(A:Xv)(i:Nat)(s:Xq)(Q:Xy)(E:Xy),s.heap.IsStrIter it ty z t i->Q (.ref it) s->wpAny (model P w) A (pyIter<|.ref it) Q E s)
  (R:["enumerate","zip","dict_itemiterator","dict_reverseitemiterator","odict_iterator","itertools.zip_longest","itertools.pairwise"].contains ty=false):Turn P w K tg (qJ z) [it] it (λi h=>h.IsStrIter it ty z t i) where
 mem:=by simp
 obj:=λi h f b a=>by
  have e:b=it:=by simpa using a
  subst e;obtain⟨o,e,c,d⟩:=f;exact⟨o,e,λv z=>by rw[d]at z;cases z⟩
 keep:=λi h M f k=>by
  obtain⟨o,e,r⟩:=f;exact⟨o,k it (by simp) o e,r⟩
 item:=by
  intro X D y x G i W s σ H E I g f l;subst D y x;obtain⟨n,q,S,F,C,B⟩:=g it (by simp);refine(L X.A<|I.ok.hd G).item i s _ _ l f λv M O T J p=>?_;obtain⟨c,u,j,rfl⟩:=T;obtain⟨o,e,N,d⟩:=id J;refine⟨_,rfl,rK e N d R ⟨.str ⟨#[c]⟩,H,I.turned (λb o a e=>p b o (by simpa using a) e) n q F C B,⟨u,rfl⟩,⟨rfl,?_⟩,J,λb a=>(g b a).1⟩⟩;unfold signs;rw[QY,Rc,j];rfl
 done:=by
  intro X D y x G i W s σ H E I g f l;subst D y x;obtain⟨n,q,S,F,C,B⟩:=g it (by simp);have m:i=z.cps.size:=l;subst m;exact(L X.A<|I.ok.hd G).done s _ _ f λM O p=>⟨rfl,I.turned (λb o a e=>p b o (by simpa using a) e) n q F C B⟩
 self:=U
def Ph(a:TE):TI:=λσ H R=>a σ H λx H1=>∃z,x=.str z/\R (qJ z) H1
def LB{l:Expr}(G:PE X l tl):PI X tg l (Ph tl):=by
 intro C s σ H R I h;refine cX (G C s σ H _ I h) λv a g=>?_;obtain⟨x,H1,j,D,q1⟩:=g;obtain⟨z,e,q⟩:=q1;subst e;obtain⟨t,rfl⟩:=D;have f:∀(ty:String) (p:∀A:Xv,A.handled=none->Walks X.prog X.w A a.heap.objs.size [a.heap.objs.size] [a.heap.objs.size] z.cps.size (SignAt z) λi h=>h.IsStrIter a.heap.objs.size ty z t i)
   (B:∀(A:Xv) (i:Nat) (s:Xq) (Q:Xy) (E:Xy),s.heap.IsStrIter a.heap.objs.size ty z t i->Q (.ref a.heap.objs.size) s->wpAny (model X.prog X.w) A (pyIter<|.ref a.heap.objs.size) Q E s)
   (r:["enumerate","zip","dict_itemiterator","dict_reverseitemiterator","odict_iterator","itertools.zip_longest","itertools.pairwise"].contains ty=false),
   My X C σ tg R (.ref a.heap.objs.size) { a with heap:=a.heap.push { cls:=.type ty,data:=.fields #[.str z t,.int 0 0] } }:=λty p B r=>by
  refine⟨a.heap.objs.size,[a.heap.objs.size],_,_,H1,rfl,j.kept (t':=a.toks) λb o e=>QL _ e,CV _ p B r,⟨_,QX _ rfl,rfl,rfl⟩,λb F=>?_,q⟩;have e:b=a.heap.objs.size:=by simpa using F
  subst e;exact j.uj (QP _)<|j.hok.fresh<|QP _
 cases y:z.cps.all (· < 128)
 ·exact wpAny_pyIter_wide y (f "str_iterator" (λA m=>Walks.strWide m _ z t) (λA i s Q E n h=>wpAny_pyIter_striter_wide n h) (by decide))
 ·exact wpAny_pyIter_ascii y (f "str_ascii_iterator" (λA m=>Walks.strAscii m _ z t) (λA i s Q E n h=>wpAny_pyIter_striter_ascii n h) (by decide))
def LV{H:Hp}{Q:VK}(f:V->V)(hz:z.length<=sizeLine)(he:∀v a g,v∈signs z->cH H a->g (f v) a->te (some v::d8 is σ) a g)
  (q:∀D,H D=none->Q (.ref D) (upd H D<|.lst<|(signs z).map f)):jY (qJ z) is te σ H Q:=
 J7 f (by rw[signs_length];exact hz) (λi a _ e=>by rw[signs_length]at e;exact e) (λa _=>signs_length z) (λi a v h _ e y=>y) he q
theorem wZ:∀bs:Xw Bool,((List.range bs.length).all λi=>bs.getD i false)=bs.all id
 |[]=>rfl
 |b::r=>by
  rw[RG,U8,Wc,all_map,Wc,<-wZ r];rfl
def sQ(O:X.calm=true):eG X (.builtin "all") (λxs H Q=>∃(p:Xp) (bs:Xw Bool),xs=[.ref p]/\cN X.K H p (bs.map V.bl)/\Q (.bl<|bs.all id) H):=by
 intro y s σ H xs W Q I r h;obtain⟨p,bs,rfl,G,q⟩:=h;obtain⟨u,rfl,M⟩:=vals1 r;cases M;obtain⟨a,j,f,T⟩:=I.list G;have l:=j.length;rw[QM]at l;refine call_all_walk<|TX f.isList ?_;refine⟨s.heap.objs.size,[s.heap.objs.size,p],[s.heap.objs.size],a.toArray.size,_,_,λi=>bs.getD i false,rfl,V6 (show X.A.in1.handled=none from I.ok.hd O) s.heap.objs.size p (Rb (by obtain⟨o,n,e,_⟩:=f;exact Ri e)) a.toArray,
  ⟨⟨_,QX _ rfl,rfl,rfl⟩,?_⟩,λi v P U S w C=>?_,λE g F=>?_⟩
 ·obtain⟨o,e,r⟩:=f.isList
  exact⟨o,QL _ e,r⟩
 ·have m:i<bs.length:=by
   have:i<a.length:=by
    have:=(TM.mp w).1
    simpa using this
   lia
  have B:(bs.map V.bl)[i]? =some (V.bl bs[i]):=by simp[m]
  obtain⟨u,L,N⟩:=j.get B;have x:a[i]? =some v:=by simpa using w
  rw[L]at x;cases x;obtain rfl:v=Value.bool bs[i]:=N;refine RO ?_;have e:bs.getD i false=bs[i]:=by simp[List.getD,m]
  rw[<-e];exact C
 ·refine⟨.bl<|bs.all id,H,?_,?_,q⟩
  ·have R:Inv X y σ H { s with heap:=s.heap.push { cls:=.type "list_iterator",data:=.fields #[.ref p,.int 0 0] } }:=I.kept (t':=s.toks) λb o e=>QL _ e
   have J:Inv X y σ H { s with heap:=E,toks:=g }:=I.kept (t':=g) λb o e=>F b o (by
    intro z;have D:b=s.heap.objs.size:=by simpa using z
    exact absurd (Ri e)<|by rw[D];exact UD _)<|QL _ e
   exact J
  ·show Value.bool _=Value.bool _
   congr 1
   rw[Rw,<-l];exact wZ bs
inductive NL(K:Frag)(xs:Xw V)(H:Hp)(Q:VK):Prop
 |mk(x:V)(t:Xo)(n:String)(b:Bool)(e:xs=[x,.ty n])(ty:gN K H x t)(k:kitOne K t (.type n)=some b)(q:Q (.bl b) H)
def lK:eG X (.builtin "isinstance") (λxs H Q=>L2.NL X.K xs H Q):=by
 intro j s σ H xs i Q I r h;obtain⟨x,t,n,b,rfl,ty,e,q⟩:=h;obtain⟨u,c,rfl,a,f⟩:=vals2 r;obtain rfl:c=Value.type n:=f;exact By I a ty e λg=>⟨.bl b,H,I.tok _,rfl,q⟩
def sZ:jk X (compareOp .LtE) (λx y H Q=>∃i j,x=.str i/\y=.str j/\Q (.bl<|!decide (j.cps.toList<i.cps.toList)) H):=by
 intro g s σ H x y v u Q I a e h;obtain⟨i,j,rfl,rfl,q⟩:=h;obtain⟨t,rfl⟩:=a;obtain⟨f,rfl⟩:=e;exact PySem.P.le_str ⟨.bl _,H,I,rfl,q⟩
def mN(z:Xx)(lo a:Xu Int):Xx:=⟨((z.cps.toList.drop<|HT.ik z.length 0 lo).take<|HT.ik z.length z.length a-HT.ik z.length 0 lo).toArray⟩
def jG(z:Xx)(lo a:Xu Int):(mN z lo a).length<=z.length:=by
 show(((z.cps.toList.drop _).take _).toArray).size<=z.cps.size;rw[Rw,RU,Sy,QZ];exact Rn (VX _ _)<|sub_le _ _
def Jt(v:Int)(n d:Nat):max 0 (min (if v<0 then v+(n:Int) else v) (n:Int))=((HT.ik n d (some v):Nat):Int):=DI v n d
def picked_eq(z:Xx)(lo a:Xu (Int×Tok)):slicePicked z lo a none=(List.range<|HT.ik z.length z.length (a.map (·.1))-HT.ik z.length 0 (lo.map (·.1))).map (HT.ik z.length 0 (lo.map (·.1))+·):=by
 unfold slicePicked Builtin.Str.strSliceIndices;simp only[Option.map_none,getD_none,show(1:Int) > 0 by decide,if_true];rw[<-sliceRange_one]
 congr 1
 ·cases lo with
  |none=>rfl
  |some p=>exact Jt p.1 z.length 0
 ·cases a with
  |none=>rfl
  |some p=>exact Jt p.1 z.length z.length
inductive OV(x:V)(lo a:Xu Int)(H:Hp)(Q:VK):Prop
 |mk(z:Xx)(e:x=.str z)(b:z.length<=sizeLine)(q:Q (.str (mN z lo a)) H)
def Nw:V->Xu Int->Xu Int->Hp->VK->Prop:=λx a e H Q=>OV x a e H Q
def tJ:Ow X Nw:=by
 intro J s σ H x v E D G F sl Q I w y n r h;obtain⟨z,rfl,m,q⟩:=h;obtain⟨t,rfl⟩:=w;have part:∀{u:Xo}{o:Xu Int},IsPart u o->∃p:Xu (Int×Tok),u=partValue p/\o=p.map (·.1):=λ{u o} p=>by
  cases p with
  |none=>exact⟨none,rfl,rfl⟩
  |int i t=>exact⟨some (i,t),rfl,rfl⟩
 obtain⟨l,rfl,rfl⟩:=part n;obtain⟨u,rfl,rfl⟩:=part r;refine⟨"str",_,slot_str_getitem.lookup,typeIs_str s z t,?_⟩;refine wpAny_getItem_str_slice (st:=none) y rfl ?_;unfold sliceMade;have a:(⟨((slicePicked z l u none).filterMap (z.cps[·]?)).toArray⟩:Xx)=mN z (l.map (·.1)) (u.map (·.1)):=by
  rw[picked_eq];unfold mN
  congr 2
  exact pick_run z.cps _ _
 split
 ·rename_i c
  rw[R6]at c;have f:=eq_of_beq c.2;rw[picked_eq,QM,SI]at f;have C:HT.ik z.length z.length (u.map (·.1))<=z.length:=HT.Kz _ _ (QP _) _;have B:mN z (l.map (·.1)) (u.map (·.1))=z:=by
   unfold mN;by_cases g:z.length=0
   ·have e:z.cps.toList=[]:=by
     have:z.cps.size=0:=g;exact Rm (by simpa using this)
    rw[e];simp only[List.drop_nil,List.take_nil];obtain⟨j⟩:=z
    congr 1
    exact(Array.toList_eq_nil_iff.mp e).symm
   ·have A:HT.ik z.length 0 (l.map (·.1))=0:=by lia
    rw[f,A];rw[Uj,Se<|by simp[Str.length]]
  exact⟨.str _,H,I,⟨t,by rw[B]⟩,q⟩
 ·refine⟨?_,.str _,H,I.tok _,⟨_,by rw[a]⟩,q⟩
  rw[a];exact Rn (jG _ _ _) m
def Inv.Pb(I:Inv X XC σ H s):sysModules<s.heap.objs.size:=by
 exact Vy (by decide)<|(I.mod.glob.keeps I.bk).lt
def GC(h:Heap)(a:sysModules<h.objs.size):cV P w H (h.push { cls:=.type "dict",data:=.dict #[] }) h.objs.size (.dK []):=
 ⟨RQ _,R9.mpr<|To<|Rb a,[],.nil,WH h⟩
def IU:TE:=λ_ H Q=>∀p,H p=none->Q (.ref p) (upd H p<|.dK [])
def kj:PE X (.Dict [] [] pos) IU:=λa s σ H Q I h=>
 Wo ⟨.ref s.heap.objs.size,_,I.laid (t':=s.toks) (λ_ _ q=>QL _ q) (QP _)<|GC s.heap I.Pb,rfl,h _<|I.hok.fresh<|QP _⟩
structure Df(K:Frag)(mg:XB)(x:Xx)(st:Stmt)(ps:Xw Xx)(f:Xp)(fd:FuncData):Prop where
 fn:qT K x x st f fd
 nm:mg x=some (.ref f)
 bi:Binds K fd ps []
def tys:Xw String:=["NoneType","bool","int","str","list","tuple","dict"]
def DJ(T n:String):Bool:=T==n||(T == "bool" && n == "int")
def fI {K:Frag}(e:T∈tys) (a:n∈["int","bool","str","list","tuple"]):kitOne K (.type T) (.type n)=some (DJ T n):=by
 simp only[tys,mem_cons,not_mem_nil,or_false]at e a;rcases e with rfl|rfl|rfl|rfl|rfl|rfl|rfl<;>rcases a with rfl|rfl|rfl|rfl|rfl<;>rfl
section
variable {K:Frag}{x:V}{T:String}
def ty_int (ty:gN K H x (.type "int")):∃i,x=.int i:=by
 generalize h:Value.type "int" =t at ty;cases ty<;>first|exact⟨_,rfl⟩| (injection h with h';exact absurd h'<|by decide)|cases h
def ty_str (ty:gN K H x (.type "str")):∃z,x=.str z:=by
 generalize h:Value.type "str" =t at ty;cases ty<;>first|exact⟨_,rfl⟩| (injection h with h';exact absurd h'<|by decide)|cases h
def B3(ty:gN K H (.int i) (.type T)):T= "int" :=by
 generalize h:Value.type T=t at ty;cases ty;injection h
def Ci(ty:gN K H (.str z) (.type T)):T= "str" :=by
 generalize h:Value.type T=t at ty;cases ty;injection h
end
def c9:bootBuiltins "isinstance" =some (.builtin "isinstance"):=by decide+kernel
def DL:bootBuiltins "int" =some (.type "int"):=by decide+kernel
def Gw:bootBuiltins "bool" =some (.type "bool"):=by decide+kernel
def yf:bootBuiltins "str" =some (.type "str"):=by decide+kernel
def mw:bootBuiltins "all" =some (.builtin "all"):=by decide+kernel
def dh:bootBuiltins "len" =some (.builtin "len"):=by decide+kernel
def eC:bootBuiltins "list" =some (.type "list"):=by decide+kernel
def p8:bootBuiltins "tuple" =some (.type "tuple"):=by decide+kernel
def notStar(e:Expr):Bool:=match e with
 |.Starred _ _=>false
 |_=>true
def cU{rest:Xw Expr}{env:Env}(h:notStar e=true):starEach (e::rest) env=(false,eval e env)::starEach rest env:=by
 cases e<;>first|rfl|cases h
theorem gA{env:Env}{pos:Pos}:∀{es:Xw Expr},es.all notStar=true->(backTo pos<|starEach es env).any (·.1)=false
 |[],_=>rfl
 |e::es,h=>by
  rw[Wc,R6]at h;rw[cU h.1];exact gA h.2
def OH(a:PE X e te)(hr:PA X es t)(h:notStar e=true:=by rfl):PA X (e::es) (dF te t):=fH a hr<|cU h
def gY(e:Expr):Bool:=match e with
 |.ListComp .. =>true
 |.SetComp .. =>true
 |.DictComp .. =>true
 |_=>false
def jz(h:gY e=false):swapsWith e tg n env=pure false:=by
 cases e<;>first|rfl|cases h
def Hl(h:PE X (.Call f as kw p) t):PT X (.Call f as kw p) (tB t):=yK h λ_=>rfl
def NU:dS (.BinOp l op r p):=λ_ _=>rfl
def Gk:dS (.Name x p):=λ_ _=>rfl
def LW:dS (.Constant c k p):=λ_ _=>rfl
def kP(h:op'≠.In:=by decide)(a:op'≠.NotIn:=by decide):lastMarks [op,op'] [b,c]=false:=by
 have e:lastMarks [op,op'] [b,c]=behindInMarks op' c:=by rfl
 rw[e];exact cL c h a
def NB(he:PE X e te)(h:gY e=false:=by rfl):PS X (.Expr e p) (Ek te):=GP he<|jz h
structure Slot(X:Cx)(i:Nat)(x:Xx):Prop where
 hN:X.N[i]? =some x
 lc:Loc X.env.scope x
 fn:X.fn x=true\/X.env.scope.names.lookup x=some .local
 db:(x==("__debug__" :Xx))=false
 cd:(x==("__classdict__" :Xx))=false
structure Bt(X:Cx)(x:Xx):Prop where
 gl:Gl X x
 nm:X.mg x=none
 hn:x≠ "__name__"
 db:(x==("__debug__" :Xx))=false
structure Kj(X:Cx)(x:Xx)(sp:Sp):Prop where
 ex:∃(k:Nat) (f:Xp) (fd:FuncData) (ps:Xw Xx),fg X.prog X.w X.K X.mg X.base oE k f fd ps sp/\dO k X.A/\X.mg x=some (.ref f)/\keepIn X.K (.ref f)=true/\Binds X.K fd ps []
 gl:Gl X x
 db:(x==("__debug__" :Xx))=false
def Slot.rd(S:Slot X i x):PE X (.Name x p) (jd i):=mV S.hN (S.lc.elim .inl λh=>.inr<|.inl h) S.db S.cd
def Slot.set(S:Slot X i x)(nd:X.N.Nodup)(he:PE X e te)(h:gY e=false:=by rfl):PS X (.Assign [.Name x XU] e pos) (vP te<|eR i):=LM nd S.hN S.lc he (jz h) S.fn
def Slot.tg(S:Slot X i x)(nd:X.N.Nodup):PG X (.Name x p) (eR i):=o8 nd S.hN S.lc S.fn
def Bt.call{id:String}(B:Bt X x)(i:eG X (.builtin id) r)(a:bootBuiltins x=some (.builtin id))(f:PA X (e::es) t)(h:notStar e=true:=by rfl)
  (g:es.all notStar=true:=by rfl):PE X (.Call (.Name x p) (e::es) [] pos) (Ma r t):=iC i B.gl B.nm a f B.hn B.db (cU h)<|gA g
def Bt.Nx(B:Bt X x)(i:eG X (.type T) r)(a:bootBuiltins x=some (.type T))(f:PA X (e::es) t)(h:notStar e=true:=by rfl)
  (g:es.all notStar=true:=by rfl):PE X (.Call (.Name x p) (e::es) [] pos) (Ma r t):=Cd i B.gl B.nm a f B.hn B.db (cU h)<|gA g
def Bt.ty(B:Bt X x)(a:bootBuiltins x=some (.type n)):PE X (.Name x p) (tC<|.ty n):=oS (v:=.ty n) B.gl B.nm a rfl B.hn B.db
def Kj.call(C:Kj X x sp)(i:PA X (e::es) t)(l:notStar e=true:=by rfl)
  (j:es.all notStar=true:=by rfl):PE X (.Call (.Name x p) (e::es) [] pos) (pY sp [] E0 t):=by
 obtain⟨k,f,m,n,G,hr,g,a,h⟩:=C.ex;exact zJ G hr C.gl g a h .nil Af i C.db (cU l)<|gA j
end L2
open L2
namespace J
structure JE(X:Cx)(e:Expr)(t:TE):Prop where
 out:PE X e t
structure JT(X:Cx)(e:Expr)(t:TT):Prop where
 out:PT X e t
structure JW(X:Cx)(e:Expr)(t:TT):Prop where
 out:PW X e t
structure JA(X:Cx)(es:Xw Expr)(t:TA):Prop where
 out:PA X es t
structure JS(X:Cx)(st:Stmt)(t:TS):Prop where
 out:PS X st t
structure x9(X:Cx)(st:Xw Stmt)(t:TS):Prop where
 out:yT X st t
structure JG(X:Cx)(tg:Expr)(g:TG):Prop where
 out:PG X tg g
structure MC(X:Cx)(ts:Xw Expr)(g:wR):Prop where
 out:MK X ts g
structure JI(X:Cx)(tg it:Expr)(wi:TI):Prop where
 out:PI X tg it wi
structure JO(X:Cx)(e:Xu Expr)(t:TO):Prop where
 out:PO X e t
structure JB(X:Cx)(op:Operator)(r:R2):Prop where
 out:jk X (binaryOp op) r
structure JC(X:Cx)(op:CmpOp)(r:R2):Prop where
 out:jk X (compareOp op) r
structure JU(X:Cx)(op:UnaryOp)(r:V->Hp->VK->Prop):Prop where
 out:OC X (unaryOp op) r
structure JF(X:Cx)(f:Xo)(r:Xw V->Hp->VK->Prop):Prop where
 out:eG X f r
structure JX(X:Cx)(r:R2):Prop where
 out:Mf X r
structure JL(X:Cx)(r:V->Xu Int->Xu Int->Hp->VK->Prop):Prop where
 out:Ow X r
structure dS(b:Expr):Prop where
 out:L2.dS b
section
variable {r':R2}{u:TS}{v:TS}{st:Stmt}{sts:Xw Stmt}{tg:Expr}
def _root_.bA:JB X .Add (Cv λi j=>.int<|i+j):=⟨KH⟩
def _root_.bI:JB X .Mult (rI Hf λi j=>.int<|i*j):=⟨JD⟩
def _root_.bJ:JB X .FloorDiv (rI MU λi j=>.int<|i / j):=⟨HN⟩
def _root_.aX:JB X .Mod (rI (λ_ j=>0<j) λi j=>.int<|i%j):=⟨JY⟩
def nG:JB X .Pow (rI Nb λi j=>.int<|i^j.toNat):=⟨L2.nG⟩
def iU:JB X .Add (λx y H Q=>∃i j,x=.str i/\y=.str j/\i.length+j.length<=sizeLine/\Q (.str<|i++j) H):=⟨L2.iU⟩
def xX:JU X .USub (rU λi=>.int<|-i):=⟨L2.xX⟩
def _root_.aO:JC X .Eq Qb:=⟨IL⟩
def _root_.b9:JC X .NotEq Qa:=⟨Jp⟩
def _root_.bW:JC X .Lt (Cv λi j=>.bl<|decide<|i<j):=⟨NS⟩
def _root_.bG:JC X .LtE (Cv λi j=>.bl<|decide<|i<=j):=⟨vx⟩
def _root_.bR:JC X .Gt (Cv λi j=>.bl<|decide<|j<i):=⟨Ng⟩
def Ec:JC X .GtE (Cv λi j=>.bl<|decide<|j<=i):=⟨L2.Ec⟩
def pf:JC X .Is (λx y H Q=>y=.non/\Q (.bl<|decide<|x=.non) H):=⟨L2.pf⟩
def oQ:JC X .IsNot (λx y H Q=>y=.non/\Q (.bl<|!decide (x=.non)) H):=⟨L2.oQ⟩
def iA:JC X .In (Nt X.K false):=⟨L2.iA⟩
def gb:JC X .NotIn (Nt X.K true):=⟨L2.gb⟩
def _root_.aY:JF X (.builtin "len") (λxs H Q=>Mb X.K xs H Q):=⟨ug⟩
def gf:JF X (.builtin "len") (λxs H Q=>∃z,xs=[.str z]/\z.length<=sizeLine/\Q (.int z.length) H):=⟨L2.gf⟩
def _root_.bD:JF X (.type "list") (λxs H Q=>∃p ys,xs=[.ref p]/\(cN X.K H p ys\/fe X.K H p ys)/\∀l,H l=none->Q (.ref l) (upd H l<|.lst ys)):=⟨vj⟩
def _root_.bZ:JF X (.builtin "isinstance") (λxs H Q=>NL X.K xs H Q):=⟨lK⟩
def _root_.cu(a:X.calm=true):JF X (.builtin "all") (λxs H Q=>∃(p:Xp) (bs:Xw Bool),xs=[.ref p]/\cN X.K H p (bs.map V.bl)/\Q (.bl<|bs.all id) H):=⟨sQ a⟩
def m9:JF X (.type "int") (λxs H Q=>(∃i,xs=[.int i]/\Q (.int i) H)\/∃k,xs=[.bl k]/\Q (.int<|if k then 1 else 0) H):=⟨L2.m9⟩
def mZ(a:X.calm=true):JF X (.builtin "max") (λxs H Q=>∃i j,xs=[.int i,.int j]/\Q (.int<|if j > i then j else i) H):=⟨L2.mZ a⟩
def gr(a:X.calm=true):JF X (.builtin "min") (λxs H Q=>∃i j,xs=[.int i,.int j]/\Q (.int<|if j<i then j else i) H):=⟨L2.gr a⟩
def _root_.aU:JX X (Ld X.K):=⟨zU⟩
def _root_.aE:JX X (Jx X.K):=⟨Ep⟩
def yk:JX X Mt:=⟨L2.yk⟩
def _root_.bP{l r:Expr}:dS (.BinOp l op r p):=⟨NU⟩
def _root_.aR:dS (.Name x p):=⟨Gk⟩
def _root_.ah{c:Const}:dS (.Constant c k p):=⟨LW⟩
def _root_.cw:JL X (Nh X.K):=⟨FO⟩
def tJ:JL X Nw:=⟨L2.tJ⟩
def _root_.bX:JO X none AB:=⟨Gs⟩
def _root_.bV(h:JE X e te):JO X (some e) (IF te):=⟨GR h.out⟩
def _root_.ae{i j pos}:JE X (.Constant (.int i) j pos) (tC<|.int i):=⟨nN⟩
def _root_.bj{b j pos}:JE X (.Constant (.bool b) j pos) (tC<|.bl b):=⟨I0⟩
def _root_.bL{j pos}:JE X (.Constant .none j pos) (tC .non):=⟨Lb⟩
def _root_.ao{x j pos}:JE X (.Constant (.str x) j pos) (tC<|.str x):=⟨yi⟩
def _root_.aD(f:JB X op r)(e:JE X a ta)(g:JE X b tb):JE X (.BinOp a op b pos) (Fm r ta tb):=⟨Ip f.out e.out g.out⟩
def EM{r:V->Hp->VK->Prop}(f:JU X op r)(e:JE X a ta):JE X (.UnaryOp op a pos) (Qf r ta):=⟨L2.EM f.out e.out⟩
def _root_.ai(hr:JX X r)(f:JE X a ta)(g:JE X b tb)(e:dS b):JE X (.Subscript a b pos) (Fm r ta tb):=⟨Ni hr.out f.out g.out e.out⟩
def _root_.bT{r:V->Xu Int->Xu Int->Hp->VK->Prop}{lo g:Xu Expr}{a f:TO}(hr:JL X r)(he:JE X e te)(h:JO X lo a)(i:JO X g f):JE X (.Subscript e (.Slice lo g none p2) pos) (Qe r te a f):=⟨D6 hr.out he.out h.out i.out⟩
def _root_.ba(f:JC X op r)(e:JE X a ta)(g:JE X b tb)(hm:behindInMarks op b=false):JE X (.Compare a [op] [b] pos) (Fm r ta tb):=⟨Au f.out e.out g.out hm⟩
def _root_.aF(f:JC X op r)(e:JE X a ta)(g:JE X b tb)(hm:behindInMarks op b=false):JT X (.Compare a [op] [b] pos) (zW<|Fm r ta tb):=⟨Gn f.out e.out g.out hm⟩
def jT(e:JC X op r)(g:JC X op' r')(f:JE X a ta)(h:JE X b tb)(i:JE X c tc)(hm:lastMarks [op,op'] [b,c]=false):JE X (.Compare a [op,op'] [b,c] pos) (tW r r' ta tb tc):=⟨L2.jT e.out g.out f.out h.out i.out hm⟩
def jW(e:JC X op r)(g:JC X op' r')(f:JE X a ta)(h:JE X b tb)(i:JE X c tc)(hm:lastMarks [op,op'] [b,c]=false):JT X (.Compare a [op,op'] [b,c] pos) (zW<|tW r r' ta tb tc):=⟨L2.jW e.out g.out f.out h.out i.out hm⟩
def _root_.b6:behindInMarks op (.Name x p)=false:=rfl
def Du:behindInMarks op (.Tuple es k p)=false:=rfl
def _root_.a8{op}(h:JE X a te):JE X (.BoolOp op [a] pos) te:=⟨uf h.out⟩
def _root_.aV(e:JE X a ta)(f:JE X (.BoolOp .And (b::es) pos) tb):JE X (.BoolOp .And (a::b::es) pos) (IB ta tb):=⟨tI e.out f.out⟩
def Ak(e:JE X a ta)(f:JE X (.BoolOp .Or (b::es) pos) tb):JE X (.BoolOp .Or (a::b::es) pos) (Hh ta tb):=⟨L2.Ak e.out f.out⟩
def _root_.bq(e:JT X a tA):JW X (.BoolOp .And [a] pos) tA:=⟨GU e.out⟩
def _root_.b5(e:JT X a tA):JW X (.BoolOp .Or [a] pos) tA:=⟨DU e.out⟩
def _root_.bg(e:JT X a tA)(f:JW X (.BoolOp .And (b::es) pos) tB'):JW X (.BoolOp .And (a::b::es) pos) (Jv tA tB'):=⟨KA e.out f.out⟩
def _root_.bS(e:JT X a tA)(f:JW X (.BoolOp .Or (b::es) pos) tB'):JW X (.BoolOp .Or (a::b::es) pos) (PR tA tB'):=⟨Jc e.out f.out⟩
def _root_.a7(h:JW X e tA):JT X e tA:=⟨h.out.pt⟩
def _root_.bu(e:JT X a tA):JT X (.UnaryOp .Not a pos) (N7 tA):=⟨xP e.out⟩
def _root_.bh(h:JE X (.Call f as kw p) te):JT X (.Call f as kw p) (tB te):=⟨Hl h.out⟩
def _root_.bz:JA X [] kU:=⟨kZ⟩
def _root_.bK(a:JE X e te)(hr:JA X es t)(h:notStar e=true:=by rfl):JA X (e::es) (dF te t):=⟨OH a.out hr.out h⟩
def _root_.aj(a:JE X e te)(i:notStar e=true:=by rfl):JA X [e] (dF te kU):=bK a bz i
def _root_.aB{a:Expr}{f:TE}(i:JE X e te)(a1:JE X a f)(h:notStar e=true:=by rfl)(g:notStar a=true:=by rfl):JA X [e,a] (dF te<|dF f kU):=bK i (aj a1 g) h
def _root_.aP{f a:Expr}{h g:TE}(l:JE X e te)(a1:JE X f h)(a2:JE X a g)(i:notStar e=true:=by rfl)(j:notStar f=true:=by rfl)(m:notStar a=true:=by rfl):JA X [e,f,a] (dF te<|dF h<|dF g kU):=bK l (aB a1 a2 j m) i
def _root_.bQ{g a f:Expr}{j h i:TE}(n:JE X e te)(a1:JE X g j)(a2:JE X a h)(q:JE X f i)(l:notStar e=true:=by rfl)(m:notStar g=true:=by rfl)(p:notStar a=true:=by rfl)(o:notStar f=true:=by rfl):JA X [e,g,a,f] (dF te<|dF j<|dF h<|dF i kU):=bK n (aP a1 a2 q m p o) l
def _root_.b7{a f g h:Expr}{m j l i:TE}(q:JE X e te)(a1:JE X a m)(a2:JE X f j)(w:JE X g l)(n:JE X h i)(p:notStar e=true:=by rfl)(o:notStar a=true:=by rfl)(v:notStar f=true:=by rfl)(r:notStar g=true:=by rfl)(s:notStar h=true:=by rfl):JA X [e,a,f,g,h] (dF te<|dF m<|dF j<|dF l<|dF i kU):=bK q (bQ a1 a2 w n o v r s) p
def _root_.a5(h:JA X es t):JE X (.List es pos) (FA t):=⟨LK h.out⟩
def _root_.aL{k}(h:JA X es t):JE X (.Tuple es k pos) (Ny t):=⟨J2 h.out⟩
def kj:JE X (.Dict [] [] pos) IU:=⟨L2.kj⟩
def oY {v:V}{u:Xo}(a:Gl X x) (hm:X.mg x=some u) (r:RelV v u) (hd:(x==("__debug__" :Xx))=false):JE X (.Name x pos) (tC v):=⟨L2.oY a hm r hd⟩
def _root_.aQ(h:JE X e te):JI X tg e (IW X.K te):=⟨GI h.out⟩
def x5(h:JE X e te):JI X tg e (Om X.K te):=⟨L2.x5 h.out⟩
def _root_.aI:x9 X [] zQ:=⟨zA⟩
def _root_.af(a:JS X st u)(e:x9 X sts v):x9 X (st::sts) (Bm u v):=⟨vC a.out e.out⟩
def _root_.ag(a:JS X st u):x9 X [st] u:=⟨lO a.out⟩
def _root_.cB:x9 X sts CY:=⟨Cq⟩
def _root_.aw(h:JE X e te):JS X (.Return (some e) pos) (GH te):=⟨pW h.out⟩
def _root_.br(h:JE X e te)(a:gY e=false:=by rfl):JS X (.Expr e pos) (Ek te):=⟨NB h.out a⟩
def _root_.aH{a:TT}(e:JT X c a)(g:x9 X x u)(f:x9 X y v):JS X (.If c x y pos) (HP a u v):=⟨Jo e.out g.out f.out⟩
def _root_.aZ{g:TG}{tb:TS}(a:PassesOwn (model X.prog X.w) X.A X.env X.xe)(i:X.calm=true)(j:JI X tg it wi)(h:JG X tg g)(e:x9 X body tb)
  (f:∀x,foldedSetIterable it X.env x=pure x:=by intro _;rfl):JS X (.For tg it body [] pos) (NQ wi g tb):=⟨KL a i j.out h.out e.out f⟩
end
def _root_.aa(S:L2.Slot X i x):JE X (.Name x p) (jd i):=⟨S.rd⟩
def _root_.au(S:L2.Slot X i x)(nd:X.N.Nodup)(he:JE X e te)(h:gY e=false:=by rfl):JS X (.Assign [.Name x XU] e pos) (vP te<|eR i):=⟨S.set nd he.out h⟩
def _root_.aN(S:L2.Slot X i x)(nd:X.N.Nodup):JG X (.Name x p) (eR i):=⟨S.tg nd⟩
def _root_.aJ{id:String}(B:Bt X x)(i:JF X (.builtin id) r)(a:bootBuiltins x=some (.builtin id))(f:JA X (e::es) t)(h:notStar e=true:=by rfl)(g:es.all notStar=true:=by rfl):
  JE X (.Call (.Name x p) (e::es) [] pos) (Ma r t):=⟨B.call i.out a f.out h g⟩
def _root_.bo(B:Bt X x)(i:JF X (.type T) r)(a:bootBuiltins x=some (.type T))(f:JA X (e::es) t)(h:notStar e=true:=by rfl)(g:es.all notStar=true:=by rfl):
  JE X (.Call (.Name x p) (e::es) [] pos) (Ma r t):=⟨B.Nx i.out a f.out h g⟩
def ty(B:Bt X x)(a:bootBuiltins x=some (.type n)):JE X (.Name x p) (tC<|.ty n):=⟨B.ty a⟩
def _root_.ak(C:Kj X x sp)(f:JA X (e::es) t)(a:notStar e=true:=by rfl)(g:es.all notStar=true:=by rfl):JE X (.Call (.Name x p) (e::es) [] pos) (pY sp [] E0 t):=⟨C.call f.out a g⟩
def _root_.b8 (B:Bt X "range") (a:JA X [e] t) (h:notStar e=true:=by rfl):JI X tg (.Call (.Name "range" p) [e] [] pos) (Iu t):=⟨Cu B.gl B.nm a.out<|cU h⟩
def NC{w:Xs}{K:Frag}{e:XB}{base:Heap}{x g:Xx}{st:Stmt}{f:Xp}{fd:FuncData}{N ps:Xw Xx}{k:Nat}{sp:Sp}(F:qT K x g st f fd)(S:cK N ps (cI st))(len:∀vs H Q E,sp vs H Q E->vs.length=ps.length)
  (j:∀(X:Cx)(a:Xo)(A:Xv)(outer:Xw Env)(s:Xq)(H:Hp)(vs:Xw V)(Q:VK)(E:XK),X=(BF oE P w K e base N g (cI st) f a A outer s H E).Mz->dO k X.A->sp vs H Q E->
   ∃t,x9 X (df st) t/\t { nx:=λ_ H'=>Q .non H',rt:=Q } (L2.start N vs) H):fg P w K e base oE (k+1) f fd ps sp:=by
 refine F.ok S len λa A outer s H vs Q E hr h=>?_;obtain⟨t,l,i⟩:=j _ a A outer s H vs Q E rfl hr h;exact⟨t,l.out,i⟩
end J
namespace L2
def Inv.rX{i:XA}{σ:St}{H:Hp}{s:Xq}{g:Heap}{t':Nat}{fp:Xw Xp}{T:Xp}{o:HO}(I:Inv X i σ H s)(hf:∀b∈fp,nR X i H b)
  (k:∀b u,b ∉ fp->s.heap.get? b=some u->g.get? b=some u)(j:s.heap.objs.size<=T)(C:∀b∈fp,∃u,s.heap.get? b=some u)(new:cV X.prog X.w (upd H T o) g T o):Inv X i σ (upd H T o) { s with heap:=g,toks:=t' }:=by
 have h:=I.hok.fresh j;have Hj:∀b u,H b=some u->b ∉ fp:=λb u e z=>by rw[(hf b z).1]at e;cases e
 refine I.step (g':=s.gens) (d':=s.drawn) (λb f=>⟨(hf b f).2.2.2.1,(hf b f).2.1,(hf b f).2.2.2.2.1,(hf b f).2.2.2.2.2⟩) (λb u _ _ a e _=>k b u a e) (λb u _ _ a e _=>⟨u.slots,k b u a e⟩) (λb u _ e n=>?_)
  (λb u a e=>⟨u,k b u a e⟩) (λb l e=>?_) (λb u l e=>?_) (λb B e=>⟨#[],?_⟩) (λm y=>?_) (λb u e=>?_) I.bare
 ·rw[cG<|Rb<|Rp (Ri e) j]
  exact n
 ·rw[cG<|cF e h]
  exact e
 ·rw[cG<|cF e h]
  exact e
 ·rw[cG<|cF e h,e]
  simp
 ·obtain⟨ob,x,A,p,r⟩:=y
  exact⟨ob,x,A,k _ ob (λz=>(hf _ z).2.1 rfl) p,r⟩
 ·by_cases f:b=T
  ·subst f
   rw[cE]at e;cases e;exact new
  ·rw[cG f]at e
   refine(I.hok b u e).gH (λc v a q=>k c v ?_ q) (λc q=>by rw[cG<|cF q h];exact q) λc l q=>by rw[cG<|cF q h];exact q
   obtain rfl|a:=a
   ·exact Hj c u e
   ·exact Hj c _ a
def Inv.m8{t':Nat}{fp:Xw Xp}(I:Inv X XC σ H s)(hf:∀b∈fp,nR X XC H b)
  (k:∀b u,b ∉ fp->s.heap.get? b=some u->g.get? b=some u):Inv X XC σ H { s with heap:=g,toks:=t' }:=by
 have Hj:∀b u,H b=some u->b ∉ fp:=λb u e z=>by rw[(hf b z).1]at e;cases e
 refine I.step (g':=s.gens) (d':=s.drawn) (λb f=>⟨(hf b f).2.2.2.1,(hf b f).2.1,(hf b f).2.2.2.2.1,(hf b f).2.2.2.2.2⟩) (λb u _ _ a e _=>k b u a e) (λb u _ _ a e _=>⟨u.slots,k b u a e⟩) (λ_ _ _ _ n=>n)
  (λb u a e=>⟨u,k b u a e⟩) (λ_ _ e=>e) (λ_ _ _ e=>e) (λb o e=>⟨#[],by rw[e];simp⟩) (λm j=>?_) (λb u e=>?_) I.bare
 ·obtain⟨ob,i,l,h,r⟩:=j
  exact⟨ob,i,l,k _ ob (λz=>(hf _ z).2.1 rfl) h,r⟩
 ·refine(I.hok b u e).gH (λc v a q=>k c v ?_ q) (λ_ q=>q) λ_ _ q=>q
  obtain rfl|a:=a
  ·exact Hj c u e
  ·exact Hj c _ a
def Pc(q:Bool)(K:Frag)(H:Hp)(a:Xp)(xs:Xw V):Prop:=match q with
 |true=>cN K H a xs
 |false=>fe K H a xs
def JQ(q:Bool)(h:Heap)(it a:Xp)(i:Nat):Prop:=match q with
 |true=>h.IsListIter it a i
 |false=>h.IsTupleIter it a i
def we(p:JQ q h it a i):∃o,h.get? it=some o/\∀v,o.data≠.cell v:=by
 cases q with
 |true=>obtain⟨o,e,c,d⟩:=p;exact⟨o,e,λv z=>by rw[d]at z;cases z⟩
 |false=>obtain⟨o,e,c,d⟩:=p;exact⟨o,e,λv z=>by rw[d]at z;cases z⟩
def Bf{i:Nat}(p:JQ q h it a i)(k:∀o,h.get? it=some o->g.get? it=some o):JQ q g it a i:=by
 cases q with
 |true=>obtain⟨o,e,r⟩:=p;exact⟨o,k o e,r⟩
 |false=>obtain⟨o,e,r⟩:=p;exact⟨o,k o e,r⟩
def Py(n b:Nat)(h:b∈[n+1,n]):n<=b:=by grind
def uu:bootBuiltins "enumerate" =some (.type "enumerate"):=by decide+kernel
def Ht(I:Inv X XC σ H s)(h:Pc q X.K H a xs):a<s.heap.objs.size:=by
 cases q with
 |true=>obtain⟨f,r,⟨o,n,e,_⟩,z⟩:=I.list h;exact Ri e
 |false=>obtain⟨f,r,⟨o,e,_⟩,z⟩:=I.tuple h;exact Ri e
def L8(K:Frag)(a:Xp):It:=
 ⟨λi H=>∃e x,cN K H a e/\e[i]? =some x,λi H v f=>∃p x,H p=none/\v=.ref p/\f=upd H p (.tup [.int i,x])/\∀e,cN K H a e->e[i]? =some x,λi H=>∃e,cN K H a e/\e.length=i⟩
def BY{P:Xr}{w:Xs}{K:Frag}{es:Xw Expr}{kk:Nat}{tp:Pos}{a:Xp}(e it:Xp)(ne:e≠it)(n1:a≠e)(n2:a≠it):
  Turn P w K (.Tuple es kk tp) (L8 K a) [e,it] e (λi h=>(∃f,IsEnum h e it i f)/\h.IsListIter it a i):=by
 refine⟨by simp,λi h y b j=>?_,λi h g y k=>?_,?_,?_,λA i s Q E y h=>?_⟩
 ·obtain⟨⟨f,m⟩,n⟩:=y
  simp only[mem_cons,not_mem_nil,or_false]at j;obtain rfl|rfl:=j
  ·exact⟨_,m,λv e=>by cases e⟩
  ·exact we (q:=true) n
 ·obtain⟨⟨f,m⟩,n⟩:=y
  exact⟨⟨f,k _ (by simp) _ m⟩,Bf (q:=true) n λo e=>k _ (by simp) o e⟩
 ·intro X D S R Z i XC s σ H E I G y N
  subst D S R;obtain⟨⟨f,m⟩,n⟩:=y;obtain⟨xs,x,J,ex⟩:=N;obtain⟨z,r,p,l⟩:=I.list J;obtain⟨u,eu,ru⟩:=r.get ex;have W:=WalksT.enumerate (prog:=X.prog) (w:=X.w) (A:=X.A) (I.ok.hd Z) e it a ne n1 n2 z.toArray;have hi:i<z.toArray.size:=by
   have:=(gI0.mp eu).1
   simpa using this
  refine W.item i s _ _ hi ⟨⟨f,m⟩,n,p.isList⟩ λT YA g O D hT F hM L=>?_;obtain⟨t,v,hv,rfl⟩:=D;have Y:v=u:=by
   have:z[i]? =some v:=by simpa using hv
   rw[eu]at this;exact(Rr this).symm
  subst Y;have C:=W.apart i T g hM;refine⟨_,rfl,W.go es kk tp i T { s with heap:=g,toks:=O } _ _ hM λg2 X1 B=>?_⟩;have hn:=I.hok.fresh hT;have M:∀b u,b ∉ [e,it]->s.heap.get? b=some u->g2.get? b=some u:=λb u j q=>B b u j<|L b u j q;have I2:Inv X XC σ (upd H T<|.tup [.int i,x]) { s with heap:=g2,toks:=O }:=by
   refine I.rX G M hT (λb j=>?_) ⟨by show 2<=sizeLine;decide,[.int i t,v],.cons ⟨t,rfl⟩<|.cons ru .nil,?_⟩
   ·simp only[mem_cons,not_mem_nil,or_false]at j
    obtain rfl|rfl:=j
    ·exact⟨_,m⟩
    ·obtain⟨o,q,_⟩:=we (q:=true) n;exact⟨o,q⟩
   ·obtain⟨o,q,rest⟩:=F
    exact⟨o,B T o C q,rest⟩
  refine⟨.ref T,_,I2,rfl,⟨T,x,hn,rfl,rfl,λzs hz=>by rw[I.xA hz J];exact ex⟩,⟨by simpa using X1.1,X1.2.1⟩,λb j=>?_⟩;have U:b≠T:=by
   rintro rfl;exact C j
  rw[cG U];exact(G b j).1
 ·intro X D S R Z i XC s σ H E I G y N
  subst D S R;obtain⟨⟨f,m⟩,n⟩:=y;obtain⟨xs,J,rfl⟩:=N;obtain⟨z,r,p,l⟩:=I.list J;have W:=WalksT.enumerate (prog:=X.prog) (w:=X.w) (A:=X.A) (I.ok.hd Z) e it a ne n1 n2 z.toArray;have e1:xs.length=z.toArray.size:=by rw[Rw];exact r.length
  rw[e1]at m n;exact W.done s _ _ ⟨⟨f,m⟩,n,p.isList⟩ λg O L=>⟨rfl,I.m8 G L⟩
 ·obtain⟨⟨f,m⟩,n⟩:=y
  exact wpAny_pyIter_enum m h
def IM(K:Frag)(ta:TA):TI:=λσ H R=>ta σ H λe H1=>∃a,e=[.ref a]/\(∃f,cN K H1 a f)/\R (L8 K a) H1
def oR {es:Xw Expr}{y:Nat}{C p pos:Pos}{ta:TA}(B:Bt X "enumerate") (E:PA X [e1] ta) (z:notStar e1=true:=by rfl):PI X (.Tuple es y C) (.Call (.Name "enumerate" p) [e1] [] pos) (IM X.K ta):=by
 intro F s σ H R I h;refine Tb<|jc I B.gl B.nm uu ?_ B.hn B.db;refine Sk (cX (E pos F s σ H _ I h) λN l i=>?_) (cU z)<|gA rfl;obtain⟨G,H1,f,v,a,e,⟨M,n⟩,q⟩:=i;subst e;obtain⟨L,rfl,D⟩:=vals1 v;cases D;obtain⟨P,J,A,O⟩:=f.list n;have m:=Ht (q:=true) f n;refine call_enumerate_list A.isList λg o x _ r=>?_;refine wpAny_pyIter_enum o ?_;refine⟨_,_,_,_,H1,rfl,f.kept (t':=l.toks) r,BY (l.heap.objs.size+1) l.heap.objs.size (UH<|Tv _) (Rb<|SX m)<|Rb m,⟨⟨_,o⟩,x⟩,λb w=>?_,q⟩;have j:l.heap.objs.size<=b:=Py _ _ w;exact f.uj j<|f.hok.fresh j
def Dm{K:Frag}{a:Xp}{xs:Xw V}{g:TG}{tb:TS}{D:Ends}{σ:St}{H:Hp}(Pv:Nat->St->Hp->Prop)(h0:Pv 0 σ H)(q:∀i σ H,Pv i σ H->cN K H a xs)
  (r:∀(i:Nat) x p σ H,xs[i]? =some x->H p=none->Pv i σ H->g (.ref p) σ (upd H p<|.tup [.int i,x]) λh n=>tb { D with nx:=Pv<|i+1,ct:=Pv<|i+1,bk:=D.nx } h n)(hd:∀σ H,Pv xs.length σ H->D.nx σ H):
  ∃W:Nat->Nat->St->Hp->Prop,(∃m,W 0 m σ H)/\∀i m σ H,W i m σ H->
   ((L8 K a).stop i H/\D.nx σ H)\/((L8 K a).go i H/\∃N:St->Hp->Prop,(∀f H',N f H'->∃o,o<m/\W (i+1) o f H')/\∀x H',(L8 K a).yld i H x H'->g x σ H' λh n=>tb { D with nx:=N,ct:=N,bk:=D.nx } h n):=by
 refine⟨λi m σ H=>m=xs.length-i/\i<=xs.length/\Pv i σ H,⟨xs.length,by simp,RQ _,h0⟩,?_⟩;rintro i m σ H ⟨rfl,B,p⟩;have l:=q i σ H p;by_cases j:i<xs.length
 ·refine .inr ⟨⟨xs,xs[i],l,by simp[j]⟩,Pv<|i+1,λf H' z=>⟨xs.length-(i+1),by lia,rfl,j,z⟩,λv H' y=>?_⟩
  obtain⟨A,x,s,rfl,rfl,w⟩:=y;exact r i x A σ H (w xs l) s p
 ·have e:i=xs.length:=by lia
  subst e;exact .inl ⟨⟨xs,l,rfl⟩,hd σ H p⟩
theorem pZ:∀{zs:Xw Xx}{us:Xw Xo},Vals (zs.map V.str) us->StrsAre us zs
 |[],_,r=>by cases r;exact .nil
 |z::zs,_,r=>by
  cases r with
  |cons e a=>
   obtain⟨t,rfl⟩:=e;exact .cons z t<|pZ a
def tY:PJ X "str.join" (λx vs H Q=>∃(a:Xx) (p:Xp) (zs:Xw Xx),x=.str a/\vs=[.ref p]/\cN X.K H p (zs.map V.str)/\(zs.map (·.length)).sum+zs.length*a.length<=16777216/\Q (.str<|Txt.join a zs) H):=by
 intro w s σ H x n v o Q I j g h;obtain⟨a,p,zs,rfl,rfl,e,f,q⟩:=h;obtain⟨t,rfl⟩:=j;obtain⟨u,rfl,l⟩:=vals1 g;cases l;obtain⟨y,r,i,_⟩:=I.list e;exact join_list i.isList (by simpa using pZ r) f λm k=>⟨.str _,H,I.tok _,⟨_,rfl⟩,q⟩
local instance keyBEq:BEq Key:=instBEqOfDecidableEq
local instance keyLBEq:@LawfulBEq Key keyBEq:=inferInstanceAs (@LawfulBEq Key instBEqOfDecidableEq)
def uE{prog:Xr}{w:Xs}{h:Heap}{a:Xp}{S f:Key->Bool}{n g:Nat}(i:h.SetOf (cM prog w) a S n)(e:∀k,S k=f k)(j:n=g):h.SetOf (cM prog w) a f g:=by
 have:S=f:=funext e;subst this;subst j;exact i
section
variable {n:Nat}{P:Nat->Xo->Prop}{St:Nat->Xq->Prop}
def setLoop(W:WalksS prog w A.in1 I fp wr G n P St)(S:Xp)(M:S ∉ fp)(key:Nat->Key)(p:∀i v,P i v->oe (key i) v=true/\v.scannable=true)
  (YN:∀i j,i<j->j<n->key i≠key j)(B:n+1<scanBound):∀(k i:Nat) (s:Xq),n-i=k->i<=n->St i s->s.heap.SetOf (cM prog w) S (λc=>(List.range i).any λj=>decide<|c=key j) i->
   (∀s',Moved (S::wr) G s s'->s'.heap.SetOf (cM prog w) S (λc=>(List.range n).any λj=>decide<|c=key j) n->R (.ok<|.ret .none) s')->
   codeAny (model prog w) A (.builtin "set.update.loop" ⟨[.ref S,.ref I],[]⟩) R s:=by
 have K:=λh=>M<|W.sub _ h;have a:∀b∈wr,b∈S::wr:=λb B=>RK _ B;have gH:∀{s s':Xq}{T:Key->Bool}{m:Nat},Moved wr G s s'->s.heap.SetOf (cM prog w) S T m->s'.heap.SetOf (cM prog w) S T m:=λf ⟨o,X,Z,O,Q,rest⟩=>⟨o,X,Z,O,f.heap S _ K Q,rest⟩;intro k
 induction k with
 |zero=>
  intro i s N Y E H J;obtain rfl:i=n:=by lia
  refine Sl SO ?_;rw[R7 RT _];refine QH<|W.done s _ _ E λs' f=>?_;exact QI<|J s' (f.mono a)<|gH f H
 |succ k ih=>
  intro i s N Y E H J;have l:i<n:=by lia
  refine Sl SO ?_;rw[R7 RT _];refine QH<|W.item i s _ _ l E λv s' hP z f=>?_;obtain⟨y,F⟩:=p i v hP;have D:=gH f H;refine QH<|Rv ?_;unfold setAdd;refine Rv ?_;refine QH<|(cM prog w).pyHash y ?_;refine wpAny_setAddHashed_of y F D (by lia) λg r U=>?_;have L:((List.range i).any λj=>decide<|key i=key j)=false:=by grind
  refine QI ⟨Tn RT _,ih (i+1) _ (by lia) l (W.frame _ s' _ _ z (T6 _) λb B o e=>?_) (by grind) λC x q=>?_⟩
  ·rw[r.2 b<|by grind]
   exact e
  ·refine J C (Moved.trans W.gtrans ((f.mono a).then_heap (T6 _) λb o B e=>?_) x) q
   rw[r.2 b<|by grind];exact e
end
def B5{l:Xp}{items:Array Xo}{key:Nat->Key}{Q:Xy}(hh:A.handled=none)(hl:s.heap.IsList l items)(hv:∀i v,items[i]? =some v->oe (key i) v=true/\v.scannable=true)
  (YN:∀i j,i<j->j<items.size->key i≠key j)(F:items.size+1<scanBound)
  (h:∀(g:Heap)(G:Nat)(T:Key->Bool),g.SetOf (cM prog w) s.heap.objs.size T items.size->(∀b o,b<s.heap.objs.size->s.heap.get? b=some o->g.get? b=some o)->Q (.ref s.heap.objs.size) { s with heap:=g,toks:=G }):
  wpAny (model prog w) A (call (.type "set") [.ref l]) Q E s:=by
 obtain⟨c,tl,Y⟩:=Sz.mro;have K:=Sz.made;have W:=Sz.sub;refine V5<|WI ?_;show wpAny _ _ (callAny (.type "set") _) _ _ _;refine QI ⟨Code.quiet_builtin _<|by decide+kernel,Sl Wv ?_⟩;rw[Around.under_plain (weight_type_call_type "set" [.ref l] []) rfl];have f1:=Sz.notType;have f2:=Sz.canCreate;have f3:=WJ<|.ref l
 repeat (any_goals (first|assumption|wp_step))
 refine Ti (code_set_new_1 (.ref l) (E:=E) (Q₁:=λy u=>∃a:Bool,y=.ref s.heap.objs.size/\u={ s with heap:=s.heap.push { cls:=.type "set",dict:=none,data:=.set #[] 0 (.fresh 0 0 a) } }) λa=>⟨a,rfl,rfl⟩) λr u hr=>?_;cases r with
 |error e=>exact hr
 |ok fl=>
  cases fl with
  |ret y=>
   obtain⟨a,rfl,rfl⟩:=hr;have X:(s.heap.push { cls:=.type "set",dict:=none,data:=.set #[] 0 (.fresh 0 0 a) }).get? s.heap.objs.size=some { cls:=.type "set",dict:=none,data:=.set #[] 0 (.fresh 0 0 a) }:=QX _ rfl;have hT:Shared.TypeIs { s with heap:=s.heap.push { cls:=.type "set",dict:=none,data:=.set #[] 0 (.fresh 0 0 a) } } (.ref s.heap.objs.size) "set" :=⟨_,X,rfl⟩;have ac:=Sz.init.lookup;have ab:=Sz.init.bind<|.ref s.heap.objs.size
   repeat (any_goals (first|assumption|wp_step))
   refine Ti (codeAny_call_builtin (R:=wants (λr u=>r=.none/\∃g G T,u={ s with heap:=g,toks:=G }/\g.SetOf (cM prog w) s.heap.objs.size T items.size/\(∀b o,b<s.heap.objs.size->s.heap.get? b=some o->g.get? b=some o)) E)
    Sz.init.plain WK (check_set_init_1 hT ?_)) λr2 u m=>?_
   ·obtain⟨⟨P,n,L,f⟩,U,D,S,z⟩:=hl
    simp only at D z;subst D;subst z;have B:(s.heap.push { cls:=.type "set",dict:=none,data:=.set #[] 0 (.fresh 0 0 a) }).get? l=some { cls:=.type "list",dict:=n,data:=.seq items S,slots:=f }:=QL _ U;have k1:=Xc;have k2:=We;have k3:(Value.type "list" == Value.type "dict")=false:=by decide
    have C:(s.heap.push { cls:=.type "set",dict:=none,data:=.set #[] 0 (.fresh 0 0 a) }).IsList l items:=⟨_,B,rfl,S,rfl⟩;unfold Builtin.«set.__init__» noKeywords Builtin.Frozenset.updateFrom;generalize M:pyIter=PI
    wp_walk
    subst M;refine TX C ?_;refine QH<|Xd ?_;have q:l<s.heap.objs.size:=Ri U;have x:l≠(s.heap.push { cls:=.type "set",dict:=none,data:=.set #[] 0 (.fresh 0 0 a) }).objs.size:=by
     rw[Ui];exact Rb<|SX q
    have Yz:s.heap.objs.size ∉ [(s.heap.push { cls:=.type "set",dict:=none,data:=.set #[] 0 (.fresh 0 0 a) }).objs.size,l]:=by
     rw[Ui];simp only[mem_cons,not_mem_nil,or_false,not_or];exact⟨Rb<|Tv _,UH q⟩
    refine setLoop ((V6 (show A.in1.in1.in1.handled=none by simp[hh]) _ l x items).toS) s.heap.objs.size Yz key hv YN F (items.size-0) 0 _ (by lia) (RQ _) ⟨⟨_,QX _ rfl,rfl,rfl⟩,C.push _⟩ ?_ ?_
    ·refine uE ((PyProof.Rows.setObjOf_fresh (knd:=cM prog w) a).setOf (QL _ X)<|by unfold scanBound;lia) (λ_=>rfl) rfl
    ·intro Z H p
     obtain⟨g,g',d',N,J⟩:=Z;have eg:g'=s.gens:=H.gens;have ed:d'=s.drawn:=H.drawn;have eo:J=s.os:=H.os;subst eg ed eo;show wpAny _ _ _ _ _ _;refine QI ?_;show wpAny _ _ (ret Value.none) _ _ _;refine QI ⟨rfl,g,N,_,rfl,p,λb o F e=>?_⟩;have O:b≠(s.heap.push { cls:=.type "set",dict:=none,data:=.set #[] 0 (.fresh 0 0 a) }).objs.size:=by
      rw[Ui];exact Rb<|SX F
     exact H.heap b o (by simp only[mem_cons,not_mem_nil,or_false,not_or];exact⟨Rb F,O⟩)<|QL _<|QL _ e
   ·cases r2 with
    |error e=>exact m
    |ok I=>
     cases I with
     |ret r=>
      obtain⟨rfl,g,G,T,rfl,p,Yu⟩:=m
      repeat (any_goals (first|assumption|wp_step))
      exact h _ _ _ p Yu
     |_=>exact m.elim
  |_=>exact hr.elim
def setM(P:Xr)(w:Xs)(a:Xp)(n:Nat):HO:=.ext λh=>∃T,h.SetOf (cM P w) a T n
def mX{X:Cx}(P:X.calm=true):eG X (.type "set") (λxs H Q=>∃(p:Xp) (zs:Xw Xx),xs=[.ref p]/\cN X.K H p (zs.map V.str)/\zs.Nodup/\zs.length<1000/\∀q,H q=none->Q (.ref q) (upd H q<|setM X.prog X.w q zs.length)):=by
 intro Z s σ H xs W Q I r h;obtain⟨p,zs,rfl,E,nd,U,q⟩:=h;obtain⟨u,rfl,J⟩:=vals1 r;cases J;obtain⟨z,x,F,_⟩:=I.list E;have l:=x.length;rw[QM]at l;refine B5 (key:=λi=>Sum.inr<|zs.getD i "") (I.ok.hd P) F.isList (λi v e=>?_) (λi j B Y=>?_) (by rw[Rw,<-l];unfold scanBound;lia) λg D T m A=>?_
 ·have n:z[i]? =some v:=by simpa using e
  have y:i<zs.length:=by grind
  obtain⟨u,O,t,rfl⟩:=x.get (show(zs.map V.str)[i]? =some (V.str zs[i]) by simp[y]);rw[O]at n;cases n;have f:zs.getD i "" =zs[i]:=by simp[List.getD,y]
  rw[f];exact⟨sj _ _,rfl⟩
 ·have C:j<zs.length:=by grind
  have a:i<zs.length:=by lia
  intro e;have f:zs[i]=zs[j]:=by simpa [List.getD,a,C] using (Tc e)
  exact absurd ((TZ nd).mp f) (by lia)
 ·have L:=I.hok.fresh (QP _)
  have N:z.toArray.size=zs.length:=by rw[Rw,l]
  rw[N]at m;refine⟨.ref s.heap.objs.size,_,I.laid (t':=D) (o:=setM X.prog X.w s.heap.objs.size zs.length) (λb o e=>A b o (Ri e) e) (QP _) ⟨⟨T,m⟩,?_,λS R p k=>?_⟩,rfl,q _ L⟩
  ·obtain⟨o,_,_,_,e,_⟩:=m
   exact⟨o,e⟩
  ·obtain⟨T,o,G,M,t,e,rest⟩:=p
   exact⟨T,o,G,M,t,k o e,rest⟩
def hJ{X:Cx}:eG X (.builtin "len") (λxs H Q=>∃(p:Xp) (n:Nat),xs=[.ref p]/\H p=some (setM X.prog X.w p n)/\Q (.int n) H):=by
 intro y s σ H xs x Q I r h;obtain⟨p,n,rfl,i,q⟩:=h;obtain⟨u,rfl,l⟩:=vals1 r;cases l;obtain⟨⟨T,o,a,v,t,e,f,d,_,_,g,j,rfl⟩,_⟩:=I.hok p _ i;have m:a.size<4096:=g;exact call_len_set e f d j (by lia) ⟨.int a.size,H,I.tok _,⟨_,rfl⟩,q⟩
section
variable {K:Frag}
def Le(Pv:Xp->Nat->Xw V->Hp->Prop)(hz:n<=sizeLine)(h0:∀D,H D=none->Pv D 0 [] (upd H D<|.lst []))
  (l:∀D i ys a,Pv D i ys a->a D=some (.lst ys)/\ys.length=i)(r:∀D i ys a,Pv D i ys a->i<n->J.go i a)(z:∀D ys a,Pv D n ys a->J.stop n a)
  (he:∀D i ys a v f (h:VK),Pv D i ys a->i<n->J.yld i a v f->(∀y H4,H4 D=some (.lst ys)->Pv D (i+1) (ys++[y]) (upd H4 D<|.lst<|ys++[y])->h y H4)->te (some v::d8 is σ) f h)
  (q:∀D ys a,H D=none->Pv D n ys a->Q (.ref D) a):jY J is te σ H Q:=by
 intro D g;refine⟨λi m ys a=>m=n-i/\i<=n/\Pv D i ys a,⟨_,rfl,RQ _,h0 D g⟩,?_⟩;rintro i m ys a ⟨rfl,A,p⟩;obtain⟨o,w⟩:=l D i ys a p;refine⟨o,?_⟩;by_cases e:i<n
 ·refine .inr ⟨r D i ys a p e,λv f y=>he D i ys a v f _ p e y λx H4 s j=>⟨s,by lia,n-(i+1),by lia,rfl,e,j⟩⟩
 ·grind
def AJ{xs:Xw V}(f:V->V)(hz:xs.length<=sizeLine)(C:∀i a,cH H a->i<xs.length->J.go i a)(z:∀a,cH H a->J.stop xs.length a)
  (B:∀i a v g,cH H a->i<xs.length->J.yld i a v g->g=a/\xs[i]? =some v)
  (he:∀v a (r:VK),v∈xs->cH H a->(∀g,cH a g->r (f v) g)->te (some v::d8 is σ) a r)
  (q:∀D H',H D=none->cH H H'->H' D=some (.lst<|xs.map f)->Q (.ref D) H'):jY J is te σ H Q:=by
 refine Le (λD i h a=>H D=none/\cH H a/\a D=some (.lst h)/\i<=xs.length/\h=(xs.take i).map f) hz (λD l=>⟨l,cH.upd l,cE,RQ _,by simp⟩)
  (λD i h a p=>⟨p.2.2.1,by rw[p.2.2.2.2,QM,RU];have:=p.2.2.2.1;lia⟩) (λD i h a p w=>C i a p.2.1 w) (λD h a p=>z a p.2.1) ?_ ?_
 ·rintro D i h a v g r ⟨l,m,A,w,n⟩ j y k
  obtain⟨rfl,x⟩:=B i a v g m j y;refine he v _ _ (QN x) m λE s=>?_;refine k _ _ (s _ _ A) ⟨l,λb o e=>?_,cE,j,?_⟩
  ·rw[cG<|cF e l]
   exact s _ _<|m _ _ e
  ·rw[n,RN,x,Sr]
   rfl
 ·grind
def lG{xs:Xw V}(f:V->V)(h:cN K H a xs)(hz:xs.length<=sizeLine)(he:∀v e (l:VK),v∈xs->cH H e->(∀j,cH e j->l (f v) j)->te (some v::d8 is σ) e l)
  (q:∀D H',H D=none->cH H H'->H' D=some (.lst<|xs.map f)->Q (.ref D) H'):jY (FY K a) is te σ H Q:=
 AJ f hz (λi e g m=>⟨xs,xs[i],g.seq h,by simp[m]⟩) (λe g=>⟨xs,g.seq h,QP _⟩) (λi e v j g m y=>⟨y.1,y.2 xs<|g.seq h⟩) he q
def HL{xs:Xw V}(f:V->V)(h:fe K H a xs)(hz:xs.length<=sizeLine)(he:∀v e (l:VK),v∈xs->cH H e->(∀j,cH e j->l (f v) j)->te (some v::d8 is σ) e l)
  (q:∀D H',H D=none->cH H H'->H' D=some (.lst<|xs.map f)->Q (.ref D) H'):jY (Pd K a) is te σ H Q:=
 AJ f hz (λi e g m=>⟨xs,xs[i],g.Lw h,by simp[m]⟩) (λe g=>⟨xs,g.Lw h,QP _⟩) (λi e v j g m y=>⟨y.1,y.2 xs<|g.Lw h⟩) he q
end
theorem je{env:Env}{k:NameKind}(f:k≠.free):∀{names:Xw (Xx×NameKind)}{x:Xx},names.lookup x=some k->
  (names.map λ(n,k)=>if(k==NameKind.free&&env.scope.kind==.function&&env.kindOf n==some .cell) then(n,NameKind.cell) else(n,k)).lookup x=some k
 |[],_,h=>by simp at h
 | (n,j)::r,x,h=>by
  have g:=@je env k f r x;show List.lookup x ((if(j==NameKind.free&&env.scope.kind==.function&&env.kindOf n==some .cell)=true then(n,NameKind.cell) else(n,j))::_)=_;cases e:x==n with
  |true=>
   simp only[lookup_cons,e]at h;cases h;rw[QO<|by simp[f]];simp only[lookup_cons,e]
  |false=>
   simp only[lookup_cons,e]at h;by_cases a:(j==NameKind.free&&env.scope.kind==.function&&env.kindOf n==some .cell)=true
   ·rw[QR a];simp only[lookup_cons,e];exact g h
   ·rw[QO a];simp only[lookup_cons,e];exact g h
theorem jx{env:Env}:∀{names:Xw (Xx×NameKind)}{x:Xx},names.lookup x=some .free->
  (names.map λ(n,k)=>if(k==NameKind.free&&env.scope.kind==.function&&env.kindOf n==some .cell) then(n,NameKind.cell) else(n,k)).lookup x=some .cell\/
  (names.map λ(n,k)=>if(k==NameKind.free&&env.scope.kind==.function&&env.kindOf n==some .cell) then(n,NameKind.cell) else(n,k)).lookup x=some .free
 |[],_,h=>by simp at h
 | (n,j)::r,x,h=>by
  have a:=@jx env r x;cases e:x==n with
  |true=>grind
  |false=>grind
structure Bn(X:Cx)(x:Xx)(sp:Sp):Prop where
 ex:∃(k:Nat) (f:Xp) (fd:FuncData) (ps:Xw Xx),fg X.prog X.w X.K X.mg X.base oE k f fd ps sp/\dO k X.A/\X.mg x=some (.ref f)/\keepIn X.K (.ref f)=true/\Binds X.K fd ps []
 db:(x==("__debug__" :Xx))=false
def Bn.lc(B:Bn X y sp)(h:scope.names.lookup y=some .globalImplicit):Kj (dq X (x::ns) scope cl fp s3 H3 C) y sp:=⟨B.ex,je (by decide) h,B.db⟩
structure Gd(P:Xr)(w:Xs)(K:Frag)(mg:XB)(base:Heap)(k:Nat)(x:Xx)(sp:Sp):Prop where
 ex:∃(f:Xp) (fd:FuncData) (ps:Xw Xx),fg P w K mg base oE k f fd ps sp/\mg x=some (.ref f)/\keepIn K (.ref f)=true/\Binds K fd ps []
structure Md(P:Xr)(w:Xs)(K:Frag)(mg:XB)(base:Heap)(k:Nat)(C:Xp)(m:Xx)(sp:Sp):Prop where
 ex:∃(f:Xp) (fd:FuncData) (ps:Xw Xx),fg P w K mg base oE k f fd ps sp/\Meth K C m f/\Binds K fd ps []
 cl:Ah K C
structure Kd(P:Xr)(w:Xs)(K:Frag)(mg:XB)(base:Heap)(k:Nat)(x:Xx)(C:Xp)(sp:Sp):Prop where
 ex:∃(f:Xp) (fd:FuncData) (ps:Xw Xx),fg P w K mg base oE k f fd ps sp/\Mk K C f/\Binds K fd ps []
 nm:mg x=some (.ref C)
structure Pp(X:Cx)(x:Xx)(C:Xp)(sp:Sp):Prop where
 ex:∃(k:Nat) (f:Xp) (fd:FuncData) (ps:Xw Xx),fg X.prog X.w X.K X.mg X.base oE k f fd ps sp/\dO (k+1) X.A/\Mk X.K C f/\Binds X.K fd ps []
 nm:X.mg x=some (.ref C)
 gl:Gl X x
 db:(x==("__debug__" :Xx))=false
structure Met(X:Cx)(C:Xp)(m:Xx)(sp:Sp):Prop where
 ex:∃(k:Nat) (f:Xp) (fd:FuncData) (ps:Xw Xx),fg X.prog X.w X.K X.mg X.base oE k f fd ps sp/\dO k X.A/\Meth X.K C m f/\Binds X.K fd ps []
 cl:Ah X.K C
structure Here(X:Cx)(P:Xr)(w:Xs)(K:Frag)(mg:XB)(base:Heap)(sc:Scope)(N:Xw Xx)(k:Nat):Prop where
 pr:X.prog=P
 wd:X.w=w
 fK:X.K=K
 gm:X.mg=mg
 bs:X.base=base
 calm:X.calm=true
 own:PassesOwn (model X.prog X.w) X.A X.env X.xe
 hsc:X.env.scope=sc
 hN:X.N=N
 nd:X.N.Nodup
 room:dO k X.A
 fn:∀x,X.fn x=true
section
variable {K:Frag}{mg:XB}{base:Heap}{sc:Scope}{N:Xw Xx}{k:Nat}{j:Nat}{x:Xx}{m:Xx}{sp:Sp}{C:Xp}
def Here.slot (h:Here X P w K mg base sc N k) (i:Nat) (a:N[i]? =some x) (lc:Loc sc x) (db:(x==("__debug__" :Xx))=false) (cd:(x==("__classdict__" :Xx))=false):Slot X i x:=
 ⟨by rw[h.hN];exact a,by rw[h.hsc];exact lc,.inl<|h.fn x,db,cd⟩
def Here.sl (h:Here X P w K mg base sc N k) (i:Nat) (x:Xx) (a:N[i]? =some x:=by rfl) (lc:Loc sc x:=by first|exact .inl rfl|exact .inr rfl) (db:(x==("__debug__" :Xx))=false:=by decide) (cd:(x==("__classdict__" :Xx))=false:=by decide):Slot X i x:=h.slot i a lc db cd
def OX(X:Cx):Xw Nat->Xw Xx->Prop
 |i::is,x::r=>Slot X i x/\OX X is r
 |_,_=>True
theorem Here.NF(h:Here X P w K mg base sc N k):∀(is:Xw Nat) (r:Xw Xx),(∀(j i:Nat) x,is[j]? =some i->r[j]? =some x->N[i]? =some x)->(∀x∈r,(sc.names.lookup x=some .local\/sc.names.lookup x=some .cell)/\(x==("__debug__" :Xx))=false/\(x==("__classdict__" :Xx))=false)->OX X is r
 |[],_,_,_=>trivial
 |_::_,[],_,_=>trivial
 |i::is,x::r,e,c=>⟨h.slot i (e 0 i x rfl rfl) (c x RD).1 (c x RD).2.1 (c x RD).2.2,Here.NF h is r (λj i x a b=>e (j+1) i x a b) λy f=>c y<|RK _ f⟩
def Here.fc (h:Here X P w K mg base sc N k) (is:Xw Nat) (e:is=List.range N.length:=by rfl) (c:∀x∈N,(sc.names.lookup x=some .local\/sc.names.lookup x=some .cell)/\(x==("__debug__" :Xx))=false/\(x==("__classdict__" :Xx))=false:=by decide+kernel):OX X is N:=h.NF is N (λj i x a b=>by
 subst e;obtain⟨g,f⟩:=gI0.mp a;rw[List.getElem_range]at f;exact f ▸ b) c
def Here.gl(h:Here X P w K mg base sc N k)(a:sc.names.lookup x=some .globalImplicit):Gl X x:=by
 show X.env.scope.names.lookup x=_;rw[h.hsc];exact a
def Here.bt (h:Here X P w K mg base sc N k) (hm:mg x=none) (a:sc.names.lookup x=some .globalImplicit) (e:x≠ "__name__") (db:(x==("__debug__" :Xx))=false):Bt X x:=⟨h.gl a,by rw[h.gm];exact hm,e,db⟩
def Here.b (h:Here X P w K mg base sc N k) (hm:mg x=none) (a:sc.names.lookup x=some .globalImplicit:=by rfl) (e:x≠ "__name__" :=by decide) (db:(x==("__debug__" :Xx))=false:=by decide):Bt X x:=h.bt hm a e db
def Here.gK (h:Here X P w K mg base sc N k) (G:Gd P w K mg base j x sp) (o:sc.names.lookup x=some .globalImplicit) (g:j<=k) (db:(x==("__debug__" :Xx))=false):Kj X x sp:=by
 obtain⟨f,a,e,m,i,n,l⟩:=G.ex;obtain⟨rfl,rfl,rfl,rfl,rfl⟩:=And.intro h.pr<|And.intro h.wd<|And.intro h.fK<|And.intro h.gm h.bs;exact⟨⟨j,f,a,e,m,h.room.mono g,i,n,l⟩,h.gl o,db⟩
def Here.c (h:Here X P w K mg base sc N k) (G:Gd P w K mg base j x sp) (a:sc.names.lookup x=some .globalImplicit:=by rfl) (e:j<=k:=by first|decide|exact QP _) (db:(x==("__debug__" :Xx))=false:=by decide):Kj X x sp:=h.gK G a e db
def Here.wj (h:Here X P w K mg base sc N k) (G:Gd P w K mg base j x sp) (g:j<=k) (db:(x==("__debug__" :Xx))=false):Bn X x sp:=by
 obtain⟨f,a,e,m,i,n,l⟩:=G.ex;obtain⟨rfl,rfl,rfl,rfl,rfl⟩:=And.intro h.pr<|And.intro h.wd<|And.intro h.fK<|And.intro h.gm h.bs;exact⟨⟨j,f,a,e,m,h.room.mono g,i,n,l⟩,db⟩
def Here.ci (h:Here X P w K mg base sc N k) (G:Gd P w K mg base j x sp) (a:j<=k:=by first|decide|exact QP _) (db:(x==("__debug__" :Xx))=false:=by decide):Bn X x sp:=h.wj G a db
def Here.Po (h:Here X P w K mg base sc N k) (G:Kd P w K mg base j x C sp) (n:sc.names.lookup x=some .globalImplicit) (g:j+1<=k) (db:(x==("__debug__" :Xx))=false):Pp X x C sp:=by
 obtain⟨f,a,e,l,i,m⟩:=G.ex;obtain⟨rfl,rfl,rfl,rfl,rfl⟩:=And.intro h.pr<|And.intro h.wd<|And.intro h.fK<|And.intro h.gm h.bs;exact⟨⟨j,f,a,e,l,h.room.mono g,i,m⟩,G.nm,h.gl n,db⟩
def Here.met(h:Here X P w K mg base sc N k)(G:Md P w K mg base j C m sp)(g:j<=k):Met X C m sp:=by
 obtain⟨f,a,e,l,i,n⟩:=G.ex;obtain⟨rfl,rfl,rfl,rfl,rfl⟩:=And.intro h.pr<|And.intro h.wd<|And.intro h.fK<|And.intro h.gm h.bs;exact⟨⟨j,f,a,e,l,h.room.mono g,i,n⟩,G.cl⟩
end
def CK:bootBuiltins "set" =some (.type "set"):=by decide+kernel
def uH:bootBuiltins "min" =some (.builtin "min"):=by decide+kernel
def J0:bootBuiltins "max" =some (.builtin "max"):=by decide+kernel
def fE{c A B:Prop} [Decidable c] (a:c)(h:A):if c then A else B:=by grind
def gM{c A B:Prop} [Decidable c] (a:¬c)(h:B):if c then A else B:=by grind
inductive O6(K:Frag)(x y:V)(H:Hp)(Q:VK):Prop
 |mk(l b:Xp)(xs zs:Xw V)(f:x=.ref l)(a:y=.ref b)(s:cN K H l xs)(t:cN K H b zs)(e:xs.length+zs.length<=sizeLine)(q:∀p,H p=none->Q (.ref p) (upd H p (.lst (xs++zs))))
def Ji(K:Frag):R2:=λx y H Q=>O6 K x y H Q
def F7:jk X (binaryOp .Add) (Ji X.K):=by
 intro Z s σ H x y v u Q I M N h;obtain⟨l,b,Y,S,rfl,rfl,J,P,U,q⟩:=h;cases M;cases N;obtain⟨p,r,L,z⟩:=I.list J;obtain⟨a,C,j,T⟩:=I.list P;have W:=r.length;have G:=C.length;obtain⟨⟨E,O,data,sl⟩,B,D,n,w⟩:=L.isList;obtain⟨⟨A,m,data2,o⟩,i,g,R,f⟩:=j.isList;simp only at D w g f;subst D w g f;have e:p.toArray++a.toArray=(p++a).toArray:=by simp
 refine concat_meets ⟨_,B,rfl⟩ ⟨_,i,rfl⟩ noFill_list_add seq_list_add PySem.F.slot_list_add PySem.F.entry_list_add (PySem.F.args_list_add_2 _ _) (list_addW l b p.toArray a.toArray n R O m sl o<|by grind) ⟨B,i,?_⟩;rw[e];exact⟨.ref _,_,I.O1 (t':=s.toks) (r.append C)<|by grind,rfl,q _ I.fresh⟩
end L2
namespace J
structure MZ(X:Cx)(id:String)(r:V->Xw V->Hp->VK->Prop):Prop where
 out:PJ X id r
def _root_.cj (h:scope.names.lookup x=some .local) (db:(x==("__debug__" :Xx))=false) (cd:(x==("__classdict__" :Xx))=false):JE (dq X (x::ns) scope cl fp s3 H3 C) (.Name x p) (jd 0):=
 ⟨mV rfl (.inl<|SG h) db cd⟩
def Pk {i:Nat}(h:scope.names.lookup y=some .free) (a:ns[i]? =some y) (db:(y==("__debug__" :Xx))=false) (cd:(y==("__classdict__" :Xx))=false):JE (dq X (x::ns) scope cl fp s3 H3 C) (.Name y p) (jd<|i+1):=
 ⟨mV a (.inr<|jx h) db cd⟩
def Po(M:Pp X x C sp)(g:JA X (e::es) t)(i:notStar e=true:=by rfl)(h:es.all notStar=true:=by rfl):JE X (.Call (.Name x p) (e::es) [] pos) (Jf C sp [] E0 t):=by
 obtain⟨k,f,j,l,F,hr,mk,a⟩:=M.ex;exact⟨Gz mk F hr M.gl M.nm a .nil Af g.out M.db (cU i)<|gA h⟩
def _root_.bE(M:Met X C m sp)(he:JE X o ta)(g:eval (.Call (.Attribute o m XH) [] [] pos) X.env=(do
   let a <-eval o X.env
   standAt XH.atName
   let (f,first) <-holding [a] (getMethod a m pl)
   callWith pos f first (backTo pos<|starEach [] X.env) (backToKw pos<|keywordEach [] X.env))):JE X (.Call (.Attribute o m XH) [] [] pos) (IK C m sp [] E0 ta kU):=by
 obtain⟨k,f,i,j,F,hr,h,e⟩:=M.ex;exact⟨C9 he.out M.cl h F hr e .nil Af g⟩
def _root_.cb(he:JE X (.Name x p) ta):JE X (.Attribute (.Name x p) f pos) (Mp X.K ta f):=⟨K8 he.out rfl⟩
def mG(e:JE X o ta)(a:JE X value tv)(h:gY value=false:=by rfl):JS X (.Assign [.Attribute o f XU] value pos) (MG X.K ta tv f):=⟨L2.mG e.out a.out<|jz h⟩
def _root_.bF:MZ X "list.append" Ag:=⟨r6⟩
def tY:MZ X "str.join" (λx vs H Q=>∃(a:Xx) (p:Xp) (zs:Xw Xx),x=.str a/\vs=[.ref p]/\cN X.K H p (zs.map V.str)/\(zs.map (·.length)).sum+zs.length*a.length<=16777216/\Q (.str<|Txt.join a zs) H):=⟨L2.tY⟩
def iO(o:Expr):Bool:=match o with
 |.Call .. =>false
 |_=>true
def fN(h:iO o=true):attributeBase o name env v=v:=by
 cases o<;>first|rfl|cases h
def L1(a:notStar e=true):((backTo XG<|starEach [e] env).all (λx=> !x.1)&&(backToKw XG<|keywordEach [] env).all (λx=>x.1.isSome)
   && decide ([e].length+([]:Xw Keyword).length+(if([]:Xw Keyword).isEmpty then 0 else 1)<30))=true:=by
 rw[cU a];rfl
def _root_.bw {T id:String}(l:PlainAttrs T) (slot:Slot T name id) (a:typeOf (.builtin id)=pure (.type "method_descriptor")) (hm:MZ X id r) (g:JE X o te) (j:JA X [e] t)
  (h:iO o=true:=by rfl)(f:notStar e=true:=by rfl)(i:(XH.endLine==pos.line)=true:=by rfl):JE X (.Call (.Attribute o name XH) [e] [] pos) (PY X.K T r te t):=
 ⟨NV l slot a hm.out g.out j.out (fN h) (L1 f) i (cU f) rfl⟩
def oR (B:Bt X "enumerate") (e:JA X [e1] t) (a:notStar e1=true:=by rfl):JI X (.Tuple es kk tp) (.Call (.Name "enumerate" p) [e1] [] pos) (IM X.K t):=⟨L2.oR B e.out a⟩
def mX(a:X.calm=true):JF X (.type "set") (λxs H Q=>∃(p:Xp) (zs:Xw Xx),xs=[.ref p]/\cN X.K H p (zs.map V.str)/\zs.Nodup/\zs.length<1000/\∀q,H q=none->Q (.ref q) (upd H q<|setM X.prog X.w q zs.length)):=⟨L2.mX a⟩
def hJ:JF X (.builtin "len") (λxs H Q=>∃(p:Xp) (n:Nat),xs=[.ref p]/\H p=some (setM X.prog X.w p n)/\Q (.int n) H):=⟨L2.hJ⟩
def _root_.bH:MC X [] M9:=⟨Hm⟩
def _root_.aT(S:JG X (.Name x p) g)(h:MC X es u):MC X (.Name x p::es) (IX g u):=⟨Fc S.out h.out rfl⟩
def _root_.bO(e:X.calm=true)(h:MC X es u)(a:(assignEach es X.env).length=n:=by rfl)(f:(assignEach es X.env).findIdx? (·.1)=none:=by rfl):JG X (.Tuple es k pos) (Lr X.K n u):=⟨EI e h.out a f⟩
def asg(he:JE X e te)(f:JG X tg g)(a:swapsWithSole [tg] e pos.line X.env=pure false:=by rfl)(hw:swappedStores [tg] e X.env=pure none:=by rfl)
  (h:(assignEach [tg] X.env).map (·.2)=[assign tg X.env]:=by rfl):JS X (.Assign [tg] e pos) (vP te g):=⟨KC he.out f.out a hw h⟩
def _root_.cA:JB X .Add (Ji X.K):=⟨F7⟩
def Av(h:JE X (.Name x p) te):JT X (.Name x p) (tB te):=⟨yK h.out λ_=>rfl⟩
def _root_.cv:dS (.Subscript a b p):=⟨λ_ _=>rfl⟩
def _root_.cC{K:Frag}{base:Heap}{sc:Scope}{N:Xw Xx}{k:Nat}{v:V}(a:Here X P w K mg base sc N k)(hm:∃u,mg x=some u/\RelV v u)(g:sc.names.lookup x=some .globalImplicit)
  (db:(x==("__debug__" :Xx))=false):JE X (.Name x p) (tC v):=by
 obtain⟨u,f,e⟩:=hm;exact J.oY (a.gl g) (by rw[a.gm];exact f) e db
section
variable {K:Frag}{mg:XB}{base:Heap}{x:Xx}{XI:Xx}{m:Xx}{st:Stmt}{f:Xp}{C:Xp}{fd:FuncData}{N:Xw Xx}{ps:Xw Xx}{k:Nat}{sp:Sp}
def oO(F:qT K x XI st f fd)(S:cK N ps (cI st))(len:∀vs H Q E,sp vs H Q E->vs.length=ps.length)
  (a:∀(X:Cx)(H:Hp)(vs:Xw V)(Q:VK)(E:XK),Here X P w K mg base (cI st) N k->sp vs H Q E->∃t,x9 X (df st) t/\t { nx:=λ_ H'=>Q .non H',rt:=Q } (L2.start N vs) H):fg P w K mg base oE (k+1) f fd ps sp:=by
 refine NC F S len λX g A outer s H vs Q E e hr h=>?_;subst e;exact a _ H vs Q E ⟨rfl,rfl,rfl,rfl,rfl,rfl,PassesOwn.never,rfl,rfl,S.nd,hr,λ_=>rfl⟩ h
def Lj(D:Df K mg x st ps f fd)(S:cK N ps (cI st))(len:∀vs H Q E,sp vs H Q E->vs.length=ps.length)
  (a:∀(X:Cx)(H:Hp)(vs:Xw V)(Q:VK)(E:XK),Here X P w K mg base (cI st) N k->sp vs H Q E->∃t,x9 X (df st) t/\t { nx:=λ_ H'=>Q .non H',rt:=Q } (L2.start N vs) H):Gd P w K mg base (k+1) x sp:=
 ⟨f,fd,ps,oO D.fn S len a,D.nm,D.fn.kp,D.bi⟩
def _root_.aG(D:Df K mg x st ps f fd)(S:cK N ps (cI st))
  (a:∀(X:Cx)(H:Hp)(vs:Xw V)(Q:VK)(E:XK),Here X P w K mg base (cI st) N k->sp vs H Q E->∃t,x9 X (df st) t/\t { nx:=λ_ H'=>Q .non H',rt:=Q } (L2.start N vs) H)(len:∀vs H Q E,sp vs H Q E->vs.length=ps.length:=by intro _ _ _ _ h;first| (obtain⟨⟩:=h;subst_vars;rfl)| ((repeat (obtain⟨_,h⟩:=h));subst_vars;rfl)):Gd P w K mg base (k+1) x sp:=Lj D S len a
def _root_.cq(F:qT K m XI st f fd)(e:Meth K C m f)(bi:Binds K fd ps [])(cl:Ah K C)(S:cK N ps (cI st))(len:∀vs H Q E,sp vs H Q E->vs.length=ps.length)
  (a:∀(X:Cx)(H:Hp)(vs:Xw V)(Q:VK)(E:XK),Here X P w K mg base (cI st) N k->sp vs H Q E->∃t,x9 X (df st) t/\t { nx:=λ_ H'=>Q .non H',rt:=Q } (L2.start N vs) H):Md P w K mg base (k+1) C m sp:=
 ⟨⟨f,fd,ps,oO F S len a,e,bi⟩,cl⟩
def HZ(F:qT K m XI st f fd)(mk:Mk K C f)(bi:Binds K fd ps [])(nm:mg y=some (.ref C))(S:cK N ps (cI st))(len:∀vs H Q E,sp vs H Q E->vs.length=ps.length)
  (a:∀(X:Cx)(H:Hp)(vs:Xw V)(Q:VK)(E:XK),Here X P w K mg base (cI st) N k->sp vs H Q E->∃t,x9 X (df st) t/\t { nx:=λ_ H'=>Q .non H',rt:=Q } (L2.start N vs) H):Kd P w K mg base (k+1) y C sp:=
 ⟨⟨f,fd,ps,oO F S len a,mk,bi⟩,nm⟩
end
end J
namespace L2
def B7{elt:Expr}{e:Xw Comprehension}{scope:Scope}{pos py:Pos}{y:Xx}{n:Nat}{env:Env}{sc:Scope}(a:env.scope=sc)
  (h:((if sc.kind.isAnnotationScope then ScopeKind.function else sc.kind)==.function&&sc.names.lookup y==some .local&&py.line==pos.line && !(scope.names.any λ(n,k)=>n==y&&(k==.local||k==.cell)))=true):
  swapsWith (.ListComp elt e scope pos) (some<|.Name y py) n env=pure true:=by
 subst a;show(pure _:Sem Bool)=pure true;exact RP pure h
section
variable {X:Cx}{XC:XA}{σ:St}{H:Hp}{s:Xq}{p:Xp}{ns:Xw Int}
def Inv.ints(I:Inv X XC σ H s)(h:cN X.K H p (ns.map V.int)):∃xs:Array (Int×Tok),s.heap.IsList p (intItems xs)/\xs.toList.map (·.1)=ns:=by
 obtain⟨j,r,g,_⟩:=I.list h;have a:=intsAre_of r;obtain⟨xs,e⟩:=a.allInts.items;refine⟨xs,by rw[<-e];exact g.isList,?_⟩;have i:=a.numsOf;have f:j=(intItems xs).toList:=by rw[<-e]
 rwa [f,nums_intItems]at i
def nO(l:X.calm=true):eG X (.builtin "sum") (λxs H Q=>∃(p:Xp) (ns:Xw Int),xs=[.ref p]/\cN X.K H p (ns.map V.int)/\Q (.int ns.sum) H):=by
 intro v s σ H xs n Q I r h;obtain⟨p,ns,rfl,g,q⟩:=h;obtain⟨u,rfl,j⟩:=vals1 r;cases j;obtain⟨o,i,e⟩:=I.ints g;refine sum_intListG (I.ok.hd l) i λm f t' a=>?_;rw[preSum_eq,e,Se<|by grind];exact⟨.int _,H,I.kept (t':=f) a,⟨_,rfl⟩,q⟩
def zT:V->V->Xu Bool
 |.ref a,.ref b=>if a=b then some true else none
 |x,y=>if dN x=true/\dN y=true then some (vR x y) else none
def rW{A:Xv}{s:Xq}{x y:V}{u v:Xo}{b:Bool}(g:RelV x u)(i:RelV y v)(h:zT x y=some b):SeqAt.EqAt A s u v b:=by
 have flat:(if dN x=true/\dN y=true then some (vR x y) else none)=some b->SeqAt.EqAt A s u v b:=λh=>by
  by_cases c:dN x=true/\dN y=true
  ·rw[QR c]at h
   cases h;exact um g i c.1 c.2
  ·grind
 cases x with
 |ref a=>
  cases y with
  |ref c=>
   have f:(if a=c then some true else none)=some b:=h;by_cases e:a=c
   ·rw[QR e]at f
    cases f;cases g;cases i;rw[e];exact WG _
   ·grind
  |_=>exact flat h
 |_=>exact flat h
def Pa(bs:Xw Bool):Bool:=(List.range bs.length).all λi=>bs.getD i false
def OP(K:Frag):R2:=λx y H Q=>∃a b f e bs,x=.ref a/\y=.ref b/\cN K H a f/\cN K H b e/\f.length=bs.length/\e.length=bs.length/\(∀(i:Nat) u v c,f[i]? =some u->e[i]? =some v->bs[i]? =some c->zT u v=some c)/\Q (.bl<|Pa bs) H
def fM{a:Xw Xo}{xs:Xw V}{j:Nat}(r:Vals xs a)(h:j<a.length):∃x,xs[j]? =some x/\RelV x a[j]:=by
 have i:=r.length;have e:xs[j]? =some xs[j]:=QJ (by lia);obtain⟨u,f,g⟩:=r.get e;rw[QJ h]at f;cases f;exact⟨_,e,g⟩
def LO(U:X.A.units+1<cLine):jk X (compareOp .Eq) (OP X.K):=by
 intro XC s σ H x y v u Q I E F h;obtain⟨a,b,T,Y,bs,rfl,rfl,L,z,Z,l2,M,q⟩:=h;cases E;cases F;obtain⟨R,r,D,_⟩:=I.list L;obtain⟨o,n,f,_⟩:=I.list z;have W:=r.length;have S:=n.length;refine SeqAt.eq_listAt (e:=λi=>bs.getD i false) D.isList f.isList (by grind) (by lia) (λj m l=>?_) ?_
 ·simp only[size_toArray]at m l
  obtain⟨P,J,w⟩:=fM r m;obtain⟨G,B,g⟩:=fM n l;have N:j<bs.length:=by lia
  have p:=QJ N;have O:bs.getD j false=bs[j]:=by rw[Sg,p];rfl
  rw[O];simp only[List.getElem_toArray];exact rW w g<|M j P G _ J B p
 ·have C:R.toArray.size=bs.length:=by simp only[size_toArray];lia
  rw[C];exact⟨.bl _,H,I,rfl,q⟩
end
end L2
namespace J
def nO{X:Cx}(a:X.calm=true):JF X (.builtin "sum") (λxs H Q=>∃(p:Xp) (ns:Xw Int),xs=[.ref p]/\cN X.K H p (ns.map V.int)/\Q (.int ns.sum) H):=⟨L2.nO a⟩
end J
namespace L2
section
variable {X:Cx}
theorem qf:∀{xs:Xw V}{us:Xw Xo},xs.length=us.length->(∀(i:Nat) x v,xs[i]? =some x->us[i]? =some v->RelV x v)->Vals xs us
 |[],[],_,_=>.nil
 |_::_,[],h,_=>by cases h
 |[],_::_,h,_=>by cases h
 |x::_,u::_,h,k=>.cons (k 0 x u rfl rfl)<|qf (SE h) λi y v e a=>k (i+1) y v e a
inductive Ko(K:Frag)(x y:V)(H:Hp)(Q:VK):Prop
 |mk(a b:Xp)(xs ys:Xw V)(f:x=.ref a)(e:y=.ref b)(s:cN K H a xs)(t:cN K H b ys)(n:xs.length≠ys.length)(q:Q (.bl false) H)
def Ce(z:X.A.units+1<cLine):jk X (compareOp .Eq) (λx y H Q=>Ko X.K x y H Q):=by
 intro D s σ H x y v u Q I j l h;obtain⟨a,b,w,C,rfl,rfl,o,g,n,q⟩:=h;cases j;cases l;obtain⟨E,r,i,_⟩:=I.list o;obtain⟨f,m,e,_⟩:=I.list g;have B:=r.length;have p:=m.length;refine SeqAt.eq_list_lengthsAt i.isList e.isList ?_ (by lia) ⟨.bl _,H,I,rfl,q⟩;rw[bne_iff_ne];simp only[size_toArray];lia
end
def qB(I:Nat->Xq->Prop)
  (E:∀n s,I n s->wpAny (model prog w) A (pyNext it) (λr i=>match r with
   |none=>R (.ok .next) i
   |some v=>wpAny (model prog w) A (letOwnedTupleGo target it v) (λ_ f=>wpAny (model prog w) A (assign target env v) (λ_ q=>wpAny (model prog w) A (forIn Yi true λc r=>if r=true then do let ok <-isTrue c env (eval c env);pure (ForInStep.yield ok) else pure (ForInStep.yield r)) (λok a=>if ok=true then wpAny (model prog w) A (eval elt env) (λx o=>
     wpAny (model prog w) A (call (.builtin "list.append") [XM,x]) (λ_ l=>∃m,m<n/\I m l) (notedBy (model prog w) A env λe s'=>R (.error e) s') o)
     (notedBy (model prog w) A env λe s'=>R (.error e) s') a else ∃m,m<n/\I m a) (notedBy (model prog w) A env λe s'=>R (.error e) s') q) (notedBy (model prog w) A env λe s'=>R (.error e) s') f) (notedBy (model prog w) A env λe s'=>R (.error e) s') i) (notedBy (model prog w) A env λe s'=>R (.error e) s') s)
  (n:Nat) (h:I n s):
  codeAny (model prog w) A (.compLoop (.ListComp elt [⟨target,iter,Yi,0⟩] scope pos) 0 it XM env) R s:=by
 refine codeAny_loop rfl I (λn s F=>?_) n h;refine wpAny_noted ?_;rw[compTurn_list];refine QH<|wpAny_standAt<|QH<|RW (E n s F) (λr i j=>?_) λ_ _ g=>g;cases r with
 |none=>exact QI j
 |some v=>
  refine QH<|RW j (λ_ f y=>?_) λ_ _ g=>g;refine QH<|RW y (λ_ q B=>QH<|RW B (λok o p=>?_) λ_ _ g=>g) λ_ _ g=>g;cases ok with
  |false=>exact QI ⟨rfl,p⟩
  |true=>
   exact QH<|QH<|RW p (λx l z=>QH<|RW z (λ_ D C=>QI<|QI ⟨rfl,C⟩) λ_ _ g=>g) λ_ _ g=>g
def L9(X:Cx)(e:Xw Expr)(t:TT):Prop:=
 ∀(a:XA) (s:Xq) (σ:St) (H:Hp) (Q:Bool->Hp->Prop),Inv X a σ H s->t σ H Q->wpAny (model X.prog X.w) X.A (forIn e true λc r=>if r=true then do let ok <-isTrue c X.env (eval c X.env);pure (ForInStep.yield ok) else pure (ForInStep.yield r)) (TP X a σ Q) X.xe s
def wK:TT:=λ_ H Q=>Q true H
def zP:L9 X [] wK:=λ_ _ _ H _ I h=>wpAny_tests_nil ⟨H,I,h⟩
def Fw(h:PT X ct t):L9 X [ct] t:=λa s σ H Q I q=>wpAny_tests_one<|h a s σ H Q I q
inductive Mx(J:It)(n:Nat)(is:Xw Nat)(g:TG)(p:TT)(o:TE)(σ:St)(W:Nat->Nat->Xw V->Hp->Prop)(D:Xp)(i m:Nat)(ys:Xw V)(j:Hp):Prop
 |mk(go:J.go i j)(nx:∀(os:St) v H3,os.length=n->J.yld i j v H3->g v (os++d8 is σ) H3 λa H4=>(∃e:St,e.length=n/\a=e++d8 is σ)/\p a H4 λb l=>if b=true then o a l (λy h=>
  h D=some (.lst ys)/\ys.length<sizeLine/\∃f,f<m/\W (i+1) f (ys++[y]) (upd h D (.lst (ys++[y])))) else ∃f,f<m/\W (i+1) f ys l)
def eF(J:It)(n:Nat)(is:Xw Nat)(g:TG)(h:TT)(f:TE)(σ:St)(H1:Hp)(Q:VK):Prop:=∀D,H1 D=none->∃W:Nat->Nat->Xw V->Hp->Prop,(∃m,W 0 m []<|upd H1 D<|.lst [])/\
 ∀i m e a,W i m e a->a D=some (.lst e)/\((J.stop i a/\Q (.ref D) a)\/Mx J n is g h f σ W D i m e a)
def Hx(a:TI)(n:Nat)(is:Xw Nat)(g:TG)(f:TT)(e:TE):TE:=λσ H Q=>a σ H λJ H1=>eF J n is g f e σ H1 Q
structure vT(sc:Scope)(N:Xw Xx)(xs:Xw Xx)(scope:Scope)(is:Xw Nat)(ns:Xw Xx):Prop where
 kind:scope.kind=.function:=by rfl
 nocell:∀y∈scope.names,y.2≠.cell:=by decide+kernel
 names:∀y∈scope.names,y.2=.local->scope.names.lookup y.1=some .local:=by decide+kernel
 free:∀y∈scope.names,y.2=.free->sc.names.lookup y.1=some .cell:=by decide+kernel
 cap:ns.map some=is.map λi=>N[i]? :=by rfl
 capf:∀y∈ns,scope.names.lookup y=some .free/\sc.names.lookup y=some .cell:=by decide+kernel
def EC(X:Cx)(f:XA)(σ:St)(g:VK)(use:Xu (Xo->Sem Unit))(h:Xy):Prop:=
 ∀(D C:Xp) (e:Hp) (a:Xq) (m:XB),g (.ref D) e->Inv X f σ e a->nR X f e C->a.heap.Ns C m->compPost (model X.prog X.w) X.A X.xe use h (.ref D) C (.ok .next) a
def mH{sc:Scope}{N:Xw Xx}{use:Xu (Xo->Sem Unit)}{Qv:Xy}{Gf:It->Hp->Prop}{Qs:VK}{cp:Pos}{XC:XA}{s:Xq}{σ:St}{H:Hp}(I:Inv X XC σ H s)(h:wi σ H Gf)(hG:∀J H1,Gf J H1->eF J xs.length is g tc te σ H1 Qs)
  (fin:EC X XC σ Qs use Qv)(hc:X.calm=true)(hi:PI X tg iter wi)(L:vT sc N xs scope is ns)(hg:∀K fp s3 B C,PG (dq X (xs++ns) scope K fp s3 B C) tg g)(YF:∀K fp s3 B C,L9 (dq X (xs++ns) scope K fp s3 B C) Yi tc)(he:∀K fp s3 B C,Inv X XC σ B s3->(∀b∈fp,nR X XC B b)->PE (dq X (xs++ns) scope K fp s3 B C) elt te)
  (bd:X.env.scope=sc)(hN:X.N=N)(hs:∀x,foldedSetIterable iter X.env x=pure x):
  wpAny (model X.prog X.w) X.A (comprehension (.ListComp elt [⟨tg,iter,Yi,0⟩] scope pos) scope X.env cp (newList []) false (eval iter X.env) use) Qv X.xe s:=by
 subst bd hN;obtain⟨K,b2,R,a1⟩:=x4 (env:=X.env) (scope:=scope) λy M hf=>I.ok.has y.1<|.inl<|L.free y M hf;refine wpAny_comprehension_free rfl hs b2 L.kind L.names<|cX (hi XC s σ H _ I h) λv s1 h1=>cX h1 λcd f h2=>?_;obtain⟨it,fp,tn,J,H2,e,I2,T,X1,f2,h2⟩:=h2;subst e;refine RS (wpAny_newFunctionEnv L.nocell (by intro y M;simp at M) (λG Q P=>?_) L.kind);have hD:H2 f.heap.objs.size=none:=I2.hok.fresh<|QP _;have O:Inv X XC σ (upd H2 f.heap.objs.size<|.lst []) { f with heap:=f.heap.push { cls:=.type "list",dict:=none,data:=.seq ([]:Xw Xo).toArray } }:=
  I2.laid (t':=f.toks) (λb u e=>QL _ e) (QP _) ⟨RQ _,[],0,.nil,QX _ rfl⟩
 have aq:∀b u,f.heap.get? b=some u->(f.heap.push { cls:=.type "list",dict:=none,data:=.seq ([]:Xw Xo).toArray }).get? b=some u:=λb u e=>QL _ e;obtain⟨W,⟨m0,w0⟩,Yk⟩:=hG J H2 h2 f.heap.objs.size hD;dsimp only at Q P ⊢;generalize bx:f.heap.objs.size=D at *;generalize b3:f.heap.push { cls:=.type "list",dict:=none,data:=.seq ([]:Xw Xo).toArray }=F at *;generalize be:upd H2 D (.lst [])=B at *;have bf:∀b∈fp,b≠D:=λb a=>by
  obtain⟨o,e,_⟩:=T.obj 0 f.heap X1 b a;rw[<-bx];exact Rb<|Ri e
 have E:∀b∈fp,nR X XC B b:=λb a=>⟨by rw[<-be,cG<|bf b a];exact(f2 b a).1,(f2 b a).2⟩;have a0:tn 0 F:=T.keep 0 f.heap F X1 λb _ o e=>aq b o e;have ad:∀b∈fp,b<F.objs.size:=λb a=>by
  obtain⟨o,e,_⟩:=T.obj 0 F a0 b a;exact Ri e
 have Y:∀b u,F.get? b=some u->G.get? b=some u:=λb u e=>P.extBut b u (Rb<|Ri e)<|QL _ e;generalize hC:F.objs.size=C at *;have am:∀b∈fp,B b=none:=λb a=>(E b a).1;have a3:(dq X (xs++ns) scope K fp { f with heap:=F } B C).Ok:=by
  refine⟨I.ok.mod,L.kind,I.ok.glob,I.ok.blt,SA hC,λy z c e1 e2=>I.ok.inj y z c (R y c e1)<|R z c e2,λy M=>?_,λ_ _ z=>(by cases z),I.ok.hd,I.ok.frames,.inl rfl,λb a=>⟨Rb<|ad b a,λy c e=>(E b a).2.2.2.2.1 y c<|R y c e⟩,O.bs,Rn O.ok.bsz O.sz,λb o e a=>?_,λb a z=>?_,O.stack,O.zj⟩
  ·have hm:(y,NameKind.free)∈scope.names:=by
    obtain M|M:=M
    ·exact l0 M (.inl rfl) L.nocell
    ·exact l0 M (.inr rfl) L.nocell
   obtain⟨c,bm⟩:=I.ok.has y<|.inl<|L.free _ hm rfl;exact⟨c,(a1 _ hm rfl).trans bm⟩
  ·obtain z|z:=(E b a).2.2.2.1
   ·exact I.ok.noex b o e z
   ·exact absurd (Rp (Ri e)<|Rn I.ok.bsz z)<|UD _
  ·exact(Rq.mp<|O.yY b z).elim (E b a).2.1 (E b a).2.2.1
 have XR:(d8 is σ).length=ns.length:=by
  have:=RP List.length L.cap;rw[QM,QM]at this;rw[d8,QM];exact this.symm
 have rl:(List.replicate xs.length (none:Xu V)).length=xs.length:=WY ..;have I4:Inv (dq X (xs++ns) scope K fp { f with heap:=F } B C) [] (List.replicate xs.length none++d8 is σ) B { f with heap:=G,toks:=f.toks+0 }:=by
  refine⟨a3,rfl,O.bare,Un.kept Y,⟨_,Q,λi y v e1 e2 e3=>?_⟩,λy c e=>?_,?_,λy c e=>O.freeC y c<|R y c e,λp hp=>absurd (show p∈([]:XA) from hp)<|by simp,O.hok.kept Y,by show(List.replicate xs.length none++d8 is σ).length=(xs++ns).length;rw[QK,QK,XR,rl]⟩
  ·have e1:(xs++ns)[i]? =some y:=e1
   by_cases hi:i<xs.length
   ·rw[Rf<|by rw[rl];exact hi,Wu,QR hi]at e2
    cases e2
   ·rw[QW<|by rw[rl];lia,rl]at e2
    rw[QW<|by lia]at e1;generalize i-xs.length=j at e1 e2;have a4:ns[j]? =some y:=e1;have U:(d8 is σ)[j]? =some (some v):=e2;have M:=L.capf y<|QN a4;have Z:(ns.map some)[j]? =(is.map λi=>X.N[i]?)[j]? :=by rw[L.cap]
    rw[QY,QY,a4]at Z;rw[d8,QY]at U;cases hk:is[j]? with
    |none=>rw[hk]at U;cases U
    |some k=>
     rw[hk]at Z U;have hN:X.N[k]? =some y:=(Rr Z).symm;have b0:σ[k]? =some (some v):=by
      have q:(σ[k]?).join=some v:=Rr U;cases z:σ[k]? with
      |none=>rw[z]at q;cases q
      |some o=>rw[z]at q;exact RP some q
     obtain⟨m,hn,hl⟩:=O.loc;obtain⟨u,r,l⟩:=hl k y v hN b0<|.inr<|.inl M.2;refine⟨u,r,?_⟩;obtain ⟨Yu,_⟩|⟨Yu,c,ec,o,ho,hd⟩:=l
     ·have ay:X.env.scope.names.lookup y=some .local:=Yu
      rw[M.2]at ay;cases ay
     ·exact .inr ⟨.inl<|l7 I.ok.kind M.1 M.2,c,(a1 _ (SM M.1) rfl).trans ec,o,Y c o ho,hd⟩
  ·obtain⟨v,o,ho,hd⟩:=O.cell y c (R y c e)
   exact⟨v,o,Y c o ho,hd⟩
  ·show B C=none
   rw[<-hC];exact O.hok.fresh<|QP _
 have av:tn 0 G:=T.keep 0 F G a0 λb _ o e=>Y b o e;have ab:∀{H':Hp},(∀b∈fp,H' b=none)->∀b∈fp,nR (dq X (xs++ns) scope K fp { f with heap:=F } B C) [] H' b:=λ{H'} hn b a=>
  ⟨hn b a,Rb<|ad b a,a3.exfs b a,.inl a,λy c e=>(E b a).2.2.2.2.1 y c<|R y c e,λp hp=>absurd (show p∈([]:XA) from hp)<|by simp⟩
 have loop:codeAny (model X.prog X.w) X.A (.compLoop (.ListComp elt [⟨tg,iter,Yi,0⟩] scope pos) 0 (.ref it) (.ref D)<|compEnvC scope K C X.env)
   (compPost (model X.prog X.w) X.A X.xe use Qv (.ref D) C) { f with heap:=G,toks:=f.toks+0 }:=by
  refine qB (λn s'=>∃i os ys H',os.length=xs.length/\Inv (dq X (xs++ns) scope K fp { f with heap:=F } B C) [] (os++d8 is σ) H' s'/\tn i s'.heap/\(∀b∈fp,H' b=none)/\W i n ys H') ?_ m0 ⟨0,List.replicate xs.length none,[],B,rl,I4,av,am,w0⟩;rintro n s5 ⟨i,os,ys,H5,bv,I5,as,a2,w5⟩;obtain⟨cf,⟨stop,q⟩|⟨go,step⟩⟩:=Yk i n ys H5 w5
  ·refine cX (T.done (dq X (xs++ns) scope K fp { f with heap:=F } B C) rfl rfl rfl hc i [] s5 _ H5 _ I5 (ab a2) as stop) λr s6 ⟨hr,S⟩=>?_
   subst hr;obtain⟨m,hn,_⟩:=id S.loc;have ca:∀b o,F.get? b=some o->b≠C:=λb o e=>by rw[<-hC];exact Rb<|Ri e
   have fC:H5 C=none:=S.free;have bc:Inv X XC σ H5 s6:=by
    refine O.Dx (s':=s6) (ch:=fp) S.os ⟨λb o e nn a hx=>?_,λb o e nn a hx=>?_,S.base.free,λb o e hx=>?_,S.base.tups,S.base.frzs,S.base.tbls⟩ (λb ob e=>S.hok b ob e) S.bare λb a=>⟨(E b a).2.2.2.1,(E b a).2.1,(E b a).2.2.2.2.1,(E b a).2.2.2.2.2⟩
    ·exact S.base.keep b o e nn a hx
    ·exact S.base.slot b o e nn a hx
    ·exact S.base.there b o e hx
   exact fin D C H5 s6 m q bc (O.uj (SA hC) fC) hn
  ·refine cX (T.item (dq X (xs++ns) scope K fp { f with heap:=F } B C) rfl rfl rfl hc i [] s5 _ H5 _ I5 (ab a2) as go) λr s6 ⟨u,hr,h6⟩=>?_
   subst hr;refine cX h6 λ_ s7 ar=>?_;obtain⟨v,H7,I7,r7,y7,ac,bn⟩:=ar;have a9:=I7.pinned (ab bn)<|T.obj _ _ ac;refine RW (hg K fp { f with heap:=F } B C _ s7 (os++d8 is σ) H7 v u _ a9 r7 (step os v H7 bv y7)) (λ_ s8 ⟨ce,H8,I8,⟨ax,al,e8⟩,q8⟩=>?_) λ_ _ z=>False.elim z;subst e8;refine RW (YF K fp { f with heap:=F } B C _ s8 _ H8 _ I8 q8) (λbb sb ⟨Hb,Ib,qb⟩=>?_) λ_ _ z=>False.elim z;cases bb with
   |false=>
    rw[QO bF0]at qb;rw[QO bF0];obtain⟨m',an,w9⟩:=qb;refine⟨m',an,i+1,ax,ys,_,al,Ib.iw,T.keep _ _ _ ac λb a o e=>(Ib.pin (b,o)<|QV _<|QV _<|eW a e).1,λb a=>?_,w9⟩;obtain⟨o',e,d⟩:=T.obj _ _ ac b a;exact(Ib.pin (b,o')<|QV _<|QV _<|eW a e).2.1
   |true=>
    rw[QR rfl]at qb;rw[QR rfl];refine RW (he K fp { f with heap:=F } B C O E _ sb _ Hb _ Ib qb) (λuy s9 ⟨y,H9,I9,r9,bi,b1,m',an,w9⟩=>?_) λ_ _ z=>False.elim z;refine RW (r6 (X:=dq X (xs++ns) scope K fp { f with heap:=F } B C) _ s9 _ H9 (.ref D) [y] (.ref D) [uy] (λ_ H'=>H'=upd H9 D (.lst<|ys++[y])) I9 rfl (.cons r9 .nil) ⟨D,ys,y,rfl,rfl,bi,b1,rfl⟩) (λ_ b4 ⟨_,cc,ap,_,XW⟩=>?_) λ_ _ z=>False.elim z;subst XW;refine⟨m',an,i+1,ax,ys++[y],_,al,ap.iw,T.keep _ _ _ ac λb a o e=>(ap.pin (b,o)<|QV _<|QV _<|eW a e).1,λb a=>?_,w9⟩;obtain⟨o',e,d⟩:=T.obj _ _ ac b a;exact(ap.pin (b,o')<|QV _<|QV _<|eW a e).2.1
 exact codeAny_compStart_list loop<|T.self X.A 0 _ _ _ av loop
def sH:EC X XC σ Q none (EP X XC σ Q):=by
 intro D C j a m q g n h;refine⟨m,h,λl f=>⟨.ref D,j,g.m8 (t':=a.toks) (λb o=>?_) λb u i e=>(f.2 b λz=>i<|QQ.mpr z).trans e,rfl,q⟩⟩;grind
def Bi(J:X.N.Nodup)(g:X.N[iy]? =some y)(l:Loc X.env.scope y)(n:X.fn y=true\/X.env.scope.names.lookup y=some .local):
  EC X XC σ (λv H'=>Dn.nx (σ.set iy<|some v) H') (some<|assign (.Name y py) X.env) (λ_ s'=>SP X XC Dn .next s'):=by
 intro D C i A m q j Q K;have f:∀b∈[C],nR X XC i b:=λb E=>by grind
 obtain⟨x,p,h,s,O⟩:=id K;refine cX ((o8 J g l n) _ A σ i (.ref D) (.ref D) (λo H'=>o=σ.set iy (some<|.ref D)/\H'=i) (j.pinned f λb E=>by grind) rfl ⟨rfl,rfl⟩) λ_ H a=>?_;obtain⟨F,B,w,L,I⟩:=a;subst L;subst I;have r:=(w.pin (C,x)<|QV _<|QV _<|eW (QQ.mpr rfl) s).1;exact⟨m,⟨x,p,h,r,O⟩,λP M=>⟨_,B,w.iw.m8 (t':=H.toks) f λb u G e=>(M.2 b λz=>G<|QQ.mpr z).trans e,q⟩⟩
def LU(p:X.calm=true)(n:PI X tg iter wi)(L:vT sc N xs scope is ns)(l:∀e fp f a C,PG (dq X (xs++ns) scope e fp f a C) tg g)(j:∀e fp f a C,L9 (dq X (xs++ns) scope e fp f a C) Yi tc)(he:∀e fp f a C,PE (dq X (xs++ns) scope e fp f a C) elt te)
  (i:X.env.scope=sc)(o:X.N=N)(m:∀x,foldedSetIterable iter X.env x=pure x):PE X (.ListComp elt [⟨tg,iter,Yi,0⟩] scope pos) (Hx wi xs.length is g tc te):=by
 intro q s σ H Q I h;rw[eval_ListComp];exact mH I h (λ_ _ z=>z) sH p n L l j (λe fp f a C _ _=>he e fp f a C) i o m
def Cg(r:X.N.Nodup)(i:X.N[iy]? =some y)(j:Loc X.env.scope y)(l:X.fn y=true\/X.env.scope.names.lookup y=some .local)(m:swapsWith (.ListComp elt [⟨tg,iter,Yi,0⟩] scope pos) (some<|.Name y py) spos.line X.env=pure true)
  (B:X.calm=true)(w:PI X tg iter wi)(L:vT sc N xs scope is ns)(p:∀e fp f a C,PG (dq X (xs++ns) scope e fp f a C) tg g)(o:∀e fp f a C,L9 (dq X (xs++ns) scope e fp f a C) Yi tc)(he:∀e fp f a C,PE (dq X (xs++ns) scope e fp f a C) elt te)
  (n:X.env.scope=sc)(A:X.N=N)(v:∀x,foldedSetIterable iter X.env x=pure x):PS X (.Assign [.Name y py] (.ListComp elt [⟨tg,iter,Yi,0⟩] scope pos) spos) (vP (Hx wi xs.length is g tc te)<|eR iy):=by
 intro F s σ H E I h;rw[exec_Assign_Name_used _ _ _ _ m];refine QH<|wpAny_standAt<|QH ?_;exact QH<|cX (mH I h (λ_ _ z=>z) (Bi r i j l) B w L p o (λe fp f a C _ _=>he e fp f a C) n A v) λ_ D q=>QI<|QI q
def Mi(h:jY J is te σ H1 Q):eF J 1 is (eR 0) wK te σ H1 Q:=by
 intro D r;obtain⟨W,q,k⟩:=h D r;refine⟨W,q,λi m f l w=>?_⟩;obtain⟨e,z|⟨p,nx⟩⟩:=k i m f l w
 ·grind
 ·refine⟨e,.inr ⟨p,λn v j a y=>?_⟩⟩
  match n,a with
  |[o],_=>exact⟨⟨[some v],rfl,rfl⟩,fL (B:=∃g,g<m/\W (i+1) g f j)<|nx v j y⟩
def Dp(m:X.calm=true)(i:PI X (.Name x px) iter wi)(L:N3 sc N x scope is ns)(he:∀a fp e g C,PE (dq X (x::ns) scope a fp e g C) elt te)
  (f:X.env.scope=sc:=by rfl)(l:X.N=N:=by rfl)(j:∀x,foldedSetIterable iter X.env x=pure x:=by intro _;rfl):PE X (.ListComp elt [⟨.Name x px,iter,[],0⟩] scope pos) (Qd wi is te):=by
 intro n s σ H Q I h;rw[eval_ListComp];exact mH (xs:=[x]) I h (λ_ _ z=>Mi z) sH m i ⟨L.kind,L.nocell,L.names,L.free,L.cap,L.capf⟩ (λ_ _ _ _ _=>o8 L.nd rfl (.inl<|SG L.hx)<|.inr<|SG L.hx) (λ_ _ _ _ _=>zP) (λa fp e g C _ _=>he a fp e g C) f l j
section
variable {K:Frag}{is:Xw Nat}{g:TG}{tc:TT}{te:TE}{σ:St}{H:Hp}{Q:VK}
def gQ(p:Nat->Bool)(f:Nat->V)(i:Nat):((List.range<|i+1).filter p).map f=((List.range i).filter p).map f++if p i=true then [f i] else []:=by
 rw[List.range_succ,SJ,Sr];grind
def xR(p:Nat->Bool)(f:Nat->V)(hz:N<=sizeLine)(M:∀i a,cH H a->i<N->J.go i a)(O:∀a,cH H a->J.stop N a)
  (he:∀(i:Nat)(z:St) v a x (I:VK)(G:Hp->Prop),i<N->z.length=n->cH H a->J.yld i a v x->(p i=true->∀A,cH a A->I (f i) A)->(p i=false->∀l,cH a l->G l)->
   g v (z++d8 is σ) x λj H4=>(∃r:St,r.length=n/\j=r++d8 is σ)/\tc j H4 λb l=>if b=true then te j l I else G l)
  (q:∀D H',H D=none->cH H H'->H' D=some (.lst<|((List.range N).filter p).map f)->Q (.ref D) H'):eF J n is g tc te σ H Q:=by
 intro D s;refine⟨λi m C a=>m=N-i/\i<=N/\cH H a/\a D=some (.lst C)/\C=((List.range i).filter p).map f,⟨_,rfl,RQ _,cH.upd s,cE,rfl⟩,?_⟩;rintro i m C a ⟨rfl,R,w,B,rfl⟩;refine⟨B,?_⟩;by_cases h:i<N
 ·refine .inr ⟨M i a w h,λz v x E y=>?_⟩
  have P:(((List.range i).filter p).map f).length<=i:=by grind
  refine he i z v a x _ _ h E w y (λK A F=>⟨F _ _ B,by lia,N-(i+1),by lia,rfl,h,λb o e=>?_,cE,?_⟩) (λK l L=>⟨N-(i+1),by lia,rfl,h,w.trans L,L _ _ B,?_⟩)
  ·rw[cG<|cF e s]
   exact F _ _<|w _ _ e
  ·rw[gQ,QR K]
  ·rw[gQ,QO<|by grind,Ry]
 ·grind
def w8(p:Nat->Bool)(f:Nat->V)(w:cN K H a xs)(hz:xs.length<=sizeLine)
  (he:∀(i:Nat)(s:St) v h (r:VK)(o:Hp->Prop),xs[i]? =some v->s.length=n->cH H h->(p i=true->∀z,cH h z->r (f i) z)->(p i=false->∀m,cH h m->o m)->
   g v (s++d8 is σ) h λe H4=>(∃l:St,l.length=n/\e=l++d8 is σ)/\tc e H4 λb m=>if b=true then te e m r else o m)
  (q:∀D H',H D=none->cH H H'->H' D=some (.lst<|((List.range xs.length).filter p).map f)->Q (.ref D) H'):eF (FY K a) n is g tc te σ H Q:=
 xR p f hz (λi h j A=>⟨xs,xs[i],j.seq w,by simp[A]⟩) (λh j=>⟨xs,j.seq w,QP _⟩) (λi s v h E r o A x j y B C=>by
  obtain⟨rfl,y⟩:=y;exact he i s v _ r o (y xs<|j.seq w) x j B C) q
def rG{lo:Int}(p:Nat->Bool)(f:Nat->V)(hz:N<=sizeLine)
  (he:∀(i:Nat)(o:St) e (m:VK)(l:Hp->Prop),i<N->o.length=n->cH H e->(p i=true->∀w,cH e w->m (f i) w)->(p i=false->∀j,cH e j->l j)->
   g (.int<|lo+i) (o++d8 is σ) e λa H4=>(∃h:St,h.length=n/\a=h++d8 is σ)/\tc a H4 λb j=>if b=true then te a j m else l j)
  (q:∀D H',H D=none->cH H H'->H' D=some (.lst<|((List.range N).filter p).map f)->Q (.ref D) H'):eF (qI lo N) n is g tc te σ H Q:=
 xR p f hz (λi e _ r=>r) (λe _=>QP N) (λi o v e B m l r s z y x A=>by
  obtain⟨rfl,rfl⟩:=y;exact he i o _ m l r s z x A) q
def C4(p:Nat->Bool)(f:Nat->V)(w:cN K H a xs)(hz:xs.length<=sizeLine)
  (he:∀(i:Nat)(s:St) v (t:Xp) e (r:VK)(o:Hp->Prop),xs[i]? =some v->s.length=n->cH H e->e t=none->(p i=true->∀A,cH e A->r (f i) A)->(p i=false->∀m,cH e m->o m)->
   g (.ref t) (s++d8 is σ) (upd e t<|.tup [.int i,v]) λh H4=>(∃l:St,l.length=n/\h=l++d8 is σ)/\tc h H4 λb m=>if b=true then te h m r else o m)
  (q:∀D H',H D=none->cH H H'->H' D=some (.lst<|((List.range xs.length).filter p).map f)->Q (.ref D) H'):eF (L8 K a) n is g tc te σ H Q:=
 xR p f hz (λi e j B=>⟨xs,xs[i],j.seq w,by simp[B]⟩) (λe j=>⟨xs,j.seq w,rfl⟩) (λi s v e G r o B z j y C F=>by
  obtain⟨t,x,E,rfl,rfl,y⟩:=y;exact he i s x t _ r o (y xs<|j.seq w) z j E C F) q
end
theorem vE:∀bs:Xw Bool,((List.range bs.length).any λi=>bs.getD i false)=bs.any id
 |[]=>rfl
 |b::r=>by
  rw[RG,U8,Tp,any_map,Tp,<-vE r];rfl
def mE(P:X.calm=true):eG X (.builtin "any") (λxs H Q=>∃(p:Xp) (bs:Xw Bool),xs=[.ref p]/\cN X.K H p (bs.map V.bl)/\Q (.bl<|bs.any id) H):=by
 intro B s σ H xs Y Q I r h;obtain⟨p,bs,rfl,J,q⟩:=h;obtain⟨u,rfl,N⟩:=vals1 r;cases N;obtain⟨a,l,g,U⟩:=I.list J;have m:=l.length;rw[QM]at m;have f:p<s.heap.objs.size:=by obtain⟨o,n,e,_⟩:=g;exact Ri e
 refine call_any_walk<|TX g.isList ?_;refine⟨s.heap.objs.size,[s.heap.objs.size,p],[s.heap.objs.size],a.toArray.size,_,_,λi=>bs.getD i false,rfl,V6 (show X.A.in1.handled=none from I.ok.hd P) s.heap.objs.size p (Rb f) a.toArray,
  ⟨⟨_,QX _ rfl,rfl,rfl⟩,?_⟩,λi v R W T x D=>?_,λF j G=>?_⟩
 ·obtain⟨o,e,r⟩:=g.isList
  exact⟨o,QL _ e,r⟩
 ·have w:i<bs.length:=by
   have:i<a.length:=by
    have:=(TM.mp x).1
    simpa using this
   lia
  have C:(bs.map V.bl)[i]? =some (V.bl bs[i]):=by simp[w]
  obtain⟨u,M,O⟩:=l.get C;have y:a[i]? =some v:=by simpa using x
  rw[M]at y;cases y;obtain rfl:v=Value.bool bs[i]:=O;refine RO ?_;have e:bs.getD i false=bs[i]:=by simp[List.getD,w]
  rw[<-e];exact D
 ·refine⟨.bl<|bs.any id,H,?_,?_,q⟩
  ·have S:Inv X B σ H { s with heap:=s.heap.push { cls:=.type "list_iterator",data:=.fields #[.ref p,.int 0 0] } }:=I.kept (t':=s.toks) λb o e=>QL _ e
   have L:Inv X B σ H { s with heap:=F,toks:=j }:=I.kept (t':=j) λb o e=>G b o (by
    intro z;have E:b=s.heap.objs.size:=by simpa using z
    exact absurd (Ri e)<|by rw[E];exact UD _)<|QL _ e
   exact L
  ·show Value.bool _=Value.bool _
   congr 1
   rw[Rw,<-m];exact vE bs
end L2
namespace J
structure Oq(X:Cx)(Yi:Xw Expr)(t:TT):Prop where
 out:L9 X Yi t
def _root_.cz(j:X.calm=true)(l:JI X (.Name x px) it wi)(L:N3 sc N x scope is ns)(he:∀a fp e g C,JE (dq X (x::ns) scope a fp e g C) elt te)(f:X.env.scope=sc)(i:X.N=N)(h:∀x,foldedSetIterable it X.env x=pure x:=by intro _;rfl):
  JE X (.ListComp elt [⟨.Name x px,it,[],0⟩] scope pos) (Qd wi is te):=⟨Dp j l.out L (λa fp e g C=>(he a fp e g C).out) f i h⟩
def _root_.bU:Oq X [] wK:=⟨zP⟩
def _root_.bC(h:JT X ct tc):Oq X [ct] tc:=⟨Fw h.out⟩
def _root_.aM (h:scope.names.lookup y=some .local:=by rfl) (a:xs[i]? =some y:=by rfl) (db:(y==("__debug__" :Xx))=false:=by decide) (cd:(y==("__classdict__" :Xx))=false:=by decide):JE (dq X xs scope cl fp s3 H3 C) (.Name y p) (jd i):=
 ⟨mV a (.inl<|SG h) db cd⟩
def _root_.aS (h:scope.names.lookup y=some .free:=by rfl) (a:xs[i]? =some y:=by rfl) (db:(y==("__debug__" :Xx))=false:=by decide) (cd:(y==("__classdict__" :Xx))=false:=by decide):JE (dq X xs scope cl fp s3 H3 C) (.Name y p) (jd i):=
 ⟨mV a (.inr<|jx h) db cd⟩
def _root_.a6(nd:xs.Nodup:=by decide+kernel)(h:scope.names.lookup y=some .local:=by rfl)(a:xs[i]? =some y:=by rfl):JG (dq X xs scope cl fp s3 H3 C) (.Name y p) (eR i):=
 ⟨o8 nd a (.inl<|SG h)<|.inr<|SG h⟩
def _root_.bB(m:X.calm=true)(n:JI X tg it wi)(L:vT sc N xs scope is ns)(l:∀a fp e f C,JG (dq X (xs++ns) scope a fp e f C) tg g)(i:∀a fp e f C,Oq (dq X (xs++ns) scope a fp e f C) Yi tc)(he:∀a fp e f C,JE (dq X (xs++ns) scope a fp e f C) elt te)
  (h:X.env.scope=sc)(o:X.N=N)(j:∀x,foldedSetIterable it X.env x=pure x:=by intro _;rfl):JE X (.ListComp elt [⟨tg,it,Yi,0⟩] scope pos) (Hx wi xs.length is g tc te):=
 ⟨LU m n.out L (λa fp e f C=>(l a fp e f C).out) (λa fp e f C=>(i a fp e f C).out) (λa fp e f C=>(he a fp e f C).out) h o j⟩
def _root_.bY(S:L2.Slot X iy y)(i:X.N.Nodup)(o:X.calm=true)(p:JI X tg it wi)(L:vT sc N xs scope is ns)(m:∀a fp e f C,JG (dq X (xs++ns) scope a fp e f C) tg g)(j:∀a fp e f C,Oq (dq X (xs++ns) scope a fp e f C) Yi tc)(he:∀a fp e f C,JE (dq X (xs++ns) scope a fp e f C) elt te)
  (h:X.env.scope=sc)(q:X.N=N)
  (hw:((if sc.kind.isAnnotationScope then ScopeKind.function else sc.kind)==.function&&sc.names.lookup y==some .local&&py.line==pos.line && !(scope.names.any λ(n,k)=>n==y&&(k==.local||k==.cell)))=true)
  (l:∀x,foldedSetIterable it X.env x=pure x:=by intro _;rfl):
  JS X (.Assign [.Name y py] (.ListComp elt [⟨tg,it,Yi,0⟩] scope pos) spos) (vP (Hx wi xs.length is g tc te)<|eR iy):=
 ⟨Cg i S.hN S.lc S.fn (B7 h hw) o p.out L (λa fp e f C=>(m a fp e f C).out) (λa fp e f C=>(j a fp e f C).out) (λa fp e f C=>(he a fp e f C).out) h q l⟩
def mE(a:X.calm=true):JF X (.builtin "any") (λxs H Q=>∃(p:Xp) (bs:Xw Bool),xs=[.ref p]/\cN X.K H p (bs.map V.bl)/\Q (.bl<|bs.any id) H):=⟨L2.mE a⟩
end J
namespace L2
section
variable [DecidableEq κ]
def dR(XD:Xw (κ×V))(k:κ):Xu V:=(XD.find? λa=>decide<|a.1=k).map (·.2)
def putK(XD:Xw (κ×V))(k:κ)(v:V):Xw (κ×V):=
 if(XD.any λa=>decide<|a.1=k)=true then XD.map (λa=>if a.1=k then(a.1,v) else a) else XD++[(k,v)]
def ee{p:κ×V}{r:Xw (κ×V)}{k:κ}(e:p.1=k):dR (p::r) k=some p.2:=by simp[dR,find?_cons,e]
def d9{p:κ×V}{r:Xw (κ×V)}{k:κ}(e:¬p.1=k):dR (p::r) k=dR r k:=by simp[dR,find?_cons,e]
theorem gC(k:κ):∀XD:Xw (κ×V),(XD.any λa=>decide<|a.1=k)=(dR XD k).isSome
 |[]=>rfl
 |p::r=>by
  rw[Tp];by_cases e:p.1=k
  ·simp only[ee e,dT0 e,Bool.true_or,Option.isSome_some]
  ·rw[d9 e,QU e,Bool.false_or];exact gC k r
theorem wH(k j:κ)(y:V):∀XD:Xw (κ×V),dR (XD.map λa=>if a.1=k then(a.1,y) else a) j=(dR XD j).map λx=>if j=k then y else x
 |[]=>rfl
 |p::r=>by
  have f:=wH k j y r;rw[RL];by_cases h:p.1=k
  ·rw[QR h]
   by_cases e:p.1=j
   ·rw[ee (p:=(p.1,y)) e,ee e,Xj,QR<|e.symm.trans h]
   ·rw[d9 (p:=(p.1,y)) e,d9 e,f]
  ·rw[QO h]
   by_cases e:p.1=j
   ·rw[ee e,ee e,Xj,QO λz=>h<|e.trans z]
   ·rw[d9 e,d9 e,f]
theorem sf(k j:κ)(y:V):∀XD:Xw (κ×V),dR XD k=none->dR (XD++[(k,y)]) j=if j=k then some y else dR XD j
 |[],_=>by
  by_cases e:k=j
  ·rw[QR e.symm];exact ee e
  ·rw[QO λz=>e z.symm];exact d9 e
 |p::r,hn=>by
  rw[List.cons_append];have a:¬p.1=k:=λz=>by rw[ee z]at hn;cases hn
  rw[d9 a]at hn;by_cases e:p.1=j
  ·rw[ee e,ee e,QO λz=>a<|e.trans z]
  ·rw[d9 e,d9 e,sf k j y r hn]
def cP(XD:Xw (κ×V))(k j:κ)(y:V):dR (putK XD k y) j=if j=k then some y else dR XD j:=by
 unfold putK;by_cases a:(XD.any λf=>decide<|f.1=k)=true
 ·rw[QR a,wH]
  rw[gC]at a;by_cases e:j=k
  ·obtain⟨x,g⟩:=Wn.mp a
   rw[QR e,e,g,Xj,QR rfl]
  ·simp_all
 ·rw[QO a]
  refine sf k j y XD ?_;rw[gC]at a;cases q:dR XD k with
  |none=>rfl
  |some x=>grind
def di(XD:Xw (κ×V))(k:κ)(v:V):(putK XD k v).length<=XD.length+1:=by
 unfold putK;split
 ·grind
 ·grind
def jr.ip{o:Xu V}{u:Xu Xo}(r:jr o u):o.isSome=u.isSome:=by
 cases o with
 |none=>cases u with
  |none=>rfl
  |some _=>exact(show False from r).elim
 |some _=>cases u with
  |none=>exact(show False from r).elim
  |some _=>rfl
def jr.getD{o:Xu V}{u:Xu Xo}{d:V}{d':Xo}(r:jr o u)(rd:RelV d d'):RelV (o.getD d) (u.getD d'):=by
 cases o with
 |none=>cases u with
  |none=>exact rd
  |some _=>exact(show False from r).elim
 |some _=>cases u with
  |none=>exact(show False from r).elim
  |some _=>exact r
def KV.val{XD:Xw (κ×V)}{vs:Xw (κ×Xo)}(r:KV XD vs)(k:κ):jr (dR XD k) (valueAt vs k):=by
 unfold KV at r
 induction r with
 |nil=>exact True.intro
 | @cons p q ps qs h t ih=>
  obtain⟨f,g⟩:=h;by_cases e:p.1=k
  ·have a:=f.symm.trans e
   have b:valueAt (q::qs) k=some q.2:=by simp[valueAt,find?_cons,a]
   rw[ee e,b];exact g
  ·have a:¬q.1=k:=λz=>e (f.trans z)
   have b:valueAt (q::qs) k=valueAt qs k:=by simp[valueAt,find?_cons,a]
   rw[d9 e,b];exact ih
def KV.any{XD:Xw (κ×V)}{vs:Xw (κ×Xo)}(r:KV XD vs)(k:κ):(XD.any λa=>decide<|a.1=k)=vs.any λa=>decide (a.1=k):=by
 unfold KV at r
 induction r with
 |nil=>rfl
 |cons h t e=>rw[Tp,Tp,e,h.1]
def KV.Lp{XD:Xw (κ×V)}{vs:Xw (κ×Xo)}(r:KV XD vs)(k:κ){y:V}{u:Xo}(i:RelV y u):
  KV (XD.map λa=>if a.1=k then(a.1,y) else a) (vs.map λa=>if a.1=k then(a.1,u) else a):=by
 unfold KV at r ⊢
 induction r with
 |nil=>exact .nil
 | @cons p q ps qs h t ih=>
  rw[RL,RL];refine .cons ?_ ih;obtain⟨f,g⟩:=h;by_cases e:p.1=k
  ·rw[QR e,QR<|f.symm.trans e];exact⟨f,i⟩
  ·rw[QO e,QO λz=>e<|f.trans z];exact⟨f,g⟩
def KV.put{XD:Xw (κ×V)}{vs:Xw (κ×Xo)}(r:KV XD vs)(k:κ){y:V}{u:Xo}(a:RelV y u):KV (putK XD k y) (stored vs k u):=by
 unfold putK stored;rw[r.any k];by_cases e:(vs.any λf=>decide<|f.1=k)=true
 ·rw[QR e,QR e];exact r.Lp k a
 ·rw[QO e,QO e];exact Paired.snoc r ⟨rfl,a⟩
def KV.length{XD:Xw (κ×V)}{vs:Xw (κ×Xo)}(r:KV XD vs):XD.length=vs.length:=RY r
end
def oq{P:Xr}{w:Xs}{k:Key}{u:Xo}(r:RelV (kV k) u):(cM P w).is k u=true:=by
 cases k with
 |inl i=>obtain⟨t,e⟩:=(show ∃t,u=Value.int i t from r);subst e;exact vB P w i t
 |inr x=>obtain⟨t,e⟩:=(show ∃t,u=Value.str x t from r);subst e;exact nZ P w x t
theorem rO{P:Xr}{w:Xs}:∀{a:Xw Key}{us:Xw Xo},Vals (a.map kV) us->ItemsAre (cM P w) a us
 |[],_,r=>by rw[map_nil]at r;cases r;exact .nil
 |k::a,_,r=>by
  rw[RL]at r;cases r with
  |cons h t=>exact .cons (oq h)<|rO t
abbrev KT(H:Hp):Xw (Xw Key×V)->Xw (Xw Key×Xp×Xo)->Prop:=Paired λp q=>p.1=q.1/\H q.2.1=some (.tup (p.1.map kV))/\RelV p.2 q.2.2
def KT.val{H:Hp}{XD:Xw (Xw Key×V)}{xs:Xw (Xw Key×Xp×Xo)}(r:KT H XD xs)(k:Xw Key):jr (dR XD k) ((atKey xs k).map (·.2)):=by
 induction r with
 |nil=>exact True.intro
 | @cons p q ps qs h t ih=>
  obtain⟨f,_,g⟩:=h;by_cases e:p.1=k
  ·have a:=f.symm.trans e
   have b:atKey (q::qs) k=some q.2:=by simp[atKey,find?_cons,a]
   rw[ee e,b];exact g
  ·have a:¬q.1=k:=λz=>e (f.trans z)
   have b:atKey (q::qs) k=atKey qs k:=by simp[atKey,find?_cons,a]
   rw[d9 e,b];exact ih
def KT.Lp{H:Hp}{XD:Xw (Xw Key×V)}{xs:Xw (Xw Key×Xp×Xo)}(r:KT H XD xs)(k:Xw Key){y:V}{u:Xo}(j:RelV y u):
  KT H (XD.map λf=>if f.1=k then(f.1,y) else f) (xs.map<|putAt k u):=by
 induction r with
 |nil=>exact .nil
 | @cons p q ps qs h t ih=>
  rw[RL,RL];refine .cons ?_ ih;obtain⟨a,g,i⟩:=h;unfold putAt;by_cases e:p.1=k
  ·rw[QR e,QR<|a.symm.trans e];exact⟨a,g,j⟩
  ·rw[QO e,QO λz=>e<|a.trans z];exact⟨a,g,i⟩
def KT.put{H:Hp}{XD:Xw (Xw Key×V)}{xs:Xw (Xw Key×Xp×Xo)}(r:KT H XD xs)(k:Xw Key){b:Xp}{y:V}{u:Xo}(g:H b=some (.tup<|k.map kV))(a:RelV y u):
  KT H (putK XD k y) (storedH xs k b u):=by
 have e:(XD.any λf=>decide<|f.1=k)=(atKey xs k).isSome:=by
  rw[gC,(r.val k).ip,T7]
 unfold putK storedH;rw[e];by_cases q:(atKey xs k).isSome=true
 ·rw[QR q,QR q];exact r.Lp k a
 ·rw[QO q,QO q];exact Paired.snoc r ⟨rfl,g,a⟩
def KT.keeps{H H':Hp}{XD:Xw (Xw Key×V)}{xs:Xw (Xw Key×Xp×Xo)}(r:KT H XD xs)(a:∀b ys,H b=some (.tup ys)->H' b=some (.tup ys)):KT H' XD xs:=
 Paired.Dh r λ_ _ z=>⟨z.1,a _ _ z.2.1,z.2.2⟩
def Jh{u:HO}(ok:gJ P w H h)(e:Rd H a u):cV P w H h a u:=e.ok ok
def ou{XD:Xw (Key×V)}(ok:gJ P w H h)(e:Rd H a (.dK XD)):XD.length<=sizeLine/\(a==sysModules)=false/\∃vs,KV XD vs/\h.DictOf (cM P w) a vs:=
 show cV P w H h a (.dK XD) from Jh ok e
def Ey{XD:Xw (Key×V)}(ok:gJ P w H h)(e:H a=some (.dK XD)):XD.length<=sizeLine/\(a==sysModules)=false/\∃vs,KV XD vs/\h.DictOf (cM P w) a vs:=ou ok<|.inl e
def jX{f:Xw Key}(ok:gJ P w H h)(e:H a=some (.tup<|f.map kV)):(tupleKind<|cM P w).is h f a:=by
 obtain⟨_,l,r,o,i,g,n,j⟩:=(show cV P w H h a (.tup<|f.map kV) from ok a _ e);exact⟨o,l.toArray,n,i,g,j,by simpa using rO r⟩
def qF{XD:Xw (Xw Key×V)}(ok:gJ P w H h)(e:Rd H a (.dT XD)):XD.length<=sizeLine/\(a==sysModules)=false/\
  ∃xs,KT H XD xs/\h.DictOfH (tupleKind<|cM P w) a xs:=by
 obtain⟨z,y,xs,r,o,s,A,j,g,v,i,n⟩:=(show cV P w H h a (.dT XD) from Jh ok e);refine⟨z,y,xs,r,o,s,A,j,g,v,i,λx f=>?_,n⟩;have all:∀{l:Xw (Xw Key×V)}{m:Xw (Xw Key×Xp×Xo)},KT H l m->∀x∈m,(tupleKind<|cM P w).is h x.1 x.2.1:=by
  intro l m q
  induction q with
  |nil=>intro x f;exact nomatch f
  | @cons p q ps qs hq t ih=>
   intro x f;obtain e|f:=Rq.mp f
   ·subst e
    exact jX ok (by rw[<-hq.1];exact hq.2.1)
   ·exact ih x f
 exact all r x f
def Mv{XD:Xw (Xw Key×V)}(ok:gJ P w H h)(e:H a=some (.dT XD)):XD.length<=sizeLine/\(a==sysModules)=false/\
  ∃xs,KT H XD xs/\h.DictOfH (tupleKind<|cM P w) a xs:=qF ok<|.inl e
def dI(H:Hp)(a:Xp)(y:V)(r:Xu V):Prop:=
 (∃e k,Rd H a (.dK e)/\y=kV k/\r=dR e k)\/∃e k b,Rd H a (.dT e)/\y=.ref b/\H b=some (.tup<|k.map kV)/\r=dR e k
def j8(H:Hp)(a:Xp)(y v:V)(H':Hp):Prop:=
 (∃e k,H a=some (.dK e)/\y=kV k/\e.length<sizeLine/\H'=upd H a (.dK<|putK e k v))\/
 ∃e k b,H a=some (.dT e)/\y=.ref b/\H b=some (.tup<|k.map kV)/\e.length<sizeLine/\H'=upd H a (.dT<|putK e k v)
def dI.k{H:Hp}{a:Xp}{XD:Xw (Key×V)}{k:Key}(e:H a=some (.dK XD)):dI H a (kV k) (dR XD k):=.inl ⟨XD,k,.inl e,rfl,rfl⟩
def dI.t{H:Hp}{a b:Xp}{XD:Xw (Xw Key×V)}{k:Xw Key}(e:H a=some (.dT XD))(f:H b=some (.tup<|k.map kV)):dI H a (.ref b) (dR XD k):=.inr ⟨XD,k,b,.inl e,rfl,f,rfl⟩
def j8.k{H:Hp}{a:Xp}{XD:Xw (Key×V)}{k:Key}{v:V}(e:H a=some (.dK XD))(f:XD.length<sizeLine):j8 H a (kV k) v (upd H a<|.dK<|putK XD k v):=.inl ⟨XD,k,e,rfl,f,rfl⟩
def j8.t{H:Hp}{a b:Xp}{XD:Xw (Xw Key×V)}{k:Xw Key}{v:V}(e:H a=some (.dT XD))(g:H b=some (.tup<|k.map kV))(f:XD.length<sizeLine):
  j8 H a (.ref b) v (upd H a<|.dT<|putK XD k v):=.inr ⟨XD,k,b,e,rfl,g,f,rfl⟩
def Inv.big(I:Inv X XC σ H s):sysModules<s.heap.objs.size:=Vy (by decide)<|(I.mod.glob.keeps I.bk).lt
def BJ{Q:Xy}(D:A.units+1<cLine)(I:Inv X XC σ H s)(g:dI H a y (some v))(r:RelV y u)(h:∀j s',Inv X XC σ H s'->RelV v j->Q j s'):
  wpAny (model X.prog X.w) A (getItem (.ref a) u) Q E s:=by
 obtain ⟨F,k,e,q,l⟩|⟨F,k,b,e,q,B,l⟩:=g
 ·subst q
  obtain⟨z,x,G,i,o⟩:=ou I.hok e;obtain⟨j,n,f⟩:=jr.some_of (by rw[l];exact i.val k);exact wpAny_getItem_of (oq r) o.mapOf n<|h j _ (I.tok _) f
 ·subst q
  cases (show u=Value.ref b from r);obtain⟨z,x,J,i,o⟩:=qF I.hok e;obtain⟨j,n,f⟩:=jr.some_of (by rw[l];exact i.val k);obtain⟨p,C,m⟩:=RC.mp n;refine wpAny_getItem_heap (Uk D) (jX I.hok B) o C ?_;rw[m];exact h j _ (I.tok _) f
def PD{Q:Xy}(r:A.units+1<cLine)(I:Inv X XC σ H s)(g:dI H a y o)(n:RelV y u)(h:∀s',Inv X XC σ H s'->Q (.bool o.isSome) s'):
  wpAny (model X.prog X.w) A (compareOp .In u<|.ref a) Q E s:=by
 obtain ⟨p,k,e,j,l⟩|⟨p,k,b,e,j,v,l⟩:=g
 ·subst j
  obtain⟨z,i,x,f,m⟩:=ou I.hok e;refine wpAny_in_of (oq n) i m.mapOf ?_;rw[<-(f.val k).ip,<-l];exact h _<|I.tok _
 ·subst j
  cases (show u=Value.ref b from n);obtain⟨z,i,B,f,m⟩:=qF I.hok e;refine wpAny_in_heap (Uk r) (jX I.hok v) i m ?_;have q:=(f.val k).ip;rw[T7]at q;rw[<-q,<-l];exact h _<|I.tok _
def Hr{Q:Xy}(r:A.units+1<cLine)(I:Inv X XC σ H s)(g:dI H a y o)(n:RelV y u)(h:∀s',Inv X XC σ H s'->Q (.bool<|!o.isSome) s'):
  wpAny (model X.prog X.w) A (compareOp .NotIn u<|.ref a) Q E s:=by
 obtain ⟨p,k,e,j,l⟩|⟨p,k,b,e,j,v,l⟩:=g
 ·subst j
  obtain⟨z,i,x,f,m⟩:=ou I.hok e;refine wpAny_notIn_of (oq n) i m.mapOf ?_;rw[<-(f.val k).ip,<-l];exact h _<|I.tok _
 ·subst j
  cases (show u=Value.ref b from n);obtain⟨z,i,B,f,m⟩:=qF I.hok e;refine wpAny_notIn_heap (Uk r) (jX I.hok v) i m ?_;have q:=(f.val k).ip;rw[T7]at q;rw[<-q,<-l];exact h _<|I.tok _
def kh{h':Heap}{t':Nat}{ob:HO}(I:Inv X XC σ H s)(g:Nf (H a))(f:Heap.SameBut a s.heap h')(he:∃q,h'.get? a=some q)(new:cV X.prog X.w (upd H a ob) h' a ob):
  Inv X XC σ (upd H a ob) { s with heap:=h',toks:=t' }:=
 I.write g (.inl rfl) (λb q e z=>(f.2 b e).trans z) he new
def xI{P:Xr}{w:Xs}{H':Hp}{h':Heap}{XD:Xw (Key×V)}{vs:Xw (Key×Xo)}(z:XD.length<=sizeLine)(hd:(a==sysModules)=false)(rel:KV XD vs)(e:h'.DictOf (cM P w) a vs):
  cV P w H' h' a (.dK XD):=⟨z,hd,vs,rel,e⟩
def Bs{H':Hp}{Q:Xz}(T:A.units+1<cLine)(I:Inv X XC σ H s)(g:j8 H a y v H')(K:RelV y u)(J:RelV v r)(h:∀s',Inv X XC σ H' s'->Q () s'):
  wpAny (model X.prog X.w) A (setItem (.ref a) u r) Q E s:=by
 obtain ⟨j,k,e,C,l,o⟩|⟨j,k,b,e,C,G,l,o⟩:=g
 ·subst C o
  obtain⟨z,n,M,f,B⟩:=Ey I.hok e;have P:M.length<=sizeLine:=by rw[<-f.length];exact z
  have p:(putK j k v).length<=sizeLine:=by have:=di j k v;lia
  refine wpAny_setItem_pairs (oq K) B λF i x=>h _ ?_;have Y:∃q,F.get? a=some q:=let ⟨q,_,_,m,_⟩:=i;⟨q,m⟩;exact kh I (by rw[e];exact True.intro) x Y<|xI p n (f.put k J) i
 ·subst C o
  cases (show u=Value.ref b from K);obtain⟨z,n,R,f,B⟩:=Mv I.hok e;have P:R.length<=sizeLine:=by rw[<-RY f];exact z
  have p:(putK j k v).length<=sizeLine:=by have:=di j k v;lia
  refine wpAny_setItem_heap (Uk T) (jX I.hok G) B λF i x=>h _ ?_;obtain⟨q,S,W,m,L,U,N,_,O⟩:=i;refine kh I (by rw[e];exact True.intro) x ⟨q,m⟩ ⟨p,n,_,(f.put k G J).keeps λc Z D=>?_,q,S,W,m,L,U,N,O⟩;rw[cG<|pG D e λz=>nomatch z];exact D
def KR(i:Expr):Prop:=∀e a,subscripted i false e a=operate [e,a] (getItem e a)
def AI{prog:Xr}{w:Xs}{A:Xv}{E:Xy}{s:Xq}{env:Env}{value slice:Expr}{pos:Pos}{T id:String}{Q:Xy}
  (p:typeLookup (.type T) "__getitem__" =pure (some<|.builtin id)) (q:KR slice)
  (h:wpAny (model prog w) A (eval value env) (λo g=>wpAny (model prog w) A (eval slice env) (λi a=>a.TypeIs o T/\wpAny (model prog w) A (getItem o i) Q E a) E g) E s):
  wpAny (model prog w) A (eval (.Subscript value slice pos) env) Q E s:=by
 refine Subscript_<|RW h (λo g l=>RW l (λi a e=>?_) λ_ _ x=>x) λ_ _ x=>x;obtain⟨n,e⟩:=e;unfold subscriptTail;refine QH ?_;rw[getitemInPython_of_ne n.not_modules];refine QH<|Te n p ?_;have j:wpAny (model prog w) A (subscripted slice false o i) (λr f=>wpAny (model prog w) A (letTemporaryGo value o r >>= λ_=>pure r) Q E f) E a:=by
  rw[q o i];exact wpAny_operating<|RW e (λr f m=>QH<|wpAny_letTemporaryGo<|QI m) λ_ _ x=>x
 first
  |exact QI<|QH j
  |exact QH<|QI<|QH j
  |exact QH j
def wA{X:Cx}{i:XA}{σ:St}{H:Hp}{s:Xq}{a:Xp}{y:V}{o:Xu V}(I:Inv X i σ H s)(g:dI H a y o):s.TypeIs (.ref a) "dict" :=by
 obtain ⟨h,k,e,_,_⟩|⟨h,k,b,e,_,_,_⟩:=g
 ·obtain⟨_,_,j,_,f⟩:=ou I.hok e
  exact f.typeIs
 ·obtain⟨_,_,l,_,f⟩:=qF I.hok e
  exact f.typeIs
def ID(f ty:TE):TE:=λσ H Q=>f σ H λx H1=>ty σ H1 λy e=>∃a v,x=.ref a/\dI e a y (some v)/\Q v e
def HG(ty f:TE):TE:=λσ H Q=>ty σ H λy H1=>f σ H1 λx e=>∃a o,x=.ref a/\dI e a y o/\Q (.bl o.isSome) e
def zF(ty f:TE):TE:=λσ H Q=>ty σ H λy H1=>f σ H1 λx e=>∃a o,x=.ref a/\dI e a y o/\Q (.bl<|!o.isSome) e
def IC(h ty f:TE):TS:=λD σ H=>f σ H λv H1=>h σ H1 λx g=>ty σ g λy i=>∃a e,x=.ref a/\j8 i a y v e/\D.nx σ e
def Fp(r:X.A.units+1<cLine)(q:PE X o td)(D:PE X i ty)(B:KR i):PE X (.Subscript o i pos) (ID td ty):=by
 intro l s σ H Q I h;refine AI Wj.lookup B<|cX (q l s σ H _ I h) λu w ⟨x,H1,n,z,q1⟩=>cX (D l w σ H1 _ n q1) λL J e=>?_;obtain⟨y,E,j,C,a,v,m,g,F⟩:=e;subst m;obtain rfl:u=Value.ref a:=z;exact⟨wA j g,BJ r j g C λG K p f=>⟨v,E,p,f,F⟩⟩
def D4(q:X.A.units+1<cLine)(B:PE X i ty)(p:PE X o td):PC X .In i o (HG ty td):=by
 intro f s σ H Q I h;refine cX (B f s σ H _ I h) λG r ⟨y,H1,l,z,q1⟩=>cX (p f r σ H1 _ l q1) λu E e=>?_;obtain⟨x,C,n,w,a,v,j,g,D⟩:=e;subst j;obtain rfl:u=Value.ref a:=w;exact PD q n g z λF m=>⟨.bl v.isSome,C,m,rfl,D⟩
def B8(q:X.A.units+1<cLine)(B:PE X i ty)(p:PE X o td):PC X .NotIn i o (zF ty td):=by
 intro f s σ H Q I h;refine cX (B f s σ H _ I h) λG r ⟨y,H1,l,z,q1⟩=>cX (p f r σ H1 _ l q1) λu E e=>?_;obtain⟨x,C,n,w,a,v,j,g,D⟩:=e;subst j;obtain rfl:u=Value.ref a:=w;exact Hr q n g z λF m=>⟨.bl<|!v.isSome,C,m,rfl,D⟩
def FW(E:X.A.units+1<cLine)(C:PE X o td)(L:PE X i ty)(N:PE X value tv)(J:swapsWith value (some<|.Subscript o i XU) pos.line X.env=pure false):
  PS X (.Assign [.Subscript o i XU] value pos) (IC td ty tv):=by
 intro f s σ H D I h;refine wpAny_Assign_Subscript (cX (N f s σ H _ I h) λr F ⟨v,H1,m,B,q1⟩=>cX (C f F σ H1 _ m q1) λu q ⟨x,M,z,G,O⟩=>cX (L f q σ M _ z O) λS R e=>?_) J;obtain⟨y,Q,n,K,a,p,j,g,w⟩:=e;subst j;obtain rfl:u=Value.ref a:=G;exact Bs E n g K B λP l=>⟨σ,p,l,w⟩
def v7{P:Xr}{w:Xs}{H:Hp}(h:Heap)(a:sysModules<h.objs.size):cV P w H (h.push { cls:=.type "dict",data:=.dict #[] }) h.objs.size (.dK []):=
 ⟨RQ _,R9.mpr<|To<|Rb a,[],.nil,WH h⟩
def Ef{P:Xr}{w:Xs}{H:Hp}(h:Heap)(a:sysModules<h.objs.size):cV P w H (h.push { cls:=.type "dict",data:=.dict #[] }) h.objs.size (.dT []):=
 ⟨RQ _,R9.mpr<|To<|Rb a,[],.nil,_,#[],0,QX _ rfl,⟨rfl,rfl,rfl⟩,rfl,rfl,UE⟩
def DQ:TE:=λ_ H Q=>∀p,H p=none->Q (.ref p) (upd H p<|.dT [])
def E3:PE X (.Dict [] [] pos) DQ:=λa s σ H Q I h=>
 Wo ⟨.ref s.heap.objs.size,_,I.laid (t':=s.toks) (λ_ _ q=>QL _ q) (QP _)<|Ef s.heap I.big,rfl,h _<|I.hok.fresh<|QP _⟩
def ux:Xw (TE×TE)->St->Hp->(Xw (V×V)->Hp->Prop)->Prop
 |[],_,H,Q=>Q [] H
 | (tk,tv)::r,σ,H,Q=>tk σ H λx H1=>tv σ H1 λy a=>ux r σ a λe f=>Q ((x,y)::e) f
abbrev VV:Xw (V×V)->Xw (Xo×Xo)->Prop:=Paired λp q=>RelV p.1 q.1/\RelV p.2 q.2
def OA(X:Cx)(pos:Pos)(keys:Xw (Xu Expr))(values:Xw Expr)(i:Xw (TE×TE)):Prop:=
 ∀(f:XA) (s:Xq) (σ:St) (H:Hp) (Q:Xw (V×V)->Hp->Prop),Inv X f σ H s->ux i σ H Q->
  wpAny (model X.prog X.w) X.A (evalPairs<|pairTrees keys values X.env pos) (λh g=>∃a e,Inv X f σ e g/\VV a h/\Q a e) X.xe s
def AG{X:Cx}{pos:Pos}:OA X pos [] [] []:=λa s σ H Q I h=>pairTrees_nil_walk ⟨[],H,I,.nil,h⟩
def jS{X:Cx}{pos:Pos}{k v:Expr}{f:Xw (Xu Expr)}{vs:Xw Expr}{i g:TE}{j:Xw (TE×TE)}(n:PE X k i)(D:PE X v g)(hr:OA X pos f vs j):
  OA X pos (some k::f) (v::vs) ((i,g)::j):=λe s σ H Q I h=>
 pairTrees_cons_walk (cX (n e s σ H _ I h) λu z ⟨x,H1,l,A,q1⟩=>cX (D e z σ H1 _ l q1) λJ q ⟨y,C,w,B,E⟩=>
  cX (hr e q σ C _ w E) λF G ⟨o,m,p,a,r⟩=>⟨(x,y)::o,m,p,.cons ⟨A,B⟩ a,r⟩)
def fF(XD more:Xw (Key×V)):Xw (Key×V):=more.foldl (λe a=>putK e a.1 a.2) XD
def KV.merge:∀{more:Xw (Key×V)}{a:Xw (Key×Xo)}{XD:Xw (Key×V)}{vs:Xw (Key×Xo)},KV more a->KV XD vs->KV (fF XD more) (merged vs a):=by
 intro more a XD vs r;unfold KV at r
 induction r generalizing XD vs with
 |nil=>intro q;exact q
 | @cons p q ps qs h t ih=>
  intro f;have e:KV (putK XD p.1 p.2) (stored vs q.1 q.2):=by
   have:=f.put p.1 h.2;rw[<-h.1];exact this
  exact ih e
theorem hV:∀(more XD:Xw (Key×V)),(fF XD more).length<=XD.length+more.length
 |[],XD=>by show XD.length<=XD.length+0;lia
 |p::r,XD=>by
  have a:=hV r<|putK XD p.1 p.2;have e:=di XD p.1 p.2;show(fF (putK XD p.1 p.2) r).length<=_;rw[RG];lia
theorem pO{P:Xr}{w:Xs}:∀{XD:Xw (Key×V)}{ws:Xw (Xo×Xo)},VV (XD.map λf=>(kV f.1,f.2)) ws->∃e,Carries (cM P w) ws e/\KV XD e
 |[],_,r=>by rw[map_nil]at r;cases r;exact⟨[],True.intro,.nil⟩
 |p::XD,_,r=>by
  rw[RL]at r;cases r with
  | @cons a b as bs h t=>
   obtain⟨e,c,q⟩:=pO t;obtain⟨i,g⟩:=b;exact⟨(p.1,g)::e,⟨oq h.1,rfl,c⟩,.cons ⟨rfl,h.2⟩ q⟩
def Jr(h:Xw (TE×TE)):TE:=λσ H Q=>∀p,H p=none->ux h σ (upd H p<|.dK []) λg e=>e p=some (.dK [])/\∃a:Xw (Key×V),g=a.map (λf=>(kV f.1,f.2))/\a.length<=15/\Q (.ref p) (upd e p<|.dK<|fF [] a)
def FR{X:Cx}{pos:Pos}{keys:Xw (Xu Expr)}{values:Xw Expr}{l:Xw (TE×TE)}(h:OA X pos keys values l)(a:keys.all (·.isSome)=true)(C:keys.length=values.length)(h0:keys≠[])
  (i:keys.length<=15):PE X (.Dict keys values pos) (Jr l):=by
 intro L s σ H Q I q;have p:=I.laid (h':=s.heap.push { cls:=.type "dict",data:=.dict #[] }) (t':=s.toks) (λ_ _ q=>QL _ q) (QP _)<|v7 s.heap I.big;refine wpAny_Dict_walk (knd:=cM X.prog X.w) a C h0 i<|cX (h L _ σ _ _ p<|q _<|I.hok.fresh<|QP s.heap.objs.size) λP O f=>?_;obtain⟨N,R,m,j,e,n,F,M,K⟩:=f;subst F;obtain⟨B,c,y⟩:=pO (w:=X.w) j;obtain⟨z,o,G,v,E⟩:=Ey m.hok e;cases v;refine⟨B,c,E,λh' g D=>⟨.ref s.heap.objs.size,_,?_,rfl,K⟩⟩;have A:(fF [] n).length<=sizeLine:=by
  have x:=hV n [];rw[length_nil]at x;rw[Rh];lia
 have J:∃q,h'.get? s.heap.objs.size=some q:=let ⟨q,_,_,r,_⟩:=g;⟨q,r⟩;exact kh m (by rw[e];exact True.intro) D J<|xI A o (y.merge .nil) g
structure M1(X:Cx)(o:Expr)(m:Xx)(XH:Pos)(e:Expr)(XG:Pos):Prop where
 base:attributeBase o m X.env (eval o X.env)=eval o X.env
 L1:((backTo XG (starEach [e] X.env)).all (λx=> !x.1)&&(backToKw XG (keywordEach [] X.env)).all (λx=>x.1.isSome)
  && decide (([e]:Xw Expr).length+([]:Xw Keyword).length+(if([]:Xw Keyword).isEmpty then 0 else 1)<30))=true
 line:(XH.endLine==XG.line)=true
 trees:backTo XG (starEach [e] X.env)=[(false,eval e X.env)]
structure M2(X:Cx)(o:Expr)(m:Xx)(XH:Pos)(e f:Expr)(XG:Pos):Prop where
 base:attributeBase o m X.env (eval o X.env)=eval o X.env
 L1:((backTo XG (starEach [e,f] X.env)).all (λx=> !x.1)&&(backToKw XG (keywordEach [] X.env)).all (λx=>x.1.isSome)
  && decide (([e,f]:Xw Expr).length+([]:Xw Keyword).length+(if([]:Xw Keyword).isEmpty then 0 else 1)<30))=true
 line:(XH.endLine==XG.line)=true
 trees:backTo XG (starEach [e,f] X.env)=[(false,eval e X.env),(false,eval f X.env)]
def PV(H:Hp)(a:Xp):Prop:=(∃e,Rd H a<|.dK e)\/∃e,Rd H a<|.dT e
def K3{X:Cx}{l:XA}{σ:St}{H:Hp}{s:Xq}{a:Xp}(I:Inv X l σ H s)(d:PV H a):
  s.TypeIs (.ref a) "dict" /\(∀b,Value.ref a=.ref b->∃ob,s.heap.get? b=some ob/\ob.dict=none)/\(a==sysModules)=false:=by
 obtain ⟨j,e⟩|⟨j,e⟩:=d
 ·obtain⟨_,g,m,_,f⟩:=ou I.hok e
  refine⟨f.typeIs,λb q=>?_,g⟩;cases q;obtain⟨ob,_,_,i,h,_⟩:=f;exact⟨ob,i,h.2.1⟩
 ·obtain⟨_,g,n,_,f⟩:=qF I.hok e
  refine⟨f.typeIs,λb q=>?_,g⟩;cases q;obtain⟨ob,_,_,i,h,_⟩:=f;exact⟨ob,i,h.2.1⟩
def J5{Q:Xy}(x:A.units+1<cLine)(I:Inv X XC σ H s)(g:dI H a y o)(p:RelV y u)(rd:RelV d r)(h:∀n s',Inv X XC σ H s'->RelV (o.getD d) n->Q n s'):
  wpAny (model X.prog X.w) A (call (.builtin "dict.get") [.ref a,u,r]) Q E s:=by
 obtain ⟨B,k,e,m,l⟩|⟨B,k,b,e,m,q,l⟩:=g
 ·subst m
  obtain⟨z,j,C,f,i⟩:=ou I.hok e;refine call_meetsIn Ve i.typeIs Vp (Vj _ _ _) (meets_dict_get_default (cM X.prog X.w) a (oq p) j r) ⟨_,i.mapOf,h _ _ (I.tok _) ?_⟩;rw[l];exact(f.val k).getD rd
 ·subst m
  cases (show u=Value.ref b from p);obtain⟨z,j,v,f,i⟩:=qF I.hok e;refine call_meetsIn Ve i.typeIs Vp (Vj _ _ _) (meetsH_dict_get_default (tupleKind<|cM X.prog X.w) a b j r) ⟨Uk x,k,v,jX I.hok q,i,h _ _ (I.tok _) ?_⟩;rw[l];exact(f.val k).getD rd
def EJ(g ty h:TE):TE:=λσ H Q=>g σ H λx H1=>∃a,x=.ref a/\PV H1 a/\ty σ H1 λy f=>h σ f λz e=>∃o,dI e a y o/\Q (o.getD z) e
def Dv (G:X.A.units+1<cLine) (E:PE X o td) (he:PE X e ty) (hf:PE X f tx) (m:M2 X o "get" XH e f XG):PE X (.Call (.Attribute o "get" XH) [e,f] [] XG) (EJ td ty tx):=by
 intro l s σ H Q I h;refine Wf m.base m.L1 m.line VH Ve WZ<|cX (E l s σ H _ I h) λu J i=>?_;obtain⟨x,H1,n,K,a,p,d,q1⟩:=i;subst p;obtain rfl:u=Value.ref a:=K;obtain⟨F,q,_⟩:=K3 n d;refine⟨F,q,?_⟩;rw[m.trees];refine TF rfl (UJ (SH (cX (he l J σ H1 _ n q1) λU B ⟨y,N,D,L,O⟩=>
  SH (cX (hf l B σ N _ D O) λW T ⟨z,v,w,M,S,g,C⟩=>Uv ?_))))
 exact J5 G w g L M λR P r j=>⟨_,v,r,j,C⟩
def E6{Q:Xy}(I:Inv X XC σ H s)(e:Rd H a (.dK XD))(h:∀p s',H p=none->Inv X XC σ (upd H p<|.dK XD) s'->Q (.ref p) s'):wpAny (model X.prog X.w) A (call (.type "dict") [.ref a]) Q E s:=by
 obtain⟨z,j,r,f,m⟩:=ou I.hok e;refine kt_call_dict j m (by rw[<-f.length];exact z) λn g l=>?_;refine h _ _ (I.hok.fresh<|QP _)<|I.laid (a:=s.heap.objs.size) (o:=.dK XD) (t':=s.toks) (λb q i=>?_) (QP _)<|xI z (R9.mpr<|To<|Rb I.big) f g;exact(l.2 b<|Rb<|Ri i).trans (QL _ i)
def Kr:bootBuiltins "any" =some (.builtin "any"):=by decide+kernel
section
variable {X:Cx}{y m:Xx}{N':Xw Xx}{scope:Scope}{cl:Xw (Xx×Xp)}{fp:Xw Xp}{s3:Xq}{H3:Hp}{C D:Xp}{sp:Sp}
def Bn.lg(B:Bn X y sp)(h:scope.names.lookup y=some .globalImplicit):Kj (dq X N' scope cl fp s3 H3 C) y sp:=⟨B.ex,je (by decide) h,B.db⟩
end
def Fn(zs xs:Xw V):Bool:=(List.range<|min zs.length xs.length).all (λi=>vR (zs.getD i .non)<|xs.getD i .non)&&zs.length==xs.length
def OB(H:Hp)(xs:Xw V)(v:V):Bool:=match v with
 |.ref c=>match H c with
  |some (.tup zs)=>Fn zs xs
  |_=>false
 |_=>false
def C5{x:V}(f:dN x=true):vR x x=true:=by
 cases x with
 |non=>rfl
 |bl b=>exact R4 b
 |int i=>exact R4 i
 |str z=>exact R4 z
 |_=>exact absurd (show false=true from f) bF0
def AW{xs:Xw V}(f:xs.all dN=true)(i:Nat):dN (xs.getD i .non)=true:=by
 rw[Sg];cases h:xs[i]? with
 |none=>rfl
 |some v=>exact Sn.mp f v<|QN h
def DE{xs:Xw V}(f:xs.all dN=true):Fn xs xs=true:=by
 unfold Fn;rw[R4,Uu,Sn];exact λi _=>C5<|AW f i
inductive NG(K:Frag)(x y:V)(H:Hp)(Q:VK):Prop
 |mk(a b:Xp)(xs ys:Xw V)(h:x=.ref a)(e:y=.ref b)(s:H a=some (.tup xs))(t:cN K H b ys)(f:xs.all dN=true)(g:∀v∈ys,∃c zs,v=.ref c/\H c=some (.tup zs)/\zs.all dN=true)(q:Q (.bl (ys.any (OB H xs))) H)
def NM(H:Hp)(xs:Xw V)(u:Xo):Bool:=match u with
 |.ref c=>OB H xs<|.ref c
 |_=>false
theorem Aw{H:Hp}{xs:Xw V}:∀{ys:Xw V}{us:Xw Xo},Vals ys us->(∀v∈ys,∃c zs,v=.ref c/\H c=some (.tup zs)/\zs.all dN=true)->us.any (NM H xs)=ys.any (OB H xs)
 |_,_,.nil,_=>rfl
 |y::_,u::_,.cons r t,g=>by
  obtain⟨c,zs,rfl,_⟩:=g y<|RD ..;cases r;rw[Tp,Tp,Aw t λv a=>g v<|RK _ a];rfl
theorem wO:∀{ys:Xw V}{us:Xw Xo}{u:Xo},Vals ys us->u∈us->∃y∈ys,RelV y u
 |_,_,_,.nil,h=>by cases h
 |y::_,_::_,u,.cons r t,h=>by
  obtain rfl|h:=Rq.mp h
  ·exact⟨y,RD ..,r⟩
  ·obtain⟨z,a,q⟩:=wO t h
   exact⟨z,RK _ a,q⟩
def Bj{X:Cx}{C:XA}{σ:St}{H:Hp}{s:Xq}{A:Xv}{c a:Xp}{zs xs:Xw V}(I:Inv X C σ H s)(B:A.units<cLine)(w:H c=some (.tup zs))(h:H a=some (.tup xs))(y:zs.all dN=true)(o:xs.all dN=true):SeqAt.EqAt A s (.ref c) (.ref a) (Fn zs xs):=by
 by_cases e:c=a
 ·subst e
  rw[w]at h;cases h;rw[DE o];exact WG _
 ·obtain⟨F,r,z,_⟩:=I.tuple (fe.of (K:=X.K) w)
  obtain⟨v,p,f,_⟩:=I.tuple<|fe.of (K:=X.K) h;have:=SeqAt.RcAt.tuples (A:=A) (e:=λi=>vR (zs.getD i .non)<|xs.getD i .non) z f B (λj m l=>by
   simp only[size_toArray]at m l;obtain⟨E,q,x⟩:=fM r m;obtain⟨D,n,g⟩:=fM p l;simp only[List.getElem_toArray];rw[Sg,Sg,q,n];exact um x g (Sn.mp y _<|QN q)<|Sn.mp o _<|QN n)
  refine SeqAt.EqAt.of_refs e ?_;simp only[size_toArray]at this
  rwa [<-r.length,<-p.length]at this
def lC{X:Cx}(D:X.A.units+1<cLine):jk X (compareOp .In) (λx y H Q=>NG X.K x y H Q):=by
 intro M s σ H x y v u Q I E F h;obtain⟨a,b,f,L,rfl,rfl,J,m,C,g,q⟩:=h;cases E;cases F;obtain⟨l,r,B,_⟩:=I.list m;refine SeqAt.in_listAt (NM H f) B.isList (λw p=>?_) ⟨.bl _,H,I,rfl,?_⟩
 ·obtain⟨z,o,G⟩:=wO r (by simpa using p)
  obtain⟨c,i,rfl,j,n⟩:=g z o;cases G;have e:NM H f (.ref c)=Fn i f:=by
   show(match H c with|some (.tup i)=>Fn i f|_=>false)=_;rw[j]
  rw[e];exact Bj I D j J n C
 ·rw[show l.toArray.any (NM H f)=l.any (NM H f) by simp,Aw r g]
  exact q
end L2
namespace J
section
variable {X:Cx}{N':Xw Xx}{scope:Scope}{cl:Xw (Xx×Xp)}{fp:Xw Xp}{s3:Xq}{H3:Hp}{C:Xp}{o i e value:Expr}{es:Xw Expr}{pos XU:Pos}{td ty tv:TE}
def _root_.cD:JX (dq X N' scope cl fp s3 H3 C) (Ld X.K):=⟨zU⟩
def _root_.bp:JX (dq X N' scope cl fp s3 H3 C) (Jx X.K):=⟨Ep⟩
def qx:JC (dq X N' scope cl fp s3 H3 C) .In (Nt X.K false):=⟨L2.iA⟩
def uW{k n:Nat}{u:wR}(e:X.calm=true)(h:MC (dq X N' scope cl fp s3 H3 C) es u)(a:(assignEach es (dq X N' scope cl fp s3 H3 C).env).length=n:=by rfl)(f:(assignEach es (dq X N' scope cl fp s3 H3 C).env).findIdx? (·.1)=none:=by rfl):
  JG (dq X N' scope cl fp s3 H3 C) (.Tuple es k pos) (Lr X.K n u):=⟨EI (X:=dq X N' scope cl fp s3 H3 C) e h.out a f⟩
def lC(a:X.A.units+1<cLine):JC X .In (λx y H Q=>NG X.K x y H Q):=⟨L2.lC a⟩
def _root_.aK(f:X.A.units+1<cLine)(a:JE X o td)(j:JE X i ty)(h:dS i):JE X (.Subscript o i pos) (ID td ty):=⟨Fp f a.out j.out λg e=>h.out g e⟩
def Dt(a:X.A.units+1<cLine)(e:JE X i ty)(f:JE X o td)(hm:behindInMarks .In o=false:=by rfl):JT X (.Compare i [.In] [o] pos) (tB<|HG ty td):=⟨uV (D4 a e.out f.out) hm⟩
def sR(a:X.A.units+1<cLine)(e:JE X i ty)(f:JE X o td)(hm:behindInMarks .NotIn o=false:=by rfl):JT X (.Compare i [.NotIn] [o] pos) (tB<|zF ty td):=⟨uV (B8 a e.out f.out) hm⟩
def _root_.bN(e:X.A.units+1<cLine)(g:JE X o td)(f:JE X i ty)(a:JE X value tv)(h:gY value=false:=by rfl):JS X (.Assign [.Subscript o i XU] value pos) (IC td ty tv):=⟨FW e g.out f.out a.out<|jz h⟩
def Nj:JE X (.Dict [] [] pos) DQ:=⟨E3⟩
end
end J
namespace L2
section
variable {X:Cx}
inductive Iz(x y:V)(H:Hp)(Q:VK):Prop
 |mk(a b:Xp)(xs ys:Xw V)(h:x=.ref a)(e:y=.ref b)(s:H a=some (.tup xs))(t:H b=some (.tup ys))(f:xs.all dN=true)(g:ys.all dN=true)(q:Q (.bl (Fn xs ys)) H)
def vd(N:X.A.units+1<cLine):jk X (compareOp .Eq) (λx y H Q=>Iz x y H Q):=by
 intro R s σ H x y v u Q I F G h;obtain⟨a,b,D,J,rfl,rfl,L,B,E,M,q⟩:=h;cases F;cases G;obtain⟨S,r,C,_⟩:=I.tuple<|fe.of (K:=X.K) L;obtain⟨w,o,f,_⟩:=I.tuple<|fe.of (K:=X.K) B;refine SeqAt.eq_tupleAt (e:=λi=>vR (D.getD i .non)<|J.getD i .non) C f (by lia) (λj m l=>?_) ?_
 ·simp only[size_toArray]at m l
  obtain⟨P,p,z⟩:=fM r m;obtain⟨O,n,g⟩:=fM o l;simp only[List.getElem_toArray];rw[Sg,Sg,p,n];exact um z g (Sn.mp E _<|QN p)<|Sn.mp M _<|QN n
 ·simp only[size_toArray]
  rw[<-r.length,<-o.length];exact⟨.bl _,H,I,rfl,q⟩
end
end L2
namespace J
section
variable {X:Cx}{o e f c:Expr}{body:Xw Stmt}{XH XG pos:Pos}{td ty tx:TE}{tc:TT}{tb:TS}
def vd(a:X.A.units+1<cLine):JC X .Eq (λx y H Q=>Iz x y H Q):=⟨L2.vd a⟩
def BX{env:Env}(a:notStar e=true)(g:notStar f=true):backTo XG (starEach [e,f] env)=[(false,eval e env),(false,eval f env)]:=by
 rw[cU a,cU g];rfl
def _root_.cy(a:PassesOwn (model X.prog X.w) X.A X.env X.xe)(e:JT X c tc)(f:x9 X body tb):JS X (.While c body [] pos) (Dq tc tb):=⟨EY a e.out f.out⟩
end
end J
namespace L2
section
variable {X:Cx}
inductive FP(K:Frag)(x y:V)(H:Hp)(Q:VK):Prop
 |same (a b:Xp)(xs ys:Xw V)(bs:Xw Bool)(g:x=.ref a)(f:y=.ref b)(s:cN K H a xs)(t:cN K H b ys)(j:xs.length=bs.length)(h:ys.length=bs.length)(e:∀(i:Nat) u v c,xs[i]? =some u->ys[i]? =some v->bs[i]? =some c->zT u v=some c)(q:Q (.bl (!(Pa bs))) H)
 |other (a b:Xp)(xs ys:Xw V)(g:x=.ref a)(f:y=.ref b)(s:cN K H a xs)(t:cN K H b ys)(n:xs.length≠ys.length)(q:Q (.bl true) H)
def lN(Z:X.A.units+1<cLine):jk X (compareOp .NotEq) (λx y H Q=>FP X.K x y H Q):=by
 intro XC s σ H x y v u Q I D E h;obtain ⟨a,b,N,S,bs,rfl,rfl,p,l,l1,l2,T,q⟩|⟨a,b,N,S,rfl,rfl,p,l,n,q⟩:=h
 ·cases D
  cases E;obtain⟨z,r,o,_⟩:=I.list p;obtain⟨f,g,e,_⟩:=I.list l;have O:=r.length;have G:=g.length;have key:SeqAt.RcNeAt X.A s (.ref a) (.ref b) (!((List.range z.toArray.size).all λi=>bs.getD i false)):=by
   refine SeqAt.RcNeAt.lists o.isList e.isList (by grind) (by lia) λj C B=>?_;simp only[size_toArray]at C B;obtain⟨Y,R,J⟩:=fM r C;obtain⟨P,L,m⟩:=fM g B;have U:j<bs.length:=by lia
   have F:=QJ U;have W:bs.getD j false=bs[j]:=by rw[Sg,F];rfl
   rw[W];simp only[List.getElem_toArray];exact rW J m<|T j Y P _ R L F
  have M:z.toArray.size=bs.length:=by simp only[size_toArray];lia
  rw[M]at key;exact key X.prog X.w X.xe _ ⟨.bl _,H,I,rfl,q⟩
 ·cases D
  cases E;obtain⟨z,r,o,_⟩:=I.list p;obtain⟨f,g,e,_⟩:=I.list l;have O:=r.length;have G:=g.length;have key:SeqAt.RcNeAt X.A s (.ref a) (.ref b) true:=SeqAt.RcNeAt.lists_lengths o.isList e.isList (by grind) (by lia);exact key X.prog X.w X.xe _ ⟨.bl _,H,I,rfl,q⟩
def El:typeLookup (.type "list") "keys" =pure none:=by rw[UM,TU];kernel_rfl
def eS:plainId "dict.update.loop" =true:=by decide+kernel
def jj:entryFor table "dict.update.loop" =some Builtin.«dict.update.loop» :=entryFor_of_tree (by kernel_rfl)
end
section
variable {prog:Xr}{w:Xs}{A:Xv}{E:Xy}{s:Xq}
def q9 {a:Xp}{o:Obj}{xs:Array Xo}{k:Nat}{Q:Xu Xo->Xq->Prop}(n:s.heap.get? a=some o) (m:o.cls=.type "list") (p:o.data=.seq xs k) (hd:o.dict=none) (x:A.handled=none)
  (h:∀h' j,(∀b u,s.heap.get? b=some u->h'.get? b=some u)->Q none { s with heap:=h',toks:=j }):wpAny (model prog w) A (getAttr? (.ref a) "keys") Q E s:=by
 obtain⟨c,q,r,sl⟩:=o;simp only at m p hd;subst m p hd;obtain⟨y,g,d,j,v⟩:=s;have l:∀i,(⟨y,g,d,i,v⟩:Xq).TypeIs (.ref a) "list" :=λ_=>⟨_,n,rfl⟩;have B:=sub_AttributeError;have I:=Ut.lookup;have G:=Ut.bind<|.ref a;have D:=am_list_getattr_none;unfold getAttr? getAttrBy? getAttrBy
 repeat (any_goals (first|assumption|exact l _| ((with_reducible show wpAny _ _ (call (Value.builtin "list.__getattribute__") _ _) _ _ _);refine Xb Ut (l _) am_entry_list_getattribute (PySem.F.args_list_getattribute_2 _ _) (meets_getattribute_miss_list a xs k sl "keys" _ El (by decide+kernel) (by decide+kernel)) ⟨n,x,λh' i e f=>?_⟩)|wp_step))
 obtain⟨z,C,H⟩:=f.there;unfold getattributeRaised
 repeat (any_goals (first|assumption|wp_step))
 exact h _ _ f.of.keeps
end
theorem jg{α β:Type}{R:α->β->Prop}:∀{xs:Xw α}{us:Xw β},xs.length=us.length->(∀(i:Nat) x v,xs[i]? =some x->us[i]? =some v->R x v)->Paired R xs us
 |[],[],_,_=>.nil
 |_::_,[],h,_=>by cases h
 |[],_::_,h,_=>by cases h
 |x::_,u::_,h,k=>.cons (k 0 x u rfl rfl)<|jg (SE h) λi y v e a=>k (i+1) y v e a
def yd:typeLookup (.type "list_reverseiterator") "__len__" =pure none:=by rw[UM,TU];kernel_rfl
def Ej:typeLookup (.type "list_reverseiterator") "__length_hint__" =pure (some<|.builtin "list_reverseiterator.__length_hint__"):=by rw[UM,TU];kernel_rfl
section
variable {prog:Xr}{w:Xs}{A:Xv}{E:Xy}{s:Xq}
def Dy{r l:Xp}{i:Int}{Q:Bool->Xq->Prop}(f:s.heap.IsRevIter r l i)(h:Q false s):wpAny (model prog w) A (Builtin.List.listLengthHint<|.ref r) Q E s:=by
 unfold Builtin.List.listLengthHint;refine QH<|Te f.typeIs yd ?_;refine QH<|Te f.typeIs Ej ?_;generalize e:("list_reverseiterator.__length_hint__" :String)=g
 wp_delta
 rw[show splitId g=some ("list_reverseiterator","__length_hint__") from by subst e;decide+kernel];subst e;refine QH (Ts (T:= "list_reverseiterator") (b:=true) f.typeIs (by rw[VO];kernel_rfl) ?_);refine Rk (λa=>absurd a<|by decide) λ_=>?_;refine Rk (λ_=>?_) (λa=>absurd (by decide+kernel) a);refine Rk (λa=>absurd a<|by decide+kernel) λ_=>?_;exact QI h
def yW {R:Result->Xq->Prop}{r l:Xp}{items:Array Xo}(K:A.handled=none) (y:s.heap.IsRevIter r l ((items.size:Int)-1)) (J:s.heap.IsList l items) (F:l≠r) (P:items.size<=2^24) (S:Xp) (q:S≠r) (B:S≠l) (res:Xo) (c₀:Nat) (N:s.heap.get? S=some { cls:=.type "list",data:=.seq #[] c₀ })
  (O:∀h' G a h,(∀b o,b≠S->b≠r->s.heap.get? b=some o->h'.get? b=some o)->h'.get? S=some { cls:=.type "list",dict:=none,data:=.seq a h,slots:= #[] }->
   ItemsOf (λi v=>items[items.size-1-i]? =some v) a items.size->R (.ok<|.ret res) { s with heap:=h',toks:=G }):
  wpAny (model prog w) A.in1 (Builtin.List.listExtendWith (.ref S) (.ref r) res)
   (λp s'=>match p with|.done f=>R (.ok f) s'|.again h=>h.quiet=true/\codeAny (model prog w) A h R s') (λe s'=>R (.error e) s') s:=by
 have E:S ∉ [r,l]:=by grind
 have m:s.heap.IsRevIter r l ((items.size:Int)-1-((0:Nat):Int)):=by grind
 have key:codeAny (model prog w) A (.builtin "list.extend.loop" ⟨[.ref S,.ref r,res],[]⟩) R s:=by
  refine codeAny_extend_loopS ((Walks.listRev (prog:=prog) (w:=w) (A:=A.in1) K r l F items).toS) (by rw[Rh];lia) S E res items.size 0 _ #[] c₀ rfl (RQ _) ⟨RQ _,m,J⟩ N (ItemsOf.nil _) λs' a h z x j=>?_;rw[Moved.eq_with z];refine O s'.heap s'.toks a h (λb o D M e=>z.heap b o (λg=>?_) e) x j;obtain I|g:=Rq.mp g
  ·exact D I
  ·grind
 unfold Builtin.List.listExtendWith;refine QH<|Vq (T:= "list_reverseiterator") y.typeIs ?_;have H:Builtin.List.listSameRef (.ref S) (.ref r)=false:=by simp[Builtin.List.listSameRef,q]
 have C:(Value.type "list_reverseiterator" == Value.type "list")=false:=by decide
 have L:(Value.type "list_reverseiterator" == Value.type "tuple")=false:=by decide
 simp only[H,C,L,Bool.or_false,false_eq_true,if_false];refine QH<|wpAny_pyIter_revIter y ?_;refine QH<|Rv<|Dy y ?_;refine Rk (λn=>absurd n<|by decide+kernel) λ_=>?_;exact QI ⟨Tn Wq _,key⟩
def qK{Q:Xy}{r l:Xp}{items:Array Xo}(N:A.handled=none)(D:s.heap.IsRevIter r l ((items.size:Int)-1))(M:s.heap.IsList l items)(K:l≠r)(H:items.size<=2^24)
  (J:∀h' x a q,(∀b o,b≠r->s.heap.get? b=some o->h'.get? b=some o)->
   h'.get? s.heap.objs.size=some { cls:=.type "list",dict:=none,data:=.seq a q,slots:= #[] }->ItemsOf (λi v=>items[items.size-1-i]? =some v) a items.size->Q (.ref s.heap.objs.size) { s with heap:=h',toks:=x }):
  wpAny (model prog w) A (call (.type "list") [.ref r]) Q E s:=by
 refine callType_codes (Q₁:=λm f=>m=.ref s.heap.objs.size/\f={ s with heap:=s.heap.push { cls:=.type "list",data:=.seq #[] } }) PySem.F.called_list (PySem.F.typeCall_list_1 _) PySem.F.entry_list_init
  (code_list_new _ ⟨rfl,rfl⟩) λm f j=>?_
 obtain⟨rfl,rfl⟩:=j;have p:(s.heap.push { cls:=.type "list",data:=.seq #[] }).get? s.heap.objs.size=some { cls:=.type "list",data:=.seq #[] }:=QX _ rfl;refine⟨⟨_,p,rfl⟩,PySem.F.args_list_init_2 _ _,QH ?_⟩;unfold Builtin.List.listItems;refine QH<|U4 p rfl<|QI ?_;refine QH<|WL p rfl ?_;have h:=Ss (Obj.mapSeq λ_=>(#[]:Array Xo)) p rfl;have g:∀b o,s.heap.get? b=some o->((s.heap.push { cls:=.type "list",data:=.seq #[] }).update s.heap.objs.size<|Obj.mapSeq λ_=>(#[]:Array Xo)).get? b=some o:=
  λb o e=>(Uw _ _<|UH<|Ri e).trans<|QL _ e
 refine QH<|Ww ?_;obtain⟨P,G,B,O,z⟩:=id M;obtain⟨R,C,_⟩:=id D;exact yW (A:=A.in1) N (D.at λo e=>g _ _ e) ⟨P,g _ _ G,B,O,z⟩ K H _ (UH<|Ri C) (UH<|Ri G) .none _ h λh' x a q L y n=>⟨rfl,J h' x a q (λb o I e=>L b o (Rb<|Ri e) I<|g _ _ e) y n⟩
end
section
variable {X:Cx}
inductive MP(K:Frag)(vs:Xw V)(H:Hp)(Q:VK):Prop
 |mk(p:Xp)(xs:Xw V)(e:vs=[.ref p])(s:cN K H p xs)(q:∀l,H l=none->Q (.ref l) (upd H l (.lst xs.reverse)))
def IQ(K:Frag)(ta:TA):TE:=λσ H Q=>ta σ H λa H1=>MP K a H1 Q
def wB:bootBuiltins "reversed" =some (.type "reversed"):=by decide+kernel
def rB:bootBuiltins "sorted" =some (.builtin "sorted"):=by decide+kernel
def uv:bootBuiltins "dict" =some (.type "dict"):=by decide+kernel
def Kl:bootBuiltins "sum" =some (.builtin "sum"):=by decide+kernel
def xC {a:Expr}{ta:TA}{p p' pos XU:Pos}(hc:X.calm=true) (A:Gl X "list") (z:X.mg "list" =none) (P:Gl X "reversed") (hm:X.mg "reversed" =none) (ha:PA X [a] ta) (hs:starEach [a] X.env=[(false,eval a X.env)]:=by rfl):
  PE X (.Call (.Name "list" p') [.Call (.Name "reversed" p) [a] [] pos] [] XU) (IQ X.K ta):=by
 intro XC s σ H Q I h;refine Tb<|jc I A z boot_list ?_;refine Sk ?_ rfl rfl;refine SH <| Call_ (jc I P hm wB<|Sk (cX (ha pos XC s σ H _ I h) λus g r=>?_) hs rfl);obtain⟨vs,H1,m,N,q,D,e,U,q1⟩:=r;subst e;obtain⟨u,rfl,rx⟩:=vals1 N;cases rx;obtain⟨l,F,C,Y⟩:=m.list U;have Z:=F.length;have XO:=Rh;refine call_reversed_list C.isList<|Uv ?_;have E:∀b o,g.heap.get? b=some o->(g.heap.push<|revObj q<|(l.toArray.size:Int)-1).get? b=some o:=λb o e=>QL _ e;obtain⟨ol,Ym,_⟩:=C.isList;have ac:=m.hok.fresh<|QP _;refine qK (s:={ g with heap:=g.heap.push<|revObj q<|(l.toArray.size:Int)-1,toks:=g.toks }) (items:=l.toArray) ((m.kept (t':=g.toks) E).ok.hd hc) ⟨_,QX _ rfl,rfl,rfl⟩ (C.isList.push _) (Rb<|Ri Ym) (by grind) λS T f O R hS n=>?_;have y:=λb o e=>R b o (Rb<|Ri e)<|E b o e;obtain⟨sz,B⟩:=n;have ab:f.size=l.length:=by simpa using sz
 have W:Vals D.reverse f.toList:=by
  refine qf (by grind) λi x v G J=>?_;rw[Rc]at J;have hi:i<D.length:=by grind
  have M:=B i v J;rw[Rw,Vf]at M;rw[Uq hi]at G;obtain⟨u,L,ru⟩:=F.get G;rw[Z,M]at L;cases L;exact ru
 have j:g.heap.objs.size<=(g.heap.push<|revObj q<|(l.toArray.size:Int)-1).objs.size:=by simp_all
 exact⟨.ref _,_,m.laid (t':=T) y j<|show cV X.prog X.w _ S _ (.lst D.reverse) from ⟨by rw[Si];exact Y,f.toList,O,W,hS⟩,rfl,q1 _<|m.hok.fresh j⟩
end
end L2
namespace J
def lN{X:Cx}(a:X.A.units+1<cLine):JC X .NotEq (λx y H Q=>FP X.K x y H Q):=⟨L2.lN a⟩
def D3 {X:Cx}{e:Expr}{t:TA}{p g pos a:Pos}(i:X.calm=true) (B1:Bt X "list") (B2:Bt X "reversed") (f:JA X [e] t) (h:notStar e=true:=by rfl):
  JE X (.Call (.Name "list" g) [.Call (.Name "reversed" p) [e] [] pos] [] a) (IQ X.K t):=⟨xC i B1.gl B1.nm B2.gl B2.nm f.out<|cU h⟩
end J
namespace L2
inductive MN(K:Frag)(x y:V)(H:Hp)(Q:VK):Prop
 |same (a b:Xp)(xs ys:Xw V)(bs:Xw Bool)(g:x=.ref a)(f:y=.ref b)(s:cN K H a xs)(t:cN K H b ys)(j:xs.length=bs.length)(h:ys.length=bs.length)(e:∀(i:Nat) u v c,xs[i]? =some u->ys[i]? =some v->bs[i]? =some c->zT u v=some c)(q:Q (.bl (Pa bs)) H)
 |other (a b:Xp)(xs ys:Xw V)(g:x=.ref a)(f:y=.ref b)(s:cN K H a xs)(t:cN K H b ys)(n:xs.length≠ys.length)(q:Q (.bl false) H)
def uK(o:X.A.units+1<cLine):jk X (compareOp .Eq) (λx y H Q=>MN X.K x y H Q):=by
 intro w s σ H x y v u Q I p r h;obtain ⟨a,b,i,m,bs,l,g,j,f,z,B,e,q⟩|⟨a,b,i,m,l,g,j,f,n,q⟩:=h
 ·exact LO o w s σ H x y v u Q I p r ⟨a,b,i,m,bs,l,g,j,f,z,B,e,q⟩
 ·exact Ce o w s σ H x y v u Q I p r ⟨a,b,i,m,l,g,j,f,n,q⟩
def vb{e d:Expr}{ty a:TE}{pos:Pos}(f:X.A.units+1<cLine)(g:PE X e ty)(h:PE X d a)(hm:behindInMarks .In d=false:=by rfl):PE X (.Compare e [.In] [d] pos) (HG ty a):=Ka (D4 f g h) hm
section
variable {n:Nat}{P:Nat->Xo->Prop}{St:Nat->Xq->Prop}
def gd(xs ps:Xw (Xw Key×Xp×Xo)):Xw (Xw Key×Xp×Xo):=ps.foldl (λa q=>storedH a q.1 q.2.1 q.2.2) xs
def ua(xs ps:Xw (Xw Key×Xp×Xo))(i:Nat)(q:Xw Key×Xp×Xo)(h:ps[i]? =some q):gd xs (ps.take<|i+1)=storedH (gd xs<|ps.take i) q.1 q.2.1 q.2.2:=by
 unfold gd;rw[RN,h,VP];rfl
def yL(xs:Xw (Xw Key×Xp×Xo))(k:Xw Key)(a:Xp)(v:Xo):(storedH xs k a v).length<=xs.length+1:=by
 unfold storedH;split
 ·rw[QM]
  exact T6 _
 ·rw[QK]
  exact QP _
theorem qg:∀(ps xs:Xw (Xw Key×Xp×Xo)),(gd xs ps).length<=xs.length+ps.length
 |[],xs=>QP _
 |p::r,xs=>by
  have a:=qg r<|storedH xs p.1 p.2.1 p.2.2;have e:=yL xs p.1 p.2.1 p.2.2;show(gd (storedH xs p.1 p.2.1 p.2.2) r).length<=_;rw[RG];lia
theorem ND:∀(l xs:Xw (Xw Key×Xp×Xo)) (x:Xw Key×Xp×Xo),x∈gd xs l->(∃y∈xs,x.2.1=y.2.1)\/∃y∈l,x.2.1=y.2.1
 |[],xs,x,h=>.inl ⟨x,h,rfl⟩
 |p::r,xs,x,h=>by
  obtain ⟨y,a,e⟩|⟨y,a,e⟩:=ND r (storedH xs p.1 p.2.1 p.2.2) x h
  ·unfold storedH at a
   split at a
   ·obtain⟨z,f,rfl⟩:=Ru.mp a
    refine .inl ⟨z,f,?_⟩;rw[e];unfold putAt;split<;>rfl
   ·grind
  ·grind
def vU{h h':Heap}{k:Xw Key}{a:Xp}(e:∀o,h.get? a=some o->h'.get? a=some o)(x:(tupleKind<|cM prog w).is h k a):(tupleKind<|cM prog w).is h' k a:=by
 obtain⟨o,i,m,g,f⟩:=x;exact⟨o,i,m,e _ g,f⟩
def Od{h:Heap}{k:Xw Key}{a:Xp}(x:(tupleKind<|cM prog w).is h k a):a<h.objs.size:=by
 obtain⟨o,g,m,e,f⟩:=x;exact Ri e
def Cp(W:WalksS prog w A.in1 I fp wr G n P St)(D:Xp)(J:D ∉ fp)(ps:Xw α)(U O:α->Xo)(T:Nat->Xp)(hn:ps.length=n)(hP:∀i v,P i v->v=.ref (T i))(h0:Heap)(off:∀b o,h0.get? b=some o->b≠D/\b ∉ wr)(Z:∀(i:Nat) q,ps[i]? =some q->IsTup h0 (T i) #[U q,O q])(f:Nat->Heap->Prop)
  (gH:∀i h h',(∀b o,h0.get? b=some o->h.get? b=some o/\h'.get? b=some o)->(∀o,h.get? D=some o->h'.get? D=some o)->f i h->f i h')
  (put:∀(i:Nat) q (s:Xq) E Q,ps[i]? =some q->(∀b o,h0.get? b=some o->s.heap.get? b=some o)->f i s.heap->(∀h' t,f (i+1) h'->Heap.SameBut D s.heap h'->Q () { s with heap:=h',toks:=s.toks+t })->wpAny (model prog w) A.in1 (dictSet D (U q)<|O q) Q E s):
  ∀(m i:Nat) (s:Xq),n-i=m->i<=n->St i s->f i s.heap->(∀b o,h0.get? b=some o->s.heap.get? b=some o)->(∀s',Moved (D::wr) G s s'->f n s'.heap->R (.ok<|.ret .none) s')->
   codeAny (model prog w) A (.builtin "dict.update.loop" ⟨[.ref D,.ref I,rawInt i,.none],[]⟩) R s:=by
 have g:∀b∈wr,b∈D::wr:=λb B=>RK _ B;have X:∀{s s':Xq}{i:Nat},Moved wr G s s'->(∀b o,h0.get? b=some o->s.heap.get? b=some o)->f i s.heap->f i s'.heap:=λa p=>gH _ _ _ (λb o e=>⟨p b o e,a.heap b o (off b o e).2<|p b o e⟩) λo=>a.heap D o λh=>J<|W.sub _ h;intro m
 induction m with
 |zero=>
  intro i s Yu hi H C p M;obtain rfl:i=n:=by lia
  refine Sl jj ?_;rw[R7 eS _];exact QH<|W.done s _ _ H λs' a=>QH<|QI<|QI<|M s' (a.mono g)<|X a p C
 |succ m ih=>
  intro i s Yu hi H C p M;have j:i<n:=by lia
  obtain⟨q,S⟩:∃q,ps[i]? =some q:=⟨_,QJ<|by rw[hn];exact j⟩;refine Sl jj ?_;rw[R7 eS _];refine QH<|W.item i s _ _ j H λv s' hv z a=>?_;cases hP i v hv;have l:=λb o e=>a.heap b o (off b o e).2<|p b o e;obtain⟨o,ho,hc,c,Y⟩:=Z i q S;have y:=l _ _ ho;refine QH<|Rv<|QH<|wpAny_tryCatch ?_;unfold Builtin.Dict.pairItems;refine QH<|Vq ⟨_,y,hc⟩ ?_;rw[QR<|by decide];refine QH<|U4 y Y<|QI ?_;refine Rv<|put i q s' _ _ S l (X a p C) λh' t L K=>?_;have N:((i:Int)+1)=((i+1:Nat):Int):=by push_cast;rfl
  refine QI ⟨Tn eS _,?_⟩;rw[N];refine ih (i+1) _ (by lia) j (W.frame _ s' _ _ z (UN _ _) λb B o e=>?_) L (λb o e=>(K.2 b (off b o e).1).trans<|l b o e) λF x r=>?_
  ·rw[K.2 b<|by grind]
   exact e
  ·refine M F (Moved.trans W.gtrans ((a.mono g).then_heap (UN _ _) λb o B e=>?_) x) r
   rw[K.2 b<|by grind];exact e
def qz {l:Xp}{o:Obj}{items:Array Xo}{c:Nat}{Q:Xy}(ps:Xw α) (H G:α->Xo) (T:Nat->Xp) (P:A.handled=none) (R:s.heap.get? l=some o) (L:o.cls=.type "list") (U:o.data=.seq items c) (hd:o.dict=none) (N:ps.length=items.size)
  (hi:∀(i:Nat) (v:Xo),items[i]? =some v->v=.ref (T i)) (W:∀(i:Nat) q,ps[i]? =some q->IsTup s.heap (T i) #[H q,G q]) (p:Nat->Heap->Prop) (new:∀h,h.get? s.heap.objs.size=some { cls:=.type "dict",data:=.dict #[] }->p 0 h)
  (gH:∀i h h',(∀b o,s.heap.get? b=some o->h.get? b=some o/\h'.get? b=some o)->(∀o,h.get? s.heap.objs.size=some o->h'.get? s.heap.objs.size=some o)->p i h->p i h')
  (put:∀(i:Nat) q (s':Xq) E Q,ps[i]? =some q->(∀b o,s.heap.get? b=some o->s'.heap.get? b=some o)->p i s'.heap->(∀h' t,p (i+1) h'->Heap.SameBut s.heap.objs.size s'.heap h'->Q () { s' with heap:=h',toks:=s'.toks+t })->wpAny (model prog w) A.in1.in1 (dictSet s.heap.objs.size (H q)<|G q) Q E s')
  (h:∀h' M,p ps.length h'->(∀b o,s.heap.get? b=some o->h'.get? b=some o)->Q (.ref s.heap.objs.size) { s with heap:=h',toks:=M }):
  wpAny (model prog w) A (call (.type "dict") [.ref l]) Q E s:=by
 refine callType_codes (Q₁:=λy j=>y=.ref s.heap.objs.size/\j={ s with heap:=s.heap.push { cls:=.type "dict",data:=.dict #[] } }) PySem.F.kt_called_dict (PySem.F.kt_typeCall_dict_1 _) PySem.F.entry_dict_init (kt_code_dict_new _ ⟨rfl,rfl⟩) ?_;rintro y j ⟨rfl,rfl⟩;have f:=WH (knd:=cM prog w) s.heap;have n:=QL { cls:=.type "dict",data:=.dict #[] } R;refine⟨f.typeIs,PySem.F.args_dict_init_2 _ _,?_⟩;unfold Builtin.«dict.__init__»;refine QH ?_;unfold Builtin.Dict.selfAndRest;refine QH<|TV f.typeIs ?_;refine QI ?_;show wpAny _ _ (Builtin.Dict.updateFrom "dict.__init__" s.heap.objs.size (.ref l) [] .none) _ _ _;unfold Builtin.Dict.updateFrom;refine QH<|Vq ⟨_,n,L⟩ ?_;rw[QR<|by decide];refine QH<|q9 n L U hd P λz M m=>?_;rw[QR<|show Option.isNone (none:Xu Xo)=true from rfl];refine QH<|Sm ?_;have r:z.IsList l items:=⟨o,m _ _ n,L,c,U⟩;have x:∀b u,s.heap.get? b=some u->z.get? b=some u:=λb u e=>m _ _<|QL _ e;have S:=m _ _<|QX _ rfl;have O:=Ri S;refine QH<|TX r ?_;refine QI ⟨Tn eS _,?_⟩;have C:=Ri R;have K:∀(a:Xp) (o:Obj),s.heap.get? a=some o->a≠s.heap.objs.size/\a ∉ [z.objs.size]:=λa o e=>by
  have lt:=Ri e;grind
 refine Cp ((V6 (show A.in1.in1.handled=none by simp[P]) z.objs.size l (Rb<|Vy C O) items).toS) s.heap.objs.size (by grind) ps H G T N hi s.heap K W p gH put (items.size-0) 0 _ (by lia) (RQ _) ⟨⟨_,QX _ rfl,rfl,rfl⟩,r.push _⟩ (new _<|QL _ S) (λb u e=>QL _<|x b u e) ?_;intro s' B I;obtain⟨g,Y,d',J,D⟩:=s';have X:Y=s.gens:=B.gens;have ed:d'=s.drawn:=B.drawn;have Z:D=s.os:=B.os;subst X ed Z;refine⟨rfl,h g J (N ▸ I) λb u e=>?_⟩;have lt:=Ri e;refine B.heap b u ?_ (QL _<|x _ _ e);simp only[mem_cons,not_mem_nil,or_false,not_or];exact⟨Rb lt,Rb<|Vy lt O⟩
end
def xU {l:Xp}{o:Obj}{items:Array Xo}{c:Nat}{Q:Xy}(ps:Xw (Xw Key×Xp×Xo)) (T:Nat->Xp) (N:(tupleKind<|cM prog w).room A.in1.in1) (L:A.handled=none) (a:s.heap.get? l=some o) (Y:o.cls=.type "list") (W:o.data=.seq items c) (hd:o.dict=none) (I:ps.length=items.size) (hb:ps.length<=sizeLine)
  (P:∀(i:Nat)(v:Xo),items[i]? =some v->v=.ref (T i))(m:∀(i:Nat) q,ps[i]? =some q->IsTup s.heap (T i) #[.ref q.2.1,q.2.2]/\(tupleKind<|cM prog w).is s.heap q.1 q.2.1)
  (h:∀h' n,h'.DictOfH (tupleKind<|cM prog w) s.heap.objs.size (gd [] ps)->(∀b o,s.heap.get? b=some o->h'.get? b=some o)->Q (.ref s.heap.objs.size) { s with heap:=h',toks:=n }):
  wpAny (model prog w) A (call (.type "dict") [.ref l]) Q E s:=by
 refine qz ps (λq=>.ref q.2.1) (·.2.2) T L a Y W hd I P (λi q e=>(m i q e).1) (λi h=>h.DictOfH (tupleKind<|cM prog w) s.heap.objs.size<|gd []<|ps.take i) (λh e=>⟨_,#[],0,e,⟨rfl,rfl,rfl⟩,rfl,rfl,(λx a=>by cases a),UE⟩) ?_ ?_ λh' n d=>h h' n (by rwa [RX]at d)
 ·rintro i g g' f D ⟨o,M,S,K,B,O,F,H,R⟩
  refine⟨o,M,S,D _ K,B,O,F,λx a=>vU (λo e=>?_)<|H x a,R⟩;obtain ⟨y,p,_⟩|⟨y,p,J⟩:=ND _ _ _ a
  ·cases p
  ·obtain⟨j,U⟩:=Rg (SR p)
   obtain⟨o',_,_,G,_⟩:=(m j y U).2;rw[J]at e ⊢;have:=f _ _ G;rw[this.1]at e;exact e ▸ this.2
 ·intro i q Z E Q z f C X
  refine wpAny_dictSet_heap N (vU (λo=>f _ o) (m i q z).2) C (λh' r=>X h' _<|by rw[ua [] ps i q z];exact r) ?_;have:=qg (ps.take i) [];have e:(ps.take i).length<=ps.length:=List.length_take_le' _ _;exact Rn this (by rw[length_nil,Td];lia)
def i6(XD more:Xw (Xw Key×V)):Xw (Xw Key×V):=more.foldl (λe a=>putK e a.1 a.2) XD
theorem kG:∀(more XD:Xw (Xw Key×V)),(i6 XD more).length<=XD.length+more.length
 |[],XD=>QP _
 |p::r,XD=>by
  have a:=kG r<|putK XD p.1 p.2;have e:=di XD p.1 p.2;show(i6 (putK XD p.1 p.2) r).length<=_;rw[RG];lia
def KT.merge{H:Hp}{more:Xw (Xw Key×V)}{rs:Xw (Xw Key×Xp×Xo)}(r:KT H more rs):∀{XD:Xw (Xw Key×V)}{xs:Xw (Xw Key×Xp×Xo)},KT H XD xs->KT H (i6 XD more) (gd xs rs):=by
 induction r with
 |nil=>exact λq=>q
 | @cons p q ps qs h t ih=>
  intro XD xs a;have e:KT H (putK XD p.1 p.2) (storedH xs q.1 q.2.1 q.2.2):=by
   have:=KT.put a p.1 h.2.1 h.2.2;rw[<-h.1];exact this
  exact ih e
inductive II(K:Frag)(vs:Xw V)(H:Hp)(Q:VK):Prop
 |mk(p:Xp)(xs:Xw V)(XD:Xw (Xw Key×V))(e:vs=[.ref p])(s:cN K H p xs)(l:xs.length=XD.length)(t:∀(i:Nat) x kv,xs[i]? =some x->XD[i]? =some kv->∃a b,x=.ref a/\H a=some (.tup [.ref b,kv.2])/\H b=some (.tup (kv.1.map kV)))(q:∀d,H d=none->Q (.ref d) (upd H d (.dT (i6 [] XD))))
def Kk{A:Xv}{k:Nat}(hr:dO k A):A.units+2<cLine:=by
 have:=hr.un;lia
def fD(hu:X.A.units+2<cLine)(hc:X.calm=true):eG X (.type "dict") (λvs H Q=>II X.K vs H Q):=by
 intro XC s σ H vs us Q I r h;obtain⟨p,xs,XD,rfl,hq,ll,S,q⟩:=h;obtain⟨u,rfl,rx⟩:=vals1 r;cases rx;obtain⟨y,N,⟨o,c,Z,J,hd,X2⟩,hz⟩:=I.list hq;have hl:=N.length;have D:∀i:Nat,∃t:Xp×Xp×Xo,i<y.length->y[i]? =some (.ref t.1)/\∀g,XD[i]? =some g->IsTup s.heap t.1 #[.ref t.2.1,t.2.2]/\H t.2.1=some (.tup<|g.1.map kV)/\RelV g.2 t.2.2:=λi=>by
  by_cases hi:i<y.length
  ·obtain⟨g,n⟩:∃g,XD[i]? =some g:=⟨_,QJ<|by lia⟩
   obtain⟨x,L⟩:∃x,xs[i]? =some x:=⟨_,QJ<|by lia⟩;obtain⟨a,b,rfl,ha,T⟩:=S i x g L n;obtain⟨u,eu,ru⟩:=N.get L;cases ru;obtain⟨Y,rj,tp,_⟩:=I.tuple<|fe.of (K:=X.K) ha;cases rj with
   |cons r1 rest=>
    cases rest with
    |cons r2 m=>
     cases m;cases r1;exact⟨(a,b,_),λ_=>⟨eu,λab e=>by rw[n]at e;cases e;exact⟨tp,T,r2⟩⟩⟩
  ·exact⟨(0,0,.none),λh=>absurd h hi⟩
 obtain⟨f,C⟩:=U5 D;have w:∀(i:Nat) q,(XD.mapIdx λi g=>(g.1,(f i).2.1,(f i).2.2))[i]? =some q->∃g,XD[i]? =some g/\q=(g.1,(f i).2.1,(f i).2.2):=λi q e=>by
  rw[Xe]at e;obtain⟨g,j,rfl⟩:=RC.mp e;exact⟨g,j,rfl⟩
 have l:∀{i:Nat}{g:Xw Key×V},XD[i]? =some g->i<y.length:=λe=>by
  have:=(gI0.mp e).1;lia
 have E:(XD.mapIdx λi g=>(g.1,(f i).2.1,(f i).2.2)).length=XD.length:=List.length_mapIdx;refine xU (XD.mapIdx λi g=>(g.1,(f i).2.1,(f i).2.2)) (λi=>(f i).1) hu (I.ok.hd hc) Z J X2 hd (by rw[E,Rw];lia) (by rw[E];lia) (λi v e=>?_) (λi q e=>?_) λh' W U kp=>?_
 ·have O:y[i]? =some v:=by simpa using e
  have:=(C i (gI0.mp O).1).1;rw[O]at this;exact Rr this
 ·obtain⟨g,j,rfl⟩:=w i q e
  have:=(C i<|l j).2 g j;exact⟨this.1,jX I.hok this.2.1⟩
 ·have G:KT H XD (XD.mapIdx λi g=>(g.1,(f i).2.1,(f i).2.2)):=jg E.symm λi p q j e2=>by
   obtain⟨g,R,rfl⟩:=w i q e2;rw[j]at R;cases R;exact⟨rfl,((C i<|l j).2 _ j).2.1,((C i<|l j).2 _ j).2.2⟩
  have B:=KT.merge G (XD:=[]) (xs:=[]) .nil;have ml:=kG XD [];have z:([]:Xw (Xw Key×V)).length=0:=rfl;obtain⟨ob,es,ep,F,h2,h3,h4,_,h5⟩:=U;have P:=I.hok.fresh<|QP s.heap.objs.size;refine⟨.ref _,_,I.laid (a:=s.heap.objs.size) (o:=.dT<|i6 [] XD) (t':=W) kp (QP _) ⟨by lia,R9.mpr<|To<|Rb I.big,_,B.keeps λc ys M=>?_,ob,es,ep,F,h2,h3,h4,h5⟩,rfl,q _ P⟩;rw[cG<|cF M P];exact M
end L2
namespace J
section
variable {st:Expr}{ty:TE}{td:TE}{te:TE}{ts:TO}{pos:Pos}{p2:Pos}
def LQ{o f:Expr}{a l:Pos}{j:TE}(p:X.A.units+1<cLine)(m:JE X o td)(he:JE X e ty)(hf:JE X f j)(h:iO o=true:=by rfl)(i:notStar e=true:=by rfl)(g:notStar f=true:=by rfl)(n:(a.endLine==l.line)=true:=by rfl):JE X (.Call (.Attribute o "get" a) [e,f] [] l) (EJ td ty j):=
 ⟨Dv p m.out he.out hf.out ⟨fN h,by rw[BX i g];rfl,n,BX i g⟩⟩
def uK(a:X.A.units+1<cLine):JC X .Eq (λx y H Q=>MN X.K x y H Q):=⟨L2.uK a⟩
def vb(a:X.A.units+1<cLine)(f:JE X e ty)(g:JE X d td)(hm:behindInMarks .In d=false:=by rfl):JE X (.Compare e [.In] [d] pos) (HG ty td):=⟨L2.vb a f.out g.out hm⟩
def fD(e:X.A.units+2<cLine)(a:X.calm=true):JF X (.type "dict") (λvs H Q=>II X.K vs H Q):=⟨L2.fD e a⟩
def N6{a g i o v1 v2 l v4:Expr}{t1 f t3 n h j p m:TE}(a1:JE X a t1)(r:JE X v1 h)(a2:JE X g f)(s:JE X v2 j)(v:JE X i t3)(w:JE X l p)(q:JE X o n)(x:JE X v4 m):
  JE X (.Dict [some a,some g,some i,some o] [v1,v2,l,v4] pos) (Jr [(t1,h),(f,j),(t3,p),(n,m)]):=
 ⟨FR (jS a1.out r.out<|jS a2.out s.out<|jS v.out w.out<|jS q.out x.out AG) rfl rfl (λe=>by cases e)<|by show 4<=15;decide⟩
end
end J
namespace TS
def oW:Bool->Keyed->Array Keyed->Nat->Nat->Nat->StateT SortSt Sem (Xu Nat):=sortPriv% PySem.Builtin.gallop
def key(κ:KeyKind)(p:Keyed):κ.α:=(κ.keyOf p.1).getD κ.dflt
def kr(κ:KeyKind)(p:Keyed):Prop:=∃a,κ.keyOf p.1=some a
def j5(prog:Xr)(w:Xs)(A:Xv)(E:Xy)(s:Xq)(κ:KeyKind)(e:SortKind):Prop:=
 ∀(x y:Keyed) (a:SortSt) (Q:Xu Bool->SortSt->Prop),kindOf a=e->kr κ x->kr κ y->Q (some<|κ.blt (key κ x)<|key κ y) a->wpS (model prog w) A E s (lt' x y) Q a
section
variable {prog:Xr}{w:Xs}{A:Xv}{E:Xy}{s:Xq}{κ:KeyKind}{kd:SortKind}
def cT{f:Keyed->StateT SortSt Sem β}(h:arr[i]? =some x)(q:wpS (model prog w) A E s (f x) Q zt):wpS (model prog w) A E s (elem' arr i >>= f) Q zt:=RM (by
 rw[elem'_eq,h];exact Q0 q)
def j5.b{f:Xu Bool->StateT SortSt Sem β}(a:j5 prog w A E s κ kd)(e:kindOf zt=kd)(g:kr κ x)(h:kr κ y)(q:wpS (model prog w) A E s (f<|some<|κ.blt (key κ x)<|key κ y) Q zt):wpS (model prog w) A E s (lt' x y >>= f) Q zt:=RM<|a x y zt _ e g h q
def cO [Decidable c]{e a:StateT SortSt Sem β}(f:c->wpS (model prog w) A E s e Q zt)(g:¬c->wpS (model prog w) A E s a Q zt):wpS (model prog w) A E s (if c then e else a) Q zt:=by grind
def dJ{x y:Nat}{e a:StateT SortSt Sem β}(f:x=y->wpS (model prog w) A E s e Q zt)(g:x≠y->wpS (model prog w) A E s a Q zt):wpS (model prog w) A E s (if(x==y)=true then e else a) Q zt:=by grind
def eN{f:Xu ρ×τ->StateT SortSt Sem β}(J:Nat->τ->SortSt->Prop)(R:τ->SortSt->Prop)(e:ρ->SortSt->Prop)(h:J a t zt)
  (u:∀t i zt,i<b->J i t zt->∀Q:ForInStep (Xu ρ×τ)->SortSt->Prop,(∀r t zt,e r zt->Q (.done (some r,t)) zt)->(∀t zt,R t zt->Q (.done (none,t)) zt)->(∀t zt,J (i+1) t zt->Q (.yield (none,t)) zt)->wpS (model prog w) A E s (g i (none,t)) Q zt)
  (d:∀t zt,J (max a b) t zt->R t zt)(j:∀r t zt,e r zt->wpS (model prog w) A E s (f (some r,t)) Q zt)(p:∀t zt,R t zt->wpS (model prog w) A E s (f (none,t)) Q zt):wpS (model prog w) A E s (forIn [a:b] (none,t) g >>= f) Q zt:=
 RM (wpS_mono (wpS_forRange (Q:=λc zt=>wpS (model prog w) A E s (f c) Q zt) (λi c zt=>c.1=none/\J i c.2 zt) (by
  rintro i ⟨_,t⟩ zt _ l ⟨⟨⟩,h⟩;exact u t i zt l h _ j p λ_ _ h=>⟨rfl,h⟩) (by
  rintro⟨_,t⟩ zt ⟨⟨⟩,h⟩;exact p t zt<|d t zt h) ⟨rfl,h⟩) λ_ _ h=>h)
def Km(κ:KeyKind)(left:Bool)(k x:Keyed):Bool:=if left then κ.blt (key κ x) (key κ k) else !(κ.blt (key κ k)<|key κ x)
def He{f:Xu Bool->StateT SortSt Sem β}(h:j5 prog w A E s κ kd)(a:kindOf zt=kd)(e:kr κ k)(j:arr[i]? =some x)(g:kr κ x)(q:wpS (model prog w) A E s (f<|some<|Km κ left k x) Q zt):
  wpS (model prog w) A E s ((elem' arr i >>= λx=>if left=true then lt' x k else lt' k x >>= λr=>pure<|Option.map (λy=> !y) r) >>= f) Q zt:=by
 refine RM<|cT j ?_;cases left with
 |true=>exact h x k zt _ a g e q
 |false=>exact h.b a e g<|Q0 q
def mid{a b:Nat}(h:a<b):a<=a+(b-a) / 2/\a+(b-a) / 2<b:=by lia
def yJ(hL:j5 prog w A E s κ kd){left:Bool}{k:Keyed}{arr:Array Keyed}{base n a:Nat}{zt:SortSt}{Q:Xu Nat->SortSt->Prop}(hk:kindOf zt=kd)(kk:kr κ k)(f:Nat->Bool)(hf:∀i,i<n->∃x,arr[base+i]? =some x/\kr κ x/\Km κ left k x=f i)(mono:∀i j,i<=j->j<n->f j=true->f i=true)(W:a<n)
  (q:∀m,m<=n->(∀i,i<m->f i=true)->(∀i,m<=i->i<n->f i=false)->Q (some m) zt):wpS (model prog w) A E s (oW left k arr base n a) Q zt:=by
 have beyond:∀{β}{i:Nat}{g:Xu Bool->StateT SortSt Sem β}{Q:β->SortSt->Prop},i<n->wpS (model prog w) A E s (g<|some<|f i) Q zt->wpS (model prog w) A E s ((elem' arr (base+i) >>= λx=>if left=true then lt' x k else lt' k x >>= λr=>pure<|Option.map (λy=> !y) r) >>= g) Q zt:=λ{β i g Q} z hR=>by
  obtain⟨x,M,Z,e⟩:=hf i z;exact He hL hk kk M Z<|e ▸ hR
 have up:∀i j,i<=j->j<n->f i=false->f j=false:=λi j l J p=>by
  cases h:f j with
  |false=>rfl
  |true=>rw[mono i j l J h]at p;cases p
 refine beyond W ?_;dsimp -zeta only
 extract_lets -underBinder+onlyGivenNames jp
 suffices Y:∀X o N z,N<=z->z<=n->(∀i,i<N->f i=true)->(∀i,z<=i->i<n->f i=false)->wpS (model prog w) A E s (jp () X o N z) Q zt by
  clear_value jp
  refine cO (λhr=>?_) λhr=>?_
  ·refine eN (λx t B=>zt=B/\t.1<t.2/\x+1<=t.2/\a+t.1<n/\f (a+t.1)=true) (λt B=>zt=B/\t.1<t.2/\a+t.1<n/\f (a+t.1)=true/\(n-a<=t.2\/(a+t.2<n/\f (a+t.2)=false))) (λ_ _=>False) ⟨rfl,Nat.zero_lt_one,QP 1,W,hr⟩ ?_ ?_ nofun ?_
   ·rintro t x _ M ⟨rfl,l,J,p,v⟩ Q q1 K L
    exact cO (λF=>Q0<|K _ _ ⟨rfl,l,p,v,.inl F⟩) λF=>beyond (by lia) (cO (λG=>Q0<|K _ _ ⟨rfl,l,p,v,.inr ⟨by lia,by grind⟩⟩) λG=>Q0<|L _ _ ⟨rfl,by lia,by lia,by lia,by grind⟩)
   ·rintro t _ ⟨rfl,l,J,p,v⟩
    exact⟨rfl,l,p,v,.inl<|by lia⟩
   ·rintro t _ ⟨rfl,l,p,v,C⟩
    exact Y _ _ _ _ (by clear C;lia) (by clear C;lia) (λi z=>mono i _ (VQ z) p v) λi T O=>by
     obtain C|⟨C,U⟩:=C
     ·lia
     ·exact up _ i (by lia) O U
  ·refine eN (λx t B=>zt=B/\t.1<t.2/\x+1<=t.2/\t.1<=a/\f (a-t.1)=false) (λt B=>zt=B/\t.1<t.2/\t.1<=a/\f (a-t.1)=false/\(a+1<=t.2\/(t.2<=a/\f (a-t.2)=true))) (λ_ _=>False) ⟨rfl,Nat.zero_lt_one,QP 1,RQ _,RH.mpr hr⟩ ?_ ?_ nofun ?_
   ·rintro t x _ M ⟨rfl,l,J,p,v⟩ Q q1 K L
    exact cO (λF=>Q0<|K _ _ ⟨rfl,l,p,v,.inl F⟩) λF=>beyond (by lia) (cO (λG=>Q0<|K _ _ ⟨rfl,l,p,v,.inr ⟨by lia,G⟩⟩) λG=>Q0<|L _ _ ⟨rfl,by lia,by lia,by lia,RH.mpr G⟩)
   ·rintro t _ ⟨rfl,l,J,p,v⟩
    exact⟨rfl,l,p,v,.inl<|by lia⟩
   ·rintro t _ ⟨rfl,l,p,v,C⟩
    exact Y _ _ _ _ (by clear C;lia) (by lia) (λi T=>by
     obtain C|⟨C,U⟩:=C
     ·lia
     ·exact mono i _ (by lia) (by lia) U) λi T O=>up _ i T O v
 intro X o N z R D H I;refine eN (λx t B=>zt=B/\t.1<=t.2/\t.2<=n/\x+t.2<=n+t.1/\(∀i,i<t.1->f i=true)/\(∀i,t.2<=i->i<n->f i=false)) (λt B=>zt=B/\t.2<=n/\(∀i,i<t.2->f i=true)/\(∀i,t.2<=i->i<n->f i=false)) (λ_ _=>False) ⟨rfl,R,D,by lia,H,I⟩ ?_ ?_ nofun ?_
 ·rintro t x _ M ⟨rfl,R,D,g3,H,I⟩ Q q1 K L
  refine cO (λF=>Q0<|K _ _ ⟨rfl,D,λi z=>H i<|Rp z F,I⟩) λF=>?_
  extract_lets -underBinder+onlyGivenNames m
  have G:t.1<=m/\m<t.2:=mid<|U6 F
  clear_value m
  have S:=Rp G.2 D;exact beyond S (cO (λb=>Q0<|L _ _ ⟨rfl,G.2,D,by lia,λi P=>mono i _ (VQ P) S b,I⟩) λb=>Q0<|L _ _ ⟨rfl,G.1,Us S,by lia,H,λi l J=>up _ i l J<|RH.mpr b⟩)
 ·rintro t _ ⟨rfl,R,D,g3,H,I⟩
  exact⟨rfl,D,λi z=>H i<|by lia,I⟩
 ·rintro t _ ⟨rfl,D,H,I⟩
  exact Q0<|q _ D H I
end
variable {κ:KeyKind}
def dC(κ:KeyKind)(l:Xw Keyed):Prop:=l.Pairwise λx y=>κ.kle (key κ x)<|key κ y
def NR(κ:KeyKind)(v:κ.α)(p:Keyed):Bool:= !κ.blt (key κ p) v && !κ.blt v (key κ p)
def fk(κ:KeyKind)(v:κ.α)(l:Xw Keyed):Xw Keyed:=l.filter<|NR κ v
def Below(κ:KeyKind)(l m:Xw Keyed):Prop:=∀x∈l,∀y∈m,κ.kle (key κ x)<|key κ y
def Under(κ:KeyKind)(l m:Xw Keyed):Prop:=∀x∈l,∀y∈m,κ.klt (key κ x)<|key κ y
def cQ(κ:KeyKind)(l m:Xw Keyed):Prop:=∀v,fk κ v l=fk κ v m
def Under.below(h:Under κ l m):Below κ l m:=λx a y e=>KeyOrd.kle_of_klt<|h x a y e
def ki(v:κ.α)(l m:Xw Keyed):fk κ v (l++m)=fk κ v l++fk κ v m:=SJ ..
def xk(p:Keyed):NR κ (key κ p) p=true:=by
 unfold NR;rw[κ.irrefl];rfl
def CT(h:NR κ v p=true):key κ p=v:=by
 unfold NR at h;rw[R6,UR,UR]at h;exact κ.total _ _ h.1 h.2
def cQ.refl(l:Xw Keyed):cQ κ l l:=λ_=>rfl
def cQ.trans(h:cQ κ l m)(h':cQ κ m n):cQ κ l n:=λv=>(h v).trans<|h' v
def cQ.append(h:cQ κ l l')(h':cQ κ m m'):cQ κ (l++m) (l'++m'):=λv=>by
 rw[ki,ki,h v,h' v]
def cQ.perm(h:cQ κ l m):l.Perm m:=by
 classical
 refine List.perm_iff_count.mpr λx=>?_;have e:=RP (List.count x)<|h<|key κ x;unfold fk at e
 rwa [List.count_filter<|xk x,List.count_filter<|xk x]at e
def cQ.mem(h:cQ κ l m):x∈l↔x∈m:=h.perm.mem_iff
def cQ.swap(h:Under κ l m):cQ κ (l++m) (m++l):=λv=>by
 rw[ki,ki];by_cases e:fk κ v l=[]
 ·grind
 ·obtain⟨x,n⟩:=List.exists_mem_of_ne_nil _ e
  obtain⟨i,f⟩:=Ra.mp n;have o:fk κ v m=[]:=List.eq_nil_iff_forall_not_mem.mpr λy g=>by
   obtain⟨a,j⟩:=Ra.mp g;have:=h x i y a;rw[CT f,CT j]at this;unfold KeyOrd.klt at this;rw[κ.irrefl]at this;cases this
  grind
def dC.append(h:dC κ l)(h':dC κ m)(b:Below κ l m):dC κ (l++m):=UL.mpr ⟨h,h',b⟩
def dC.left(h:dC κ (l++m)):dC κ l:=(UL.mp h).1
def dC.right(h:dC κ (l++m)):dC κ m:=(UL.mp h).2.1
def dC.mid(h:dC κ (l++m)):Below κ l m:=(UL.mp h).2.2
def dC.drop(h:dC κ l)(i:Nat):dC κ (l.drop i):=Tw (List.drop_sublist i l) h
def Below.append(h:Below κ l n)(h':Below κ m n):Below κ (l++m) n:=λx a=>(Ro.mp a).elim (h x)<|h' x
def Below.left(h:Below κ l (m++n)):Below κ l m:=λx a y e=>h x a y<|Rj _ e
def Below.right(h:Below κ l (m++n)):Below κ l n:=λx a y e=>h x a y<|QV _ e
def Below.nil:Below κ l []:=λ_ _ _ h=>by cases h
def qt(l:Xw Keyed)(i k:Nat):l.drop i=(l.drop i).take k++l.drop (i+k):=by
 rw[<-drop_drop,RV]
structure j4(κ:KeyKind)(al bl out:Xw Keyed)(ia ib:Nat):Prop where
 so:dC κ out
 oa:Below κ out (al.drop ia)
 ob:Below κ out (bl.drop ib)
 zt:cQ κ (out++(al.drop ia++bl.drop ib)) (al++bl)
def j4.yP(f:dC κ al)(h:j4 κ al bl out ia ib)(b:Below κ ((al.drop ia).take k) (bl.drop ib)):j4 κ al bl (out++(al.drop ia).take k) (ia+k) ib:=by
 have s:=f.drop ia;have a:=h.oa;have e:=h.zt;rw[qt al ia k]at s a e;refine⟨h.so.append s.left a.left,a.right.append s.mid,h.ob.append b,?_⟩;grind
def j4.yt(e:dC κ bl)(h:j4 κ al bl out ia ib)(b:Under κ ((bl.drop ib).take k) (al.drop ia)):j4 κ al bl (out++(bl.drop ib).take k) ia (ib+k):=by
 have s:=e.drop ib;have ob:=h.ob;have a:=h.zt;rw[qt bl ib k]at s ob a;refine⟨h.so.append s.left ob.left,h.oa.append b.below,ob.right.append s.mid,cQ.trans ?_ a⟩;rw[QS];refine(cQ.refl _).append ?_;rw[<-QS,<-QS];exact(cQ.swap b).append (cQ.refl _)
def j4.done(f:dC κ al)(a:dC κ bl)(h:j4 κ al bl out ia ib)(e:al.drop ia=[]\/bl.drop ib=[]):dC κ (out++al.drop ia++bl.drop ib)/\cQ κ (out++al.drop ia++bl.drop ib) (al++bl):=by
 refine⟨?_,by rw[QS];exact h.zt⟩;obtain e|e:=e
 ·rw[e,Ry]
  exact h.so.append (a.drop ib) h.ob
 ·rw[e,Ry]
  exact h.so.append (f.drop ia) h.oa
def j4.last(e:dC κ al)(a:dC κ bl)(h:j4 κ al bl out ia ib)(u:Under κ (bl.drop ib) (al.drop ia)):dC κ (out++bl.drop ib++al.drop ia)/\cQ κ (out++bl.drop ib++al.drop ia) (al++bl):=by
 refine⟨(h.so.append (a.drop ib) h.ob).append (e.drop ia)<|h.oa.append u.below,cQ.trans ?_ h.zt⟩;rw[QS];exact(cQ.refl _).append (cQ.swap u)
def EG:Array Keyed->Array Keyed->StateT SortSt Sem (Array Keyed):=sortPriv% PySem.Builtin.mergeLo
section
variable {prog:Xr}{w:Xs}{A:Xv}{E:Xy}{s:Xq}{kd:SortKind}
structure Kept(zt XE:SortSt):Prop where
 kind:kindOf XE=kindOf zt
 arr:arrOf XE=arrOf zt
 pend:pendingOf XE=pendingOf zt
 failed:failedOf XE=failedOf zt
def Kept.refl(zt:SortSt):Kept zt zt:=⟨rfl,rfl,rfl,rfl⟩
def Kept.trans(h:Kept a b)(h':Kept b c):Kept a c:=⟨h'.kind.trans h.kind,h'.arr.trans h.arr,h'.pend.trans h.pend,h'.failed.trans h.failed⟩
def qY:Nat->StateT SortSt Sem Unit:=sortPriv% PySem.Builtin.setMinGallop
def lP{f:Unit->StateT SortSt Sem β}(q:∀a,Kept zt a->wpS (model prog w) A E s (f ()) Q a):wpS (model prog w) A E s (qY g >>= f) Q zt:=RM (by
 exact Vn<|q _ ⟨rfl,rfl,rfl,rfl⟩)
def Aa{l:Xw Keyed}{b m:Nat}{x:Keyed}:x∈(l.drop b).take m↔∃i,i<m/\l[b+i]? =some x:=by
 constructor
 ·intro h
  obtain⟨i,a⟩:=Rg h;have e:=(gI0.mp a).1;rw[RU]at e;rw[Sv<|by lia,TN]at a;exact⟨i,by lia,a⟩
 ·rintro⟨i,h1,h2⟩
  refine QN (i:=i) ?_;rw[Sv h1,TN];exact h2
def dC.at{l:Xw Keyed}(h:dC κ ((l.drop b).take n))(r:i<=j)(p:j<n)(f:l[b+i]? =some x)(a:l[b+j]? =some y):κ.kle (key κ x) (key κ y):=by
 by_cases e:i=j
 ·subst e
  rw[f]at a;cases a;exact T8 _
 ·have o:((l.drop b).take n)[i]? =some x:=by rw[Sv<|by lia,TN];exact f
  obtain⟨g,q⟩:=gI0.mp o;obtain⟨m,s⟩:=gI0.mp (by rw[Sv p,TN];exact a);have:=UO.mp h i j g m (by lia);grind
def zu(G:j5 prog w A E s κ kd){left:Bool}{k:Keyed}{arr:Array Keyed}{base n l:Nat}{zt:SortSt}{Q:Xu Nat->SortSt->Prop}(C:kindOf zt=kd)(F:kr κ k)(B:∀x∈arr.toList,kr κ x)(sz:base+n<=arr.size)(ss:dC κ ((arr.toList.drop base).take n))(H:l<n)
  (q:∀m,m<=n->(∀x∈(arr.toList.drop base).take m,Km κ left k x=true)->(∀x∈(arr.toList.drop<|base+m).take (n-m),Km κ left k x=false)->Q (some m) zt):wpS (model prog w) A E s (oW left k arr base n l) Q zt:=by
 have h:∀i,i<n->∃x,arr.toList[base+i]? =some x/\kr κ x:=λi f=>by
  have:base+i<arr.toList.length:=by rw[QZ];lia
  exact⟨_,QJ this,B _<|Tf this⟩
 refine yJ G C F (λi=>match arr.toList[base+i]? with|some x=>Km κ left k x|none=>false) (λi f=>?_) (λi j z p g=>?_) H λm J I v=>q m J (λx e=>?_) λx e=>?_
 ·obtain⟨x,e,o⟩:=h i f
  exact⟨x,by rw[<-e,Rc],o,by rw[e]⟩
 ·obtain⟨x,e,o⟩:=h i (by lia)
  obtain⟨y,r,K⟩:=h j p;have le:=ss.at z p e r;rw[r]at g;rw[e];dsimp only at g ⊢;cases left with
  |true=>exact VI le<|show κ.klt _ _ from g
  |false=>
   have D:κ.blt (key κ k) (key κ y)=false:=by
    have:(!κ.blt (key κ k) (key κ y))=true:=g
    rwa [UR]at this
   have:κ.kle (key κ x) (key κ k):=Ur le D;show(!κ.blt (key κ k) (key κ x))=true;rw[UR];exact this
 ·obtain⟨i,f,a⟩:=Aa.mp e
  have:=I i f
  rwa [a]at this
 ·obtain⟨i,f,a⟩:=Aa.mp e
  rw[Nat.add_assoc]at a;have:=v (m+i) (by lia) (by lia)
  rwa [a]at this
def fG(l:Xw Keyed)(b:Nat){n:Nat}(h:l.length-b<=n):(l.drop b).take n=l.drop b:=Se (by rw[Sy];exact h)
def o9{f:Xu Nat->StateT SortSt Sem β}(r:j5 prog w A E s κ kd)(h:kindOf zt=kd)(i:kr κ k)(p:∀x∈arr.toList,kr κ x)(sz:base+n<=arr.size)(ss:dC κ ((arr.toList.drop base).take n))(l:XS<n)
  (q:∀m,m<=n->Below κ ((arr.toList.drop base).take m) [k]->Under κ [k] ((arr.toList.drop<|base+m).take<|n-m)->wpS (model prog w) A E s (f<|some m) Q zt):wpS (model prog w) A E s (oW false k arr base n XS >>= f) Q zt:=
 RM (zu r h i p sz ss l λm g o j=>q m g (λx e y a=>by
  cases QQ.mp a;have:=o x e;unfold Km at this;rw[QO bF0,UR]at this;exact this) (λy a x e=>by
  cases QQ.mp a;have:=j x e;unfold Km at this;rw[QO bF0,Bool.not_eq_false']at this;exact this))
def qj{f:Xu Nat->StateT SortSt Sem β}(r:j5 prog w A E s κ kd)(h:kindOf zt=kd)(i:kr κ k)(p:∀x∈arr.toList,kr κ x)(sz:base+n<=arr.size)(ss:dC κ ((arr.toList.drop base).take n))(l:XS<n)
  (q:∀m,m<=n->Under κ ((arr.toList.drop base).take m) [k]->Below κ [k] ((arr.toList.drop<|base+m).take<|n-m)->wpS (model prog w) A E s (f<|some m) Q zt):wpS (model prog w) A E s (oW true k arr base n XS >>= f) Q zt:=
 RM (zu r h i p sz ss l λm g o j=>q m g (λx e y a=>by
  cases QQ.mp a;exact o x e) (λy a x e=>by
  cases QQ.mp a;exact j x e))
def jH(κ:KeyKind)(a b r:Array Keyed):Prop:=dC κ r.toList/\cQ κ r.toList (a.toList++b.toList)
def lQ(a:Array Keyed)(i:Nat):(a.extract i a.size).toList=a.toList.drop i:=by
 rw[Ux];exact fG _ _ (by rw[QZ];exact QP _)
def pL(a:Array Keyed)(i k:Nat):(a.extract i<|i+k).toList=(a.toList.drop i).take k:=by simp_all
def gh{a:Array Keyed}(h:a[i]? =some x):a.toList.drop i=x::a.toList.drop (i+1):=by
 rw[<-Rc]at h;obtain⟨e,f⟩:=gI0.mp h;rw[UP e,f]
def dC.head(h:dC κ (x::l)):Below κ [x] (x::l):=λa f b e=>by
 cases QQ.mp f;obtain rfl|e:=Rq.mp e
 ·exact T8 _
 ·exact(VY.mp h).1 b e
def Under.over(h:Under κ l [k])(b:Below κ [k] m):Under κ l m:=λx a y e=>Tz (h x a k<|RF _)<|b k (RF _) y e
def Below.over(h:Below κ l [k])(b:Below κ [k] m):Below κ l m:=λx a y e=>Ur (h x a k<|RF _)<|b k (RF _) y e
section
variable {a:Array Keyed}{b:Array Keyed}{out:Array Keyed}{ia:Nat}{ib:Nat}(sa:dC κ a.toList)(sb:dC κ b.toList)
include sa sb
def j4.qa(h:j4 κ a.toList b.toList out.toList ia ib)(e:a.size<=ia\/b.size<=ib):jH κ a b (out++a.extract ia a.size++b.extract ib b.size):=by
 unfold jH;rw[SY,SY,lQ,lQ];exact h.done sa sb (e.imp (λe=>WM<|by omega) λe=>WM<|by omega)
def j4.Hq(h:j4 κ a.toList b.toList out.toList ia ib)(u:Under κ (b.toList.drop ib) (a.toList.drop ia)):jH κ a b (out++b.extract ib b.size++a.extract ia a.size):=by
 unfold jH;rw[SY,SY,lQ,lQ];exact h.last sa sb u
omit sa in
def j4.sI{x:Keyed}(h:j4 κ a.toList b.toList out.toList ia ib)(f:b[ib]? =some x)(u:Under κ [x] (a.toList.drop ia)):j4 κ a.toList b.toList (out.push x).toList ia (ib+1):=by
 rw[VR];have e:(b.toList.drop ib).take 1=[x]:=by rw[gh f];rfl
 have:=h.yt sb (by rw[e];exact u)
 rwa [e]at this
omit sb in
def j4.sJ{x:Keyed}(h:j4 κ a.toList b.toList out.toList ia ib)(f:a[ia]? =some x)(u:Below κ [x] (b.toList.drop ib)):j4 κ a.toList b.toList (out.push x).toList (ia+1) ib:=by
 rw[VR];have e:(a.toList.drop ia).take 1=[x]:=by rw[gh f];rfl
 have:=h.yP sa (by rw[e];exact u)
 rwa [e]at this
end
structure LI(κ:KeyKind)(a b:Array Keyed)(zt:SortSt)(out:Array Keyed)(ia ib t:Nat)(XE:SortSt):Prop where
 kp:Kept zt XE
 m:j4 κ a.toList b.toList out.toList ia ib
 la:ia+1<a.size
 lb:ib<b.size
 t:t<=ia+ib
def gS{a:Array Keyed}(h:i<a.size):∃x,a[i]? =some x/\x∈a.toList:=⟨_,getElem?_pos a i h,by simp⟩
def j4.J4{a b out:Array Keyed}(e:dC κ a.toList)(h:j4 κ a.toList b.toList out.toList ia ib)(u:Below κ ((a.toList.drop ia).take k) (b.toList.drop ib)):j4 κ a.toList b.toList (out++a.extract ia (ia+k)).toList (ia+k) ib:=by
 rw[SY,pL];exact h.yP e u
def j4.Li{a b out:Array Keyed}(e:dC κ b.toList)(h:j4 κ a.toList b.toList out.toList ia ib)(u:Under κ ((b.toList.drop ib).take k) (a.toList.drop ia)):j4 κ a.toList b.toList (out++b.extract ib (ib+k)).toList ia (ib+k):=by
 rw[SY,pL];exact h.yt e u
def wu(a:Array Keyed){i m n:Nat}(h:a.size-i<=n)(hm:m<=n):(a.toList.drop<|i+m).take (n-m)=a.toList.drop (i+m):=fG _ _ (by rw[QZ,<-Nat.sub_sub];exact Nat.sub_le_sub_right h m)
def LI.le(h:LI κ a b zt o i j y XE)(l:x<=y):LI κ a b zt o i j x XE:=⟨h.kp,h.m,h.la,h.lb,Rn l h.t⟩
def mO{f:Unit->StateT SortSt Sem β}(h:wpS (model prog w) A E s (f ()) Q zt):wpS (model prog w) A E s ((rule t:StateT SortSt Sem Unit) >>= f) Q zt:=RM<|wpS_lift<|Sm ⟨rfl,h⟩
def wV(hL:j5 prog w A E s κ kd){a b:Array Keyed}(hk:kindOf zt=kd)(ka:∀x∈a.toList,kr κ x)(kb:∀x∈b.toList,kr κ x)(z:dC κ a.toList)(p:dC κ b.toList)(a1:1<=a.size)(b1:1<=b.size)(u1:Under κ (b.toList.take 1) a.toList)(u2:Under κ b.toList (a.toList.drop<|a.size-1))
  (q:∀r g,Kept zt g->jH κ a b r->Q r g):wpS (model prog w) A E s (EG a b) Q zt:=by
 have M:∀{i:Nat}{x:Keyed},a[i]? =some x->Below κ [x] (a.toList.drop i):=λ{i x} F=>by
  have h:=z.drop i;rw[gh F]at h ⊢;exact h.head
 have N:∀{i:Nat}{x:Keyed},b[i]? =some x->Below κ [x] (b.toList.drop i):=λ{i x} F=>by
  have h:=p.drop i;rw[gh F]at h ⊢;exact h.head
 have J:∀{i:Nat}(j:Nat),i+1=a.size->Under κ (b.toList.drop j) (a.toList.drop i):=λ{i} j e x F y W=>u2 x (Uy F) y (by rwa [<-e]);obtain⟨b0,R,ar⟩:=gS b1;have m0:j4 κ a.toList b.toList (#[b0]:Array Keyed).toList 0 1:=by
  have h0:j4 κ a.toList b.toList (#[]:Array Keyed).toList 0 0:=⟨List.Pairwise.nil,(λ_ h=>by cases h),(λ_ h=>by cases h),cQ.refl _⟩;refine h0.sI p R ?_;have e:b.toList.take 1=[b0]:=by
   have:=gh R;grind
  rwa [e]at u1
 refine mO<|cT R<|dJ (λc1=>Q0<|q _ zt (Kept.refl _)<|m0.qa z p<|.inr<|SA c1.symm) λc1=>dJ (λP=>Q0<|q _ zt (Kept.refl _)<|m0.Hq z p<|J _ P) λP=>RM<|Vz ?_;refine eN (λx t g=>LI κ a b zt t.1 t.2.1 t.2.2.1 x g) (λ_ _=>False) (λr g=>Kept zt g/\jH κ a b r) ⟨Kept.refl _,m0,by lia,by lia,RQ _⟩ (λt x as F f Q q1 q2 U=>?_) (λt g f=>by
  have:=f.t;have:=f.la;have:=f.lb;lia) (λr t g h=>Q0<|q r g h.1 h.2) nofun
 refine eN (λy t g=>LI κ a b zt t.1 t.2.1 t.2.2.1 (x+y) g) (λt g=>LI κ a b zt t.1 t.2.1 t.2.2.1 (x+1) g) (λr g=>Kept zt g/\jH κ a b r) f (λt y X1 W f Q q1 q2 U=>?_) (λt g f=>by
  have:=f.t;have:=f.la;have:=f.lb;lia) (λr t g h=>Q0<|q1 r _ g h) λt X1 f=>?_
 ·obtain⟨Y,l,T⟩:=gS f.lb
  obtain⟨xa,I,am⟩:=gS<|US f.la;refine cT l<|cT I<|hL.b (f.kp.kind.trans hk) (kb Y T) (ka xa am)<|cO (λhc=>cT l ?_) λhc=>cT I ?_
  all_goals
   have B:=f.la;have C:=f.lb;have aq:=f.t
  ·have Z:=f.m.sI p l (Under.over (k:=xa) (λx F y W=>by cases QQ.mp F;cases QQ.mp W;exact hc)<|M I)
   refine dJ (λv=>Q0<|q1 _ _ _ ⟨f.kp,Z.qa z p<|.inr<|SA v.symm⟩) λv=>?_;have L:LI κ a b zt _ _ _ (x+(y+1)) X1:=⟨f.kp,Z,B,VA C v,by lia⟩;exact cO (λ_=>Q0<|q2 _ _<|L.le<|by lia) λ_=>Q0<|U _ _ L
  ·have Z:=f.m.sJ z I (Below.over (k:=Y) (λx F y W=>by cases QQ.mp F;cases QQ.mp W;exact RH.mpr hc)<|N l)
   refine dJ (λv=>Q0<|q1 _ _ _ ⟨f.kp,Z.Hq z p<|J _ v⟩) λv=>?_;have L:LI κ a b zt _ _ _ (x+(y+1)) X1:=⟨f.kp,Z,VA B v,C,by lia⟩;exact cO (λ_=>Q0<|q2 _ _<|L.le<|by lia) λ_=>Q0<|U _ _ L
 refine mO (eN (λy t g=>LI κ a b zt t.1 t.2.1 t.2.2.1 (x+1+y) g) (λt g=>LI κ a b zt t.1 t.2.1 t.2.2.1 (x+1) g) (λr g=>Kept zt g/\jH κ a b r) f (λt y al W f Q q1 q2 U=>?_) (λt g f=>by
  have:=f.t;have:=f.la;have:=f.lb;lia) (λr t g h=>Q0<|q1 r _ g h) λt g f=>lP λG S=>Q0<|U _ _ ⟨f.kp.trans S,f.m,f.la,f.lb,f.t⟩)
 extract_lets -underBinder+onlyGivenNames s1 H s2 ia s3 ib s4 mg s5 ac bc jp
 have f:LI κ a b zt H ia ib _ _:=f
 clear_value H ia ib mg ac bc s1
 have B:=f.la;have C:=f.lb;have aq:=f.t;obtain⟨Y,l,T⟩:=gS C
 suffices O:∀mg,wpS (model prog w) A E s (jp () mg) Q al from cO (λ_=>O _) λ_=>O _
 refine λmg=>lP λG S=>?_;have n:=f.kp.trans S;refine cT l (o9 hL (n.kind.trans hk) (kb Y T) ka (SA<|Xk<|Us<|US B) (by rw[fG _ _<|by rw[QZ];exact QP _];exact z.drop _) (UT<|US B) λk1 ad ap D=>?_);rw[wu a (QP _) ad]at D;dsimp -zeta only
 extract_lets -underBinder+onlyGivenNames ac jp
 suffices O:∀o i,j4 κ a.toList b.toList o.toList i ib->Under κ [Y] (a.toList.drop i)->ia<=i->i+1<a.size->wpS (model prog w) A E s (jp () o i) Q G by
  refine cO (λc=>?_) λc=>O _ _ f.m (by rwa [show k1=0 by lia]at D) (QP _) B;have X:=j4.J4 z f.m<|Below.over ap<|N l;exact dJ (λP=>Q0<|q1 _ _ _ ⟨n,X.Hq z p<|J _ P⟩) λP=>dJ (λc7=>Q0<|q1 _ _ _ ⟨n,X.qa z p<|.inl<|SA c7.symm⟩) λc7=>O _ _ X D (UN _ _) (by lia)
 refine λH i X D l1 l2=>cT l ?_;have m3:=j4.sI p X l D;obtain⟨xc,K,an⟩:=gS<|US l2;refine dJ (λv=>Q0<|q1 _ _ _ ⟨n,m3.qa z p<|.inr<|SA v.symm⟩) λv=>?_;refine cT K (qj hL (n.kind.trans hk) (ka xc an) kb (SA<|Xk C) (by rw[fG _ _<|by rw[QZ];exact QP _];exact p.drop _) (UT<|VA C v) λk2 ab ul bl=>?_);rw[wu b (QP _) ab]at bl;dsimp -zeta only
 extract_lets -underBinder+onlyGivenNames bc jp
 suffices O:∀o j,j4 κ a.toList b.toList o.toList i j->Below κ [xc] (b.toList.drop j)->ib<j->j<b.size->wpS (model prog w) A E s (jp () o j) Q G by
  refine cO (λc=>?_) λc=>O _ _ m3 (by rwa [show k2=0 by lia]at bl) (Tv _) (by lia);have m4:=j4.Li p m3<|Under.over ul<|M K;exact dJ (λP=>Q0<|q1 _ _ _ ⟨n,m4.qa z p<|.inr<|SA P.symm⟩) λc7=>O _ _ m4 bl (by lia) (by lia)
 refine λH j m4 bl l3 l4=>cT K ?_;have m5:=j4.sJ z m4 K bl;refine dJ (λv=>Q0<|q1 _ _ _ ⟨n,m5.Hq z p<|J _ v⟩) λv=>?_;have L:LI κ a b zt _ _ _ (x+1+(y+1)) G:=⟨n,m5,by lia,l4,by lia⟩;exact cO (λ_=>Q0<|q2 _ _<|L.le<|by lia) λ_=>Q0<|U _ _ L
end
end TS
namespace TS
variable {κ:KeyKind}
def lh(l:Xw Keyed)(h:m<=n):l.take n=l.take m++(l.drop m).take (n-m):=by
 rw[<-List.drop_take];have:=RV m<|l.take n;grind
def dC.take(h:dC κ l)(i:Nat):dC κ (l.take i):=Tw (VM i l) h
structure jP(κ:KeyKind)(al bl o:Xw Keyed)(na nb:Nat):Prop where
 so:dC κ o
 oa:Below κ (al.take na) o
 ob:Below κ (bl.take nb) o
 zt:cQ κ (al.take na++(bl.take nb++o)) (al++bl)
def Below.DV(h:Below κ l m)(h':Below κ l n):Below κ l (m++n):=λx a y e=>(Ro.mp e).elim (h x a y)<|h' x a y
def Below.IZ(h:Below κ (l++m) n):Below κ l n:=λx a y e=>h x (Rj _ a) y e
def Below.Fe(h:Below κ (l++m) n):Below κ m n:=λx a y e=>h x (QV _ a) y e
def jP.yP(f:dC κ al)(h:jP κ al bl o na nb)(hm:m<=na)(u:Under κ (bl.take nb) ((al.drop m).take<|na-m)):jP κ al bl ((al.drop m).take (na-m)++o) m nb:=by
 have s:=f.take na;have a:=h.oa;have e:=h.zt;rw[lh al hm]at s a e;refine⟨s.right.append h.so a.Fe,s.mid.DV a.IZ,u.below.DV h.ob,cQ.trans ?_ e⟩;rw[QS];refine(cQ.refl _).append ?_;rw[<-QS,<-QS];exact(cQ.swap u).append (cQ.refl _)
def jP.yt(e:dC κ bl)(h:jP κ al bl o na nb)(hm:m<=nb)(u:Below κ (al.take na) ((bl.drop m).take<|nb-m)):jP κ al bl ((bl.drop m).take (nb-m)++o) na m:=by
 have s:=e.take nb;have ob:=h.ob;have a:=h.zt;rw[lh bl hm]at s ob a;refine⟨s.right.append h.so ob.Fe,u.DV h.oa,s.mid.DV ob.IZ,?_⟩;grind
def jP.done(f:dC κ al)(a:dC κ bl)(h:jP κ al bl o na nb)(e:na=0\/nb=0):dC κ (al.take na++bl.take nb++o)/\cQ κ (al.take na++bl.take nb++o) (al++bl):=by
 refine⟨?_,by rw[QS];exact h.zt⟩;obtain e|e:=e
 ·rw[e,Ul,List.nil_append]
  exact(a.take nb).append h.so h.ob
 ·rw[e,Ul,Ry]
  exact(f.take na).append h.so h.oa
def jP.first(e:dC κ al)(a:dC κ bl)(h:jP κ al bl o na nb)(u:Under κ (bl.take nb) (al.take na)):dC κ (bl.take nb++al.take na++o)/\cQ κ (bl.take nb++al.take na++o) (al++bl):=by
 refine⟨?_,cQ.trans ?_ h.zt⟩
 ·rw[QS]
  exact(a.take nb).append ((e.take na).append h.so h.oa) (u.below.DV h.ob)
 ·rw[<-QS]
  exact(cQ.swap u).append (cQ.refl _)
def EH:Array Keyed->Array Keyed->StateT SortSt Sem (Array Keyed):=sortPriv% PySem.Builtin.mergeHi
section
variable {prog:Xr}{A:Xv}{E:Xy}{s:Xq}{kd:SortKind}
abbrev bk(out:Array Keyed):Xw Keyed:=out.toList.reverse
section
variable {a:Array Keyed}{b:Array Keyed}(sa:dC κ a.toList)(sb:dC κ b.toList)
include sa sb
def jP.qa(h:jP κ a.toList b.toList (bk out) na nb)(e:na=0\/nb=0):jH κ a b (a.extract 0 na++b.extract 0 nb++out.reverse):=by
 unfold jH;rw[SY,SY,Ux,Ux,Xf];exact h.done sa sb e
def jP.Gr(h:jP κ a.toList b.toList (bk out) na nb)(u:Under κ (b.toList.take nb) (a.toList.take na)):jH κ a b (b.extract 0 nb++a.extract 0 na++out.reverse):=by
 unfold jH;rw[SY,SY,Ux,Ux,Xf];exact h.first sa sb u
omit sa in
def jP.Li{m:Nat}(h:jP κ a.toList b.toList (bk out) na nb)(hm:m<=nb)(u:Below κ (a.toList.take na) ((b.toList.drop m).take<|nb-m)):jP κ a.toList b.toList (bk<|out++(b.extract m nb).reverse) na m:=by
 have e:bk (out++(b.extract m nb).reverse)=(b.toList.drop m).take (nb-m)++bk out:=by simp_all
 rw[e];exact h.yt sb hm u
omit sb in
def jP.J4{m:Nat}(h:jP κ a.toList b.toList (bk out) na nb)(hm:m<=na)(u:Under κ (b.toList.take nb) ((a.toList.drop m).take<|na-m)):jP κ a.toList b.toList (bk<|out++(a.extract m na).reverse) m nb:=by
 have e:bk (out++(a.extract m na).reverse)=(a.toList.drop m).take (na-m)++bk out:=by simp_all
 rw[e];exact h.yP sa hm u
end
def uC{a:Array Keyed}(e:a[m]? =some x)(h:n=m+1):(a.toList.drop m).take (n-m)=[x]:=by
 rw[gh e,show n-m=1 by lia];rfl
def zD(out:Array Keyed)(x:Keyed):bk (out.push x)=[x]++bk out:=by grind
def jP.sJ{a b out:Array Keyed}{na nb m:Nat}{x:Keyed}(g:dC κ a.toList)(h:jP κ a.toList b.toList (bk out) na nb)(f:a[m]? =some x)(hm:na=m+1)(u:Under κ (b.toList.take nb) [x]):jP κ a.toList b.toList (bk<|out.push x) m nb:=by
 have e:=uC f hm;have:=h.yP (m:=m) g (by lia) (by rw[e];exact u);rw[e]at this;rw[zD];exact this
def jP.sI{a b out:Array Keyed}{na nb m:Nat}{x:Keyed}(g:dC κ b.toList)(h:jP κ a.toList b.toList (bk out) na nb)(f:b[m]? =some x)(hm:nb=m+1)(u:Below κ (a.toList.take na) [x]):jP κ a.toList b.toList (bk<|out.push x) na m:=by
 have e:=uC f hm;have:=h.yt (m:=m) g (by lia) (by rw[e];exact u);rw[e]at this;rw[zD];exact this
def dC.last{a:Array Keyed}(h:dC κ a.toList)(g:a[m]? =some x)(i:n=m+1):Below κ (a.toList.take n) [x]:=by
 have s:=h.take n;have e:=lh a.toList (show m<=n by lia);rw[uC g i]at e;rw[e]at s ⊢;exact s.mid.append λy f z j=>by
  cases QQ.mp f;cases QQ.mp j;exact T8 _
def Below.under(h:Below κ l [k])(u:Under κ [k] m):Under κ l m:=λx a y e=>VI (h x a k<|RF _)<|u k (RF _) y e
structure HI(κ:KeyKind)(a b:Array Keyed)(zt:SortSt)(out:Array Keyed)(na nb t:Nat)(XE:SortSt):Prop where
 kp:Kept zt XE
 m:jP κ a.toList b.toList (bk out) na nb
 la:1<=na
 lb:2<=nb
 ha:na<=a.size
 hb:nb<=b.size
 t:na+nb+t<=a.size+b.size
def HI.le(h:HI κ a b zt o i j y XE)(l:x<=y):HI κ a b zt o i j x XE:=⟨h.kp,h.m,h.la,h.lb,h.ha,h.hb,Rn (Xi l _) h.t⟩
def vZ(hL:j5 prog w A E s κ kd){a b:Array Keyed}(hk:kindOf zt=kd)(ka:∀x∈a.toList,kr κ x)(kb:∀x∈b.toList,kr κ x)(p:dC κ a.toList)(v:dC κ b.toList)(a1:1<=a.size)(b1:1<=b.size)(u1:Under κ (b.toList.take 1) a.toList)(u2:Under κ b.toList (a.toList.drop<|a.size-1))
  (q:∀r g,Kept zt g->jH κ a b r->Q r g):wpS (model prog w) A E s (EH a b) Q zt:=by
 obtain⟨a0,Y,ap⟩:=gS (show a.size-1<a.size by lia);have F:∀{C:Nat}(X:Nat),C=1->Under κ (b.toList.take C) (a.toList.take X):=λ{C} X e x P y I=>by
  subst e;exact u1 x P y<|SR I
 have m0:jP κ a.toList b.toList (bk #[a0]) (a.size-1) b.size:=by
  have h0:jP κ a.toList b.toList (bk #[]) a.size b.size:=⟨List.Pairwise.nil,Below.nil,Below.nil,by
   rw[Se<|by grind,Se<|by grind];show cQ κ (_++(_++[])) _;rw[Ry];exact cQ.refl _⟩
  refine h0.sJ p Y (by lia) λx P y I=>u2 x (SR P) y ?_;rw[gh Y];cases QQ.mp I;exact RD
 refine mO<|cT Y<|dJ (λc1=>Q0<|q _ zt (Kept.refl _)<|m0.qa p v<|.inl c1) λc1=>dJ (λH=>Q0<|q _ zt (Kept.refl _)<|m0.Gr p v<|F _ H) λH=>RM<|Vz ?_;refine eN (λx t g=>HI κ a b zt t.2.2.1 t.1 t.2.1 x g) (λ_ _=>False) (λr g=>Kept zt g/\jH κ a b r) ⟨Kept.refl _,m0,by lia,by lia,by lia,by lia,by lia⟩ (λt x aq P f Q q1 q2 q3=>?_) (λt g f=>by
  have:=f.t;have:=f.la;lia) (λr t g h=>Q0<|q r g h.1 h.2) nofun
 refine eN (λy t g=>HI κ a b zt t.2.2.1 t.1 t.2.1 (x+y) g) (λt g=>HI κ a b zt t.2.2.1 t.1 t.2.1 (x+1) g) (λr g=>Kept zt g/\jH κ a b r) f (λt y X1 I f Q q1 q2 q3=>?_) (λt g f=>by
  have:=f.t;have:=f.la;lia) (λr t g h=>Q0<|q1 r _ g h) λt X1 f=>?_
 ·have G:=f.la
  have K:=f.lb;have T:=f.ha;have N:=f.hb;have an:=f.t;obtain⟨xb,l,U⟩:=gS (show t.2.1-1<b.size by lia);obtain⟨xa,J,ad⟩:=gS (show t.1-1<a.size by lia);refine cT l<|cT J<|hL.b (f.kp.kind.trans hk) (kb xb U) (ka xa ad)<|cO (λhc=>cT J ?_) λhc=>cT l ?_
  ·have m':=f.m.sJ p J (by lia) (Below.under (k:=xb) (v.last l<|by lia) λx P y I=>by cases QQ.mp P;cases QQ.mp I;exact hc)
   refine dJ (λz=>Q0<|q1 _ _ _ ⟨f.kp,m'.qa p v<|.inl z⟩) λz=>?_;have L:HI κ a b zt _ _ _ (x+(y+1)) X1:=⟨f.kp,m',VB z,K,by lia,N,by lia⟩;exact cO (λ_=>Q0<|q2 _ _<|L.le<|by lia) λ_=>Q0<|q3 _ _ L
  ·have m':=f.m.sI v l (by lia) (Below.over (k:=xa) (p.last J<|by lia) λx P y I=>by cases QQ.mp P;cases QQ.mp I;exact RH.mpr hc)
   refine dJ (λz=>Q0<|q1 _ _ _ ⟨f.kp,m'.Gr p v<|F _ z⟩) λz=>?_;have L:HI κ a b zt _ _ _ (x+(y+1)) X1:=⟨f.kp,m',G,by lia,T,by lia,by lia⟩;exact cO (λ_=>Q0<|q2 _ _<|L.le<|by lia) λ_=>Q0<|q3 _ _ L
 refine mO (eN (λy t g=>HI κ a b zt t.2.2.1 t.1 t.2.1 (x+1+y) g) (λt g=>HI κ a b zt t.2.2.1 t.1 t.2.1 (x+1) g) (λr g=>Kept zt g/\jH κ a b r) f (λt y al I f Q q1 q2 q3=>?_) (λt g f=>by
  have:=f.t;have:=f.la;lia) (λr t g h=>Q0<|q1 r _ g h) λt g f=>lP λD Z=>Q0<|q3 _ _ ⟨f.kp.trans Z,f.m,f.la,f.lb,f.ha,f.hb,f.t⟩)
 extract_lets -underBinder+onlyGivenNames s1 X s2 C s3 M s4 mg s5 ac bc jp
 have f:HI κ a b zt M X C _ _:=f
 clear_value M X C mg ac bc s1
 have G:=f.la;have K:=f.lb;have T:=f.ha;have N:=f.hb;have an:=f.t;obtain⟨xb,l,U⟩:=gS (show C-1<b.size by lia)
 suffices R:∀mg,wpS (model prog w) A E s (jp () mg) Q al from cO (λ_=>R _) λ_=>R _
 refine λmg=>lP λD Z=>?_;have n:=f.kp.trans Z;refine cT l (o9 hL (n.kind.trans hk) (kb xb U) ka (by rwa [Td]) (by rw[Uj];exact p.take _) (sub_lt G one_pos) λk1 W B ab=>?_);rw[Uj]at B;rw[Td]at ab;dsimp -zeta only
 extract_lets -underBinder+onlyGivenNames k ac jp
 suffices R:∀o i,jP κ a.toList b.toList (bk o) i C->Below κ (a.toList.take i) [xb]->i<=X->1<=i->wpS (model prog w) A E s (jp () i o) Q D by
  refine cO (λc=>?_) λc=>R _ _ f.m (by rwa [show k1=X from Nat.le_antisymm W (W0<|WN c)]at B) (QP _) G;have m2:=jP.J4 p f.m W (Below.under (v.last l<|by lia) ab);exact dJ (λH=>Q0<|q1 _ _ _ ⟨n,m2.qa p v<|.inl H⟩) λH=>R _ _ m2 B W<|VB H
 refine λM i m2 B l1 l2=>cT l ?_;have m3:=jP.sI v m2 l (by lia) B;refine dJ (λz=>Q0<|q1 _ _ _ ⟨n,m3.Gr p v<|F _ z⟩) λz=>?_;have il:=Rp (sub_lt l2 one_pos)<|Rn l1 T;obtain⟨xc,O,am⟩:=gS il;refine cT O (qj hL (n.kind.trans hk) (ka xc am) kb (by rw[Td];exact Rn (sub_le _ _) N) (by rw[Uj];exact v.take _) (sub_lt (UT K) one_pos) λk2 S ul bl=>?_);rw[Uj]at ul;rw[Td]at bl;dsimp -zeta only
 extract_lets -underBinder+onlyGivenNames k bc jp
 suffices R:∀o j,jP κ a.toList b.toList (bk o) i j->Under κ (b.toList.take j) [xc]->j<C->2<=j->wpS (model prog w) A E s (jp () j o) Q D by
  refine cO (λc=>?_) λc=>R _ _ m3 (by rwa [show k2=C-1 from Nat.le_antisymm S (W0<|WN c)]at ul) (by lia) (by lia);have m4:=jP.Li v m3 S (Below.over (p.last O<|by lia) bl);exact dJ (λH=>Q0<|q1 _ _ _ ⟨n,m4.Gr p v<|F _ H⟩) λH=>dJ (λc7=>Q0<|q1 _ _ _ ⟨n,m4.qa p v<|.inr c7⟩) λc7=>R _ _ m4 ul (UW S<|sub_lt (Vy one_pos K) one_pos) (by lia)
 refine λM j m4 ul l3 l4=>cT O ?_;have m5:=jP.sJ p m4 O (by lia) ul;refine dJ (λz=>Q0<|q1 _ _ _ ⟨n,m5.qa p v<|.inl z⟩) λz=>?_;have L:HI κ a b zt _ _ _ (x+1+(y+1)) D:=⟨n,m5,VB z,l4,Us il,Rn (Us l3) N,by lia⟩;exact cO (λ_=>Q0<|q2 _ _<|L.le<|by lia) λ_=>Q0<|q3 _ _ L
end
end TS
namespace TS
def yz:Nat->Nat->StateT SortSt Sem (Xu Nat):=sortPriv% PySem.Builtin.countRun
def tX:Nat->Nat->Nat->StateT SortSt Sem Bool:=sortPriv% PySem.Builtin.binarySort
def wL{xs:Array Keyed}{P G R:Xw Keyed}(e:xs.toList=P++(G++R)){i j:Nat}(l:i=P.length)(a:j=i+G.length):(mirror xs i j<|(j-i) / 2).toList=P++(G.reverse++R):=by
 have g:xs.size=P.length+(G.length+R.length):=by rw[<-QZ,e,QK,QK]
 apply UU;intro k;rw[Rc,getElem?_mirror_all<|by lia,<-Rc,<-Rc,e];by_cases h:i<=k/\k<j
 ·rw[QR h,QW<|by lia,Rf<|by lia,QW<|by lia,Rf<|by rw[Si];lia,Uq<|by lia]
  congr 1
  lia
 ·rw[QO h]
  by_cases f:k<i
  ·rw[Rf<|by lia,Rf<|by lia]
  ·rw[QW<|by lia,QW<|by lia,QW<|by lia,QW<|by rw[Si];lia,Si]
def xm{xs:Array Keyed}{P T R:Xw Keyed}{x:Keyed}(e:xs.toList=P++(T++x::R)){a d:Nat}(j:a=P.length+T.length)(hd:d=T.length):(bubble xs a d).toList=P++(x::T++R):=by
 have i:xs.size=P.length+(T.length+(R.length+1)):=by rw[<-QZ,e,QK,QK];rfl
 apply UU;intro k;rw[Rc,getElem?_bubble (by lia) d<|by lia,<-Rc,<-Rc,<-Rc,e];by_cases h:k=a-d
 ·rw[QR h,QW<|by lia,QW<|by lia,QW<|by lia,show a-P.length-T.length=0 by lia,show k-P.length=0 by lia]
  rfl
 ·rw[QO h]
  by_cases g:a-d<k/\k<=a
  ·rw[QR g,QW<|by lia,Rf<|by lia,QW<|by lia,Rf<|by show _<T.length+1;lia,show k-P.length=(k-1-P.length)+1 by lia,Wx]
  ·rw[QO g]
   by_cases f:k<P.length
   ·rw[Rf f,Rf f]
   ·rw[QW<|by lia,QW<|by lia,QW<|by lia,QW<|by show T.length+1<=_;lia,show k-P.length-T.length=(k-P.length-(T.length+1))+1 by lia,Wx]
    rfl
theorem pT:∀(m:Xw Keyed) (j off:Nat) (xs:Array Keyed) (P Y R:Xw Keyed),xs.toList=P++(Y++R)->m.length=Y.length->off+j=P.length->
  ((m.zipIdx j).foldl (λ(a:Array Keyed) (x:Keyed×Nat)=>a.setIfInBounds (off+x.2) x.1) xs).toList=P++(m++R)
 |[],j,off,xs,P,Y,R,e,l,_=>by
  rw[List.zipIdx_nil,Wk,e,Rm l.symm]
 |x::m,j,off,xs,P,[],R,e,l,_=>by cases l
 |x::m,j,off,xs,P,y::Y,R,e,l,h=>by
  rw[List.zipIdx_cons,R5];have f:=pT m (j+1) off (xs.setIfInBounds (off+j) x) (P++[x]) Y R (by
   rw[Wg,e,h,List.set_append_right _ _<|QP _,WO,QS];rfl) (SE l) (by rw[QK,<-h];rfl)
  rw[f,QS];rfl
structure vp(zt XE:SortSt):Prop where
 kind:kindOf XE=kindOf zt
 pend:pendingOf XE=pendingOf zt
 failed:failedOf XE=failedOf zt
def vp.refl(zt:SortSt):vp zt zt:=⟨rfl,rfl,rfl⟩
def vp.trans(h:vp a b)(h':vp b c):vp a c:=⟨h'.kind.trans h.kind,h'.pend.trans h.pend,h'.failed.trans h.failed⟩
def oX(e:(arrOf zt).toList=P++(G++R))(g:i=P.length)(f:j=i+G.length)(q:∀a,vp zt a->(arrOf a).toList=P++(G.reverse++R)->Q () a):wpS (model prog w) A E s (reverseSlice' i j) Q zt:=by
 rw[reverseSlice'_eq];exact Vn<|q _ ⟨rfl,rfl,rfl⟩<|wL e g f
def E4(e:(arrOf zt).toList=P++(T++x::R))(f:YH=P.length+T.length)(hd:dst=P.length)(q:∀a,vp zt a->(arrOf a).toList=P++(x::T++R)->Q () a):wpS (model prog w) A E s (moveDown' YH dst) Q zt:=by
 rw[moveDown'_eq];exact Vn (q _ ⟨rfl,rfl,rfl⟩<|xm e f<|by lia)
def j7{f:Xu Bool->StateT SortSt Sem β}(l:j5 prog w A E s κ kd)(g:kindOf zt=kd)(e:(arrOf zt).toList[i]? =some x)(a:(arrOf zt).toList[j]? =some y)(h:kr κ x)(m:kr κ y)(q:wpS (model prog w) A E s (f<|some<|κ.blt (key κ x)<|key κ y) Q zt):wpS (model prog w) A E s (ltAt' i j >>= f) Q zt:=by
 rw[ltAt'_eq];rw[Rc]at e a;exact RM<|RM<|Vz<|cT e<|cT a<|l x y zt _ g h m q
def oI{P R:Xw Keyed}{x:Keyed}{i:Nat}(h:i=P.length):(P++x::R)[i]? =some x:=by
 rw[QW<|by lia,h,WO];rfl
def oZ{P C R:Xw Keyed}{x:Keyed}{i:Nat}(h:i=P.length+C.length):(P++((C++[x])++R))[i]? =some x:=by
 rw[QS,<-QS P];exact oI (by rw[QK];exact h)
def uX{P C R:Xw Keyed}{x:Keyed}{i:Nat}(h:i=P.length+C.length):(P++(C++x::R))[i]? =some x:=by
 rw[<-QS];exact oI (by rw[QK];exact h)
def dC.snoc(h:dC κ l)(b:Below κ l [x]):dC κ (l++[x]):=h.append (TB _ _) b
def oN(h:1<=l.length):∃c x,l=c++[x]:=⟨l.dropLast,l.getLast<|by grind,(List.dropLast_concat_getLast _).symm⟩
def dC.Jl(h:dC κ (c++[x]))(b:κ.kle (key κ x) (key κ y)):Below κ (c++[x]) [y]:=λu a v e=>by
 cases QQ.mp e;obtain a|a:=Ro.mp a
 ·exact Ur (h.mid u a x<|RF _) b
 ·grind
structure yR(κ:KeyKind)(X3:SortSt)(P S:Xw Keyed)(n:Nat)(M O R:Xw Keyed)(zt:SortSt):Prop where
 e:(arrOf zt).toList=P++(M++R)
 s:S=O++R
 m:M.length=n
 o:O.length=n
 sm:dC κ M
 tm:cQ κ M O
 cg:vp X3 zt
structure Cz(κ:KeyKind)(X3:SortSt)(P S:Xw Keyed)(n neq:Nat)(C G O R:Xw Keyed)(zt:SortSt):Prop where
 e:(arrOf zt).toList=P++((C++G)++R)
 s:S=O++R
 o:O.length=n
 m:C.length+G.length=n
 g:G.length=neq+1
 sc:dC κ C.reverse
 un:Under κ G C
 gg:Below κ G G
 t:cQ κ (C.reverse++G) O
 cg:vp X3 zt
def vN{P C G R:Xw Keyed}:P++((C++G)++R)=(P++C)++(G++R):=by rw[QS,QS]
def qr(h:Below κ G G):dC κ G:=VS.mpr λ{a b} e=>h a (e.subset RD) b<|e.subset<|RK _<|RF _
def Under.rev(h:Under κ G C):Under κ G C.reverse:=λx a y e=>h x a y<|List.mem_reverse.mp e
def Cz.up(d:Cz κ X3 P S n neq C G O R zt)(a:vp zt XE)(e:(arrOf XE).toList=P++((G++C.reverse)++R)):yR κ X3 P S n (G++C.reverse) O R XE:=
 ⟨e,d.s,by have:=d.m;rw[QK,Si];lia,d.o,(qr d.gg).append d.sc d.un.rev.below,(cQ.swap d.un.rev).trans d.t,d.cg.trans a⟩
def Cz.less(d:Cz κ X3 P S n neq C G O (y::R) zt)(u:Under κ [y] G)(g1:1<=G.length)(i:vp zt XE)(e:(arrOf XE).toList=(P++C)++(G.reverse++y::R)):Cz κ X3 P S (n+1) 0 (C++G.reverse) [y] (O++[y]) R XE:=by
 have m:=d.m;have r:(C++G.reverse).reverse=G++C.reverse:=by rw[Vr,Vk]
 refine⟨by rw[e,QS,QS,QS];rfl,by rw[d.s,QS];rfl,by rw[QK,d.o];rfl,by rw[QK,Si];show _+1=_;lia,rfl,?_,?_,?_,?_,d.cg.trans i⟩
 ·rw[r]
  exact(qr d.gg).append d.sc d.un.rev.below
 ·intro x f z a
  obtain a|a:=Ro.mp a
  ·obtain⟨g,h⟩:=List.exists_mem_of_length_pos g1
   exact Tz (u x f g h)<|d.un.below g h z a
  ·exact u x f z<|List.mem_reverse.mp a
 ·intro x f z a
  cases QQ.mp f;cases QQ.mp a;exact T8 _
 ·rw[r]
  exact((cQ.swap d.un.rev).trans d.t).append (cQ.refl _)
def Cz.same(d:Cz κ X3 P S n neq C G O (y::R) zt)(hz:z∈G)(j:κ.kle (key κ z) (key κ y))(i:κ.kle (key κ y) (key κ z)):Cz κ X3 P S (n+1) (neq+1) C (G++[y]) (O++[y]) R zt:=by
 have m:=d.m;refine⟨by rw[d.e,<-QS C,QS _ [y]];rfl,by rw[d.s,QS];rfl,by rw[QK,d.o];rfl,by rw[QK];show _+(_+1)=_;lia,by rw[QK,d.g];rfl,d.sc,?_,?_,?_,d.cg⟩
 ·intro u a v f
  obtain a|a:=Ro.mp a
  ·exact d.un u a v f
  ·cases QQ.mp a
   exact VI i<|d.un z hz v f
 ·intro u a v f
  have h:κ.kle (key κ u) (key κ z):=by
   obtain a|a:=Ro.mp a
   ·exact d.gg u a z hz
   ·grind
  refine Ur h ?_;obtain f|f:=Ro.mp f
  ·exact d.gg z hz v f
  ·grind
 ·rw[<-QS]
  exact d.t.append<|cQ.refl _
def zB{lo:Nat}{f:Xu (Xu Nat)×Nat->StateT SortSt Sem β}{g:Nat->Xu (Xu Nat)×Nat->StateT SortSt Sem (ForInStep<|Xu (Xu Nat)×Nat)}(T:j5 prog w A E s κ kd)(L:kindOf X3=kd)(G:∀x∈S,kr κ x)(Yt:lo=P.length)(I:S.length=nrem)(h1:1<=n)(up:yR κ X3 P S n M O R zt)
  (e:∀i n,g i (none,n)=ltAt' (lo+n) (lo+n-1) >>= λx=>match x with
   |some b=>if b then pure (.done (none,n)) else pure (.yield (none,n+1))
   |_=>pure<|.done (some none,n))
  (q:∀n M O R a,1<=n->n<=nrem->yR κ X3 P S n M O R a->(R=[]\/∃c z y F,M=c++[z]/\R=y::F/\κ.klt (key κ y) (key κ z))->wpS (model prog w) A E s (f (none,n)) Q a):wpS (model prog w) A E s (forIn [n:nrem] (none,n) g >>= f) Q zt:=by
 refine eN (λx m a=>x=m/\n<=m/\∃M O R,yR κ X3 P S m M O R a) (λm a=>∃M O R,n<=m/\m<=nrem/\yR κ X3 P S m M O R a/\(R=[]\/∃c z y F,M=c++[z]/\R=y::F/\κ.klt (key κ y) (key κ z))) (λ_ _=>False) ⟨rfl,QP _,_,_,_,up⟩ ?_ ?_ nofun λm a ⟨M,O,R,m1,J,h,Y⟩=>q m M O R a (by lia) J h Y
 ·rintro _ x a X ⟨rfl,l,M,O,R,p,j,r,H,B,D,C⟩ Q q1 q2 N
  rw[e];cases R with
  |nil=>rw[j,Ry,H]at I;lia
  |cons y R=>
  obtain⟨c,z,rfl⟩:=oN (show 1<=M.length by lia);have Z:kr κ z:=G z (by rw[j];exact Rj _<|D.mem.mp<|QV _<|RF _);have K:kr κ y:=G y (by rw[j];exact QV _ RD);rw[QK]at r;have U:c.length+1=x:=r;refine j7 T (C.kind.trans L) (by rw[p];exact uX<|by rw[QK];show _=_+(c.length+1);lia) (by rw[p];exact oZ<|by lia) K Z<|cO (λv=>?_) λv=>?_
  ·exact Q0 (q2 _ _ ⟨c++[z],O,y::R,l,Us X,⟨p,j,by rw[QK];exact r,H,B,D,C⟩,.inr ⟨c,z,y,R,rfl,rfl,v⟩⟩)
  ·exact Q0 (N _ _ ⟨rfl,by lia,(c++[z])++[y],O++[y],R,by rw[p,QS _ [y]];rfl,by rw[j,QS];rfl,by rw[QK,QK];show c.length+1+1=_;lia,by rw[QK];show O.length+1=_;lia,B.snoc<|B.Jl<|RH.mpr v,D.append<|cQ.refl _,C⟩)
 ·rintro _ a ⟨rfl,l,M,O,R,h⟩
  have W:=h.s;rw[W,QK,h.o]at I;exact⟨M,O,R,l,by lia,h,.inl<|Rm<|by lia⟩
def LJ [Decidable c]{F:Unit->StateT SortSt Sem β}(R:SortSt->Prop)(h:∀a,R a->wpS (model prog w) A E s (F ()) Q a)(e:c->wpS (model prog w) A E s m (λ_ a=>R a) zt)(f:¬c->R zt):wpS (model prog w) A E s (if c then m >>= F else F ()) Q zt:=cO (λc=>RM<|wpS_mono (e c) λ_ a=>h a) λc=>h zt<|f c
def p9{lo:Nat}(I:j5 prog w A E s κ kd)(F:kindOf zt=kd)(D:∀x∈S,kr κ x)(YQ:(arrOf zt).toList=P++S)(U:lo=P.length)(N:S.length=nrem)(h1:1<=nrem)
  (q:∀n i M O R,1<=n->n<=nrem->yR κ zt P S n M O R i->Q (some n) i):wpS (model prog w) A E s (yz lo nrem) Q zt:=by
 have a0:∃M O R,yR κ zt P S 1 M O R zt:=by
  cases S with
  |nil=>grind
  |cons x R=>exact⟨[x],[x],R,YQ,rfl,rfl,rfl,TB _ _,cQ.refl _,vp.refl _⟩
 obtain⟨M,O,R,a0⟩:=a0;refine zB I F D U N (QP 1) a0 (λ_ _=>rfl) λn M O R B X W h hR=>dJ (λ_=>Q0<|q n B M O R X W h) λc1=>?_
 extract_lets -underBinder+onlyGivenNames jp
 obtain rfl|⟨c,z,y,R,rfl,rfl,lt⟩:=hR
 ·exfalso
  rw[h.s,Ry,h.o]at N;exact c1 N
 have hm:=h.m;rw[QK]at hm;have Y:c.length+1=n:=hm
 suffices hj:∀{C p},Cz κ zt P S (n+1) 0 C [y] (O++[y]) R p->wpS (model prog w) A E s (jp ()) Q p by
  have start:∀{C:Xw Keyed}{p:SortSt},vp zt p->(arrOf p).toList=P++(C++y::R)->C.reverse=c++[z]->(∀u∈c++[z],κ.kle (key κ z)<|key κ u)->Cz κ zt P S (n+1) 0 C [y] (O++[y]) R p:=λ{C p} cg e r al=>by
   have cl:C.length=n:=by rw[<-Si,r,QK];exact Y
   refine⟨by rw[e,QS];rfl,by rw[h.s,QS];rfl,by rw[QK,h.o];rfl,by rw[cl];rfl,rfl,by rw[r];exact h.sm,λa T b l=>?_,λa T b l=>?_,by rw[r];exact h.tm.append<|cQ.refl _,cg⟩
   ·cases QQ.mp T
    exact Tz lt (al b<|by grind)
   ·cases QQ.mp T
    cases QQ.mp l;exact T8 _
  refine cO (λJ=>?_) λJ=>?_
  ·obtain⟨f,Z,rfl⟩:∃f Z,c=f::Z:=by
    cases c with
    |nil=>grind
    |cons f Z=>grind
   have H:=λu L=>D u (by rw[h.s];exact Rj _<|h.tm.mem.mp L);exact j7 I (h.cg.kind.trans F) (x:=f) (y:=z) (by rw[h.e];exact oI U) (by rw[h.e];exact oZ<|by lia) (H f RD) (H z<|QV _<|RF _) (cO (λl=>Q0<|q n B _ _ _ X W h) λl=>RM<|oX h.e U (by grind) λp am e2=>hj<|start (h.cg.trans am) e2 (Vk _) λu L=>Ur (show κ.kle (key κ z) (key κ f) from RH.mpr l)<|dC.head h.sm f (RF _) u L)
  ·have c0:c=[]:=Rm (by lia)
   subst c0;exact hj (start h.cg h.e rfl λu L=>by
    cases QQ.mp L;exact T8 _)
 refine λ{C p} d0=>mO<|eN (λx t i=>x=t.1/\∃C G O R,Cz κ zt P S t.1 t.2 C G O R i) (λt i=>∃C G O R,Cz κ zt P S t.1 t.2 C G O R i) (λ_ _=>False) ⟨rfl,_,_,_,_,d0⟩ ?_ (λ_ _ h=>h.2) nofun ?_
 ·rintro t _ i hx ⟨rfl,C,G,O,R,d⟩ Q q1 q2 q3
  cases R with
  |nil=>rw[d.s,Ry,d.o]at N;lia
  |cons y R=>
  have K:=d.g;have dm:=d.m;obtain⟨g,z,rfl⟩:=oN (show 1<=G.length by lia);have hz:z∈g++[z]:=QV _<|RF _;have kz:kr κ z:=D z (by rw[d.s];exact Rj _<|d.t.mem.mp<|QV _ hz);have ky:kr κ y:=D y (by rw[d.s];exact QV _ RD);rw[QK]at K dm;have as:g.length+1=t.2+1:=K;have av:C.length+(g.length+1)=t.1:=dm;have py:(arrOf i).toList[lo+t.1]? =some y:=by rw[d.e];exact uX (by rw[QK,QK];show _=_+(C.length+(g.length+1));lia)
  have pz:(arrOf i).toList[lo+t.1-1]? =some z:=by rw[d.e,<-QS C];exact oZ (by rw[QK];lia)
  refine j7 I (d.cg.kind.trans F) py pz ky kz<|cO (λl=>?_) λl=>j7 I (d.cg.kind.trans F) pz py kz ky<|cO (λ_=>Q0<|q2 _ _ ⟨_,_,_,_,d⟩) λan=>Q0<|q3 _ _ ⟨rfl,_,_,_,_,d.same hz (RH.mpr l)<|RH.mpr an⟩;have u:Under κ [y] (g++[z]):=λa T b aq=>by
   cases QQ.mp T;exact Tz (show κ.klt _ _ from l)<|d.gg z hz b aq
  refine cO (λJ=>?_) λJ=>?_
  ·exact RM (oX (P:=P++C) (G:=g++[z]) (R:=y::R) (d.e.trans vN) (by rw[QK];lia) (by rw[QK];show _=_+(g.length+1);lia) λv ad e3=>Q0<|q3 _ _ ⟨rfl,_,_,_,_,d.less u (by rw[QK];show 1<=_+1;lia) ad e3⟩)
  ·have g0:g=[]:=Rm (by lia)
   subst g0;exact Q0<|q3 _ _ ⟨rfl,_,_,_,_,d.less u (QP 1) (vp.refl _)<|d.e.trans vN⟩
 ·rintro t v ⟨C,G,O,R,d⟩
  have K:=d.g;have dm:=d.m;refine LJ (λj=>vp v j/\(arrOf j).toList=P++(C++G.reverse++R)) (λj h=>?_) (λJ=>oX (P:=P++C) (G:=G) (R:=R) (d.e.trans vN) (by rw[QK];lia) (by lia) λj ac e4=>⟨ac,e4.trans vN.symm⟩) λJ=>⟨vp.refl _,?_⟩
  ·exact RM (oX h.2 U (by rw[QK,Si];lia) λar ap e5=>zB I F D U N (by lia) (d.up (h.1.trans ap)<|by rw[e5,Vr,Vk]) (λ_ _=>rfl) λn M O R ab X W h _=>Q0<|q n ab M O R X W h)
  ·obtain⟨g,z,rfl⟩:=oN (show 1<=G.length by lia)
   rw[QK]at K;rw[Rm (show g.length=0 by have:g.length+1=t.2+1:=K;lia)]at d ⊢;exact d.e
def rZ:Nat->StateT SortSt Sem Bool:=sortPriv% PySem.Builtin.mergeAt
def dC.get{l:Xw Keyed}(h:dC κ l){i j:Nat}{x y:Keyed}(e:i<=j)(f:l[i]? =some x)(a:l[j]? =some y):κ.kle (key κ x) (key κ y):=by
 have:=dC.at (κ:=κ) (l:=l) (b:=0) (n:=l.length) (i:=i) (j:=j) (x:=x) (y:=y) (by rw[Uj,RX];exact h) e (gI0.mp a).1 (by rw[Td];exact f) (by rw[Td];exact a);exact this
def yR.ins{j:SortSt}{P S M O R:Xw Keyed}{k l:Nat}{zt g:SortSt}{y:Keyed}(h:yR κ j P S k M O (y::R) zt)(b:Below κ (M.take l) [y])(u:Under κ [y] (M.drop l))(q:vp zt g)(e:(arrOf g).toList=(P++M.take l)++(y::M.drop l++R)):yR κ j P S (k+1) (M.take l++(y::M.drop l)) (O++[y]) R g:=by
 have v:=h.m;have n:=RV l M;have f:=h.sm;rw[<-n]at f;refine⟨by rw[e,<-vN],by rw[h.s,QS];rfl,?_,by rw[QK,h.o];rfl,?_,?_,h.cg.trans q⟩
 ·grind
 ·refine f.left.append (VY.mpr ⟨λz r=>KeyOrd.kle_of_klt<|u y (RF _) z r,f.right⟩) λa p c i=>?_
  obtain rfl|i:=Rq.mp i
  ·exact b a p c<|RF _
  ·exact f.mid a p c i
 ·have t:cQ κ (M.take l++(y::M.drop l)) (M++[y]):=by
   have:cQ κ (M.take l++([y]++M.drop l)) (M.take l++(M.drop l++[y])):=(cQ.refl _).append<|cQ.swap u
   rwa [<-QS (M.take l) (M.drop l),n]at this
  exact t.trans<|h.tm.append<|cQ.refl _
def OZ{a b:Nat}(h:a<b):a<=(a+b) / 2/\(a+b) / 2<b:=by lia
def m6(Y:j5 prog w A E s κ kd){lo n ok:Nat}{C zt:SortSt}{Q:Bool->SortSt->Prop}{P S M O R:Xw Keyed}(X:kindOf C=kd)(L:∀x∈S,kr κ x)(Yt:lo=P.length)(hn:n<=S.length)(h1:1<=ok)(ab:ok<=n)(h:yR κ C P S ok M O R zt)
  (q:∀g M O R,yR κ C P S n M O R g->Q true g):wpS (model prog w) A E s (tX lo n ok) Q zt:=by
 refine eN (λk _ g=>∃M O R,yR κ C P S k M O R g) (λ_ g=>∃M O R,yR κ C P S n M O R g) (λ_ _=>False) ⟨M,O,R,by rw[show max ok 1=ok by lia];exact h⟩ ?_ (λ_ g h=>by rwa [show max (max ok 1) n=n by lia]at h) nofun (by
  rintro _ g ⟨M,O,R,h⟩;exact Q0<|q g M O R h)
 rintro _ k j W ⟨M,O,R,h⟩ Q q1 U F;cases R with
 |nil=>have e:=h.s;rw[Ry]at e;rw[e,h.o]at hn;lia
 |cons y R=>
 have hM:=h.m;refine eN (λx t g=>j=g/\t.1<=t.2/\t.2<=k/\x+t.2<=k+t.1/\(∀i u,i<t.1->M[i]? =some u->κ.kle (key κ u) (key κ y))/\(∀i u,t.2<=i->M[i]? =some u->κ.klt (key κ y) (key κ u)))
  (λt g=>j=g/\t.1<=k/\(∀i u,i<t.1->M[i]? =some u->κ.kle (key κ u) (key κ y))/\(∀i u,t.1<=i->M[i]? =some u->κ.klt (key κ y) (key κ u))) (λ_ _=>False) ⟨rfl,RQ _,QP _,SA<|Td _,λi u f=>by lia,λi u f D=>by have:=(gI0.mp D).1;lia⟩ ?_ ?_ nofun ?_
 ·rintro t x _ hx ⟨rfl,T,H,rl,B,v⟩ Q q1 U F
  refine cO (λI=>Q0<|U _ _ ⟨rfl,Rn T H,B,λi u f=>v i u<|Rn I f⟩) λI=>?_
  extract_lets -underBinder+onlyGivenNames m
  have N:t.1<=m/\m<t.2:=OZ<|U6 I
  clear_value m
  obtain⟨z,G⟩:∃z,M[m]? =some z:=⟨_,QJ<|by lia⟩;exact j7 Y (h.cg.kind.trans X) (x:=y) (y:=z) (by rw[h.e];exact uX<|by lia) (by rw[h.e,QW<|by lia,Rf<|by lia,<-G];congr 1;lia) (L y<|by rw[h.s];exact QV _ RD) (L z<|by rw[h.s];exact Rj _<|h.tm.mem.mp<|QN G) (cO (λp=>Q0<|F _ _ ⟨rfl,N.1,by lia,by lia,B,λi u f D=>Tz (show κ.klt _ _ from p)<|h.sm.get f G D⟩) λp=>Q0<|F _ _ ⟨rfl,N.2,H,by lia,λi u f D=>Ur (h.sm.get (VQ f) D G)<|show κ.kle _ _ from RH.mpr p,v⟩)
 ·rintro t _ ⟨rfl,T,H,rl,B,v⟩
  exact⟨rfl,by lia,B,λi u f=>v i u<|by lia⟩
 ·rintro⟨l,r⟩ _ ⟨rfl,lk,B,v⟩
  dsimp only at lk B v;have e1:(arrOf j).toList=(P++M.take l)++(M.drop l++y::R):=by rw[h.e,<-vN,RV]
  have tl:(M.take l).length=l:=by rw[RU];lia
  have dl:(M.drop l).length=k-l:=by rw[Sy];lia
  refine RM (E4 e1 (by grind) (by grind) λX1 J Z=>Q0<|F _ _ ⟨_,_,_,h.ins (l:=l) (λa K b p=>?_) (λb p a K=>?_) J Z⟩)
  ·cases QQ.mp p
   obtain⟨i,f⟩:=Rg K;have il:=(gI0.mp f).1;rw[Sv<|by lia]at f;exact B i a (by lia) f
  ·cases QQ.mp p
   obtain⟨i,f⟩:=Rg K;rw[TN]at f;exact v (l+i) a (by lia) f
def Bl{L P X Y:Xw Keyed}(e:L=P++(X++Y)){i m:Nat}(a:i=P.length)(hm:m<=X.length):(L.drop i).take m=X.take m:=by grind
def Ln{L P X Y:Xw Keyed}(e:L=P++(X++Y)){i k n:Nat}(a:i=P.length)(f:n=X.length)(g:k<=n):(L.drop<|i+k).take (n-k)=X.drop k:=by
 have:L=(P++X.take k)++(X.drop k++Y):=by rw[e,<-vN,RV]
 rw[Bl this (by grind)<|by grind];exact Se (by grind)
def BO{A1 A2 B1 B2 M:Xw Keyed}(g:dC κ (A1++A2))(j:dC κ (B1++B2))(m:Below κ A1 (B1++B2))(i:Below κ (A1++A2) B2)(n:dC κ M)(f:cQ κ M (A2++B1)):dC κ (A1++(M++B2))/\cQ κ (A1++(M++B2)) ((A1++A2)++(B1++B2)):=by
 have l:∀x∈M,x∈A2\/x∈B1:=λx e=>Ro.mp<|f.mem.mp e;refine⟨g.left.append (n.append j.right λx e y a=>?_) λx e y a=>?_,?_⟩
 ·exact(l x e).elim (λh=>i x (QV _ h) y a) λh=>j.mid x h y a
 ·obtain a|a:=Ro.mp a
  ·exact(l y a).elim (λh=>g.mid x e y h) λh=>m x e y<|Rj _ h
  ·exact i x (Rj _ e) y a
 ·have:cQ κ (A1++(M++B2)) (A1++((A2++B1)++B2)):=(cQ.refl _).append (f.append<|cQ.refl _)
  rw[QS A1 A2,<-QS A2 B1 B2];exact this
def Hn{l:Xw Keyed}(h:1<=l.length):∃x r,l=x::r:=by
 cases l with
 |nil=>cases h
 |cons x r=>grind
structure Mg(κ:KeyKind)(zt XE:SortSt)(P X Y R:Xw Keyed)(pend:Array (Nat×Nat×Nat)):Prop where
 kind:kindOf XE=kindOf zt
 failed:failedOf XE=failedOf zt
 pend:pendingOf XE=pend
 ex:∃M,(arrOf XE).toList=P++(M++R)/\dC κ M/\cQ κ M (X++Y)
def Hv{σ:Type}{M:Model}{A:Xv}{E:Xy}{s:Xq}{a zt:σ}{Q:PUnit->σ->Prop}(h:Q ⟨⟩ a):wpS M A E s (set a:StateT σ Sem PUnit) Q zt:=by
 unfold wpS;rw[StateT.run_set];exact QI ⟨rfl,h⟩
def Kq [Decidable c]{F:α->StateT SortSt Sem β}(R:α->SortSt->Prop)(h:∀r a,R r a->wpS (model prog w) A E s (F r) Q a)(e:wpS (model prog w) A E s m1 R zt)(f:wpS (model prog w) A E s m2 R zt):wpS (model prog w) A E s (if c then m1 >>= F else m2 >>= F) Q zt:=cO (λ_=>RM<|wpS_mono e h) λ_=>RM<|wpS_mono f h
def rq(N:j5 prog w A E s κ kd){zt:SortSt}{Q:Bool->SortSt->Prop}{P X Y R:Xw Keyed}{i l na pa n nb pb:Nat}(M:kindOf zt=kd)(hf:failedOf zt=none)(L:∀x∈(arrOf zt).toList,kr κ x)(p1:(pendingOf zt)[i]? =some (l,na,pa))(p2:(pendingOf zt)[i+1]? =some (n,nb,pb))
  (e:(arrOf zt).toList=P++(X++(Y++R)))(S:l=P.length)(W:na=X.length)(hb:n=l+na)(hy:nb=Y.length)(x1:1<=na)(y1:1<=nb)(B:dC κ X)(v:dC κ Y)
  (q:∀K,Mg κ zt K P X Y R (((pendingOf zt).setIfInBounds i (l,na+nb,pa)).eraseIdxIfInBounds<|i+1)->Q true K):wpS (model prog w) A E s (rZ i) Q zt:=by
 have sz:(arrOf zt).size=P.length+(X.length+(Y.length+R.length)):=by rw[<-QZ,e,QK,QK,QK]
 have G:(arrOf zt).toList=(P++X)++(Y++R):=by rw[e,QS]
 obtain⟨Z,Y',O⟩:=Hn (show 1<=Y.length by lia);obtain⟨c,z,F⟩:=oN (show 1<=X.length by lia);have cl:c.length+1=na:=by rw[W,F,QK];rfl
 have ey:(arrOf zt)[n]? =some Z:=by
  rw[<-Rc,G,O];exact oI (by grind)
 have ez:∀k,k<=na->0<na-k->(arrOf zt)[l+k+(na-k)-1]? =some z:=λk h1 h2=>by
  rw[<-Rc,e,F];exact oZ (by lia)
 have kX:=λu y=>L u (by rw[e];exact QV _<|Rj _ y);have kY:=λu y=>L u (by rw[e];exact QV _<|QV _<|Rj _ y);have I:Below κ [Z] Y:=by rw[O]at v ⊢;exact v.head
 have g:Below κ X [z]:=by rw[F]at B ⊢;exact B.Jl<|T8 _
 refine RM<|Vz ?_;rw[p1,p2];refine RM (Hv<|cT ey<|o9 N M (kY Z<|by rw[O];exact RD) L (show l+na<=(arrOf zt).size by lia) (by rw[Bl e S<|by lia];exact B.take _) (by lia) λk o bl un=>?_);rw[Bl e S<|by lia]at bl;rw[Ln e S W o]at un;refine dJ (λc1=>?_) λc1=>?_
 ·rw[Se<|by lia]at bl
  exact Q0 (q _ ⟨rfl,rfl,rfl,X++Y,by rw[QS];exact e,B.append v<|Below.over bl I,cQ.refl _⟩)
 refine cT (ez k o<|by lia) (qj N M (kX z<|by rw[F];exact QV _<|RF _) L (show n+nb<=(arrOf zt).size by lia) (by rw[Bl G (by rw[QK];lia)<|by lia];exact v.take _) (by lia) λm hm ul j=>?_);rw[Bl G (by rw[QK];lia)<|by lia]at ul;rw[Ln G (by rw[QK];lia) hy hm]at j;refine dJ (λc2=>?_) λc2=>?_
 ·rw[c2,Uj]at j
  exact Q0 (q _ ⟨rfl,rfl,rfl,X++Y,by rw[QS];exact e,B.append v<|Below.over g j,cQ.refl _⟩)
 have f:((arrOf zt).extract (l+k) n).toList=X.drop k:=by
  rw[Ux];have:=Ln e S W o
  rwa [show na-k=n-(l+k) by lia]at this
 have a:((arrOf zt).extract n<|n+m).toList=Y.take m:=by
  rw[pL];exact Bl G (by grind) (by lia)
 extract_lets -underBinder+onlyGivenNames ax ay
 have f:ax.toList=_:=f;have a:ay.toList=_:=a
 clear_value ax ay
 have T:ax.size=na-k:=by rw[<-QZ,f,Sy];lia
 have ab:ay.size=m:=by rw[<-QZ,a,RU];lia
 have ka:=λu y=>kX u (Uy<|by rw[<-f];exact y);have kb:=λu y=>kY u (SR<|by rw[<-a];exact y);have J:dC κ ax.toList:=by rw[f];exact B.drop k
 have H:dC κ ay.toList:=by rw[a];exact v.take m
 have u1:Under κ (ay.toList.take 1) ax.toList:=by
  rw[a,f,List.take_take,O,UI<|by lia];exact un
 have u2:Under κ ay.toList (ax.toList.drop<|ax.size-1):=by
  rw[a,f,T,drop_drop,F,List.drop_left'<|by lia];exact ul
 have xp:1<=ax.size:=by lia
 have yp:1<=ay.size:=by lia
 refine Kq (λr h=>Kept _ h/\jH κ ax ay r) ?_ (wV N M ka kb J H xp yp u1 u2 λr K=>.intro) (vZ N M ka kb J H xp yp u1 u2 λr K=>.intro);rintro r h ⟨C,U⟩;have rl:r.toList.length=(X.drop k++Y.take m).length:=by rw[<-f,<-a];exact U.2.perm.length_eq
 refine RM<|Vn<|RM<|Vz<|Q0 ?_;show Q (failedOf h).isNone _;rw[C.failed.trans hf];have D:=U.2;rw[f,a]at D;have p:=BO (A1:=X.take k) (A2:=X.drop k) (B1:=Y.take m) (B2:=Y.drop m) (by rw[RV];exact B) (by rw[RV];exact v) (by rw[RV];exact Below.over bl I) (by rw[RV];exact Below.over g j) U.1 D;rw[RV,RV]at p;refine q _ ⟨C.kind,C.failed,C.pend,_,?_,p.1,p.2⟩;refine(pT r.toList 0 (l+k) (arrOf h) (P++X.take k) (X.drop k++Y.take m) (Y.drop m++R) ?_ rl ?_).trans ?_
 ·rw[C.arr,<-vN,<-QS (X.take k),RV,QS X,<-QS (Y.take m),RV]
  exact e
 ·rw[QK,RU]
  lia
 ·rw[QS P,QS<|X.take k,QS r.toList]
def yD:StateT SortSt Sem Unit:=sortPriv% PySem.Builtin.sortRuns
def iu(κ:KeyKind):Nat->Xw (Nat×Nat×Nat)->Xw (Xw Keyed)->Prop
 |_,[],[]=>True
 |off,p::ps,r::rs=>p.1=off/\p.2.1=r.length/\1<=p.2.1/\dC κ r/\iu κ (off+p.2.1) ps rs
 |_,_,_=>False
theorem iu.merge:∀(i off:Nat) (ps:Xw (Nat×Nat×Nat)) (rs:Xw (Xw Keyed)),iu κ off ps rs->i+1<ps.length->
  ∃e X Y h g a j m f n,ps[i]? =some (g,a,j)/\ps[i+1]? =some (m,f,n)/\rs=e++(X::Y::h)/\g=off+e.flatten.length/\a=X.length/\m=g+a/\f=Y.length/\1<=a/\1<=f/\dC κ X/\dC κ Y/\
   ∀M,dC κ M->M.length=a+f->iu κ off ((ps.set i (g,a+f,j)).eraseIdx<|i+1) (e++(M::h))
 |0,off,[],_,_,l=>by cases l
 |0,off,[p],_,_,l=>by have:1<1:=l;lia
 |0,off,(g,a,j)::(m,f,n)::ps,[],t,_=>t.elim
 |0,off,(g,a,j)::(m,f,n)::ps,[X],t,_=>t.2.2.2.2.elim
 |0,off,(g,a,j)::(m,f,n)::ps,X::Y::rs,⟨h1,h2,h3,h4,h5,h6,h7,h8,h9⟩,_=>by
  subst h1;refine⟨[],X,Y,rs,g,a,j,m,f,n,rfl,rfl,rfl,rfl,h2,h5,h6,h3,h7,h4,h8,λM o s=>⟨rfl,s.symm,?_,o,?_⟩⟩
  ·grind
  ·grind
 |i+1,off,[],_,_,l=>by cases l
 |i+1,off,p::ps,[],t,_=>t.elim
 |i+1,off,p::ps,r::rs,⟨h1,h2,h3,h4,h5⟩,l=>by
  obtain⟨e,X,Y,h,g,a,j,m,f,n,C,z,E,F,D,x,A,B,y,w,q,v⟩:=iu.merge i _ ps rs h5<|WQ l;refine⟨r::e,X,Y,h,g,a,j,m,f,n,C,z,by rw[E];rfl,?_,D,x,A,B,y,w,q,λM o s=>⟨h1,h2,h3,h4,v M o s⟩⟩;rw[SK,QK,<-h2];lia
theorem iu.push:∀{off:Nat}{ps:Xw (Nat×Nat×Nat)}{rs:Xw (Xw Keyed)}{M:Xw Keyed}{pw:Nat},iu κ off ps rs->dC κ M->1<=M.length->iu κ off (ps++[(off+rs.flatten.length,M.length,pw)]) (rs++[M])
 |off,[],[],M,pw,_,sm,ml=>⟨by rw[List.flatten_nil];rfl,rfl,ml,sm,trivial⟩
 |off,[],_::_,M,pw,t,_,_=>t.elim
 |off,_::_,[],M,pw,t,_,_=>t.elim
 |off,p::ps,r::rs,M,pw,⟨h1,h2,h3,h4,h5⟩,sm,ml=>by
  refine⟨h1,h2,h3,h4,?_⟩;have:=iu.push (pw:=pw) h5 sm ml;rw[SK,QK,<-h2,<-Nat.add_assoc];exact this
theorem iu.power:∀(i:Nat){off:Nat}{ps:Xw (Nat×Nat×Nat)}{rs:Xw (Xw Keyed)}{pw:Nat},iu κ off ps rs->iu κ off (ps.modify i λp=>(p.1,p.2.1,pw)) rs
 |0,off,[],[],pw,_=>trivial
 |0,off,[],_::_,pw,t=>t.elim
 |0,off,_::_,[],pw,t=>t.elim
 |0,off,p::ps,r::rs,pw,t=>t
 |i+1,off,[],[],pw,_=>trivial
 |i+1,off,[],_::_,pw,t=>t.elim
 |i+1,off,_::_,[],pw,t=>t.elim
 |i+1,off,p::ps,r::rs,pw,⟨h1,h2,h3,h4,h5⟩=>⟨h1,h2,h3,h4,iu.power i h5⟩
theorem iu.len:∀{off:Nat}{ps:Xw (Nat×Nat×Nat)}{rs:Xw (Xw Keyed)},iu κ off ps rs->ps.length<=rs.flatten.length
 |off,[],[],_=>RQ _
 |off,[],_::_,t=>t.elim
 |off,_::_,[],t=>t.elim
 |off,p::ps,r::rs,⟨h1,h2,h3,h4,h5⟩=>by
  have:=iu.len h5;rw[SK,QK,<-h2];show ps.length+1<=_;lia
def iu.one{ps:Xw (Nat×Nat×Nat)}{a:Xw (Xw Keyed)}{off:Nat}(t:iu κ off ps a)(h:ps.length<=1):dC κ a.flatten:=by
 cases ps with
 |nil=>
  cases a with
  |nil=>exact List.Pairwise.nil
  |cons r a=>exact t.elim
 |cons p ps=>
  cases ps with
  |cons f ps=>grind
  |nil=>
   cases a with
   |nil=>exact t.elim
   |cons r a=>
    cases a with
    |nil=>rw[SK,List.flatten_nil,Ry];exact t.2.2.2.1
    |cons e a=>exact t.2.2.2.2.elim
def J8{c:Prop} [Decidable c]{n:Nat}(h:1<n):(if c then n-2-1 else n-2)+1<n:=by grind
structure RI(κ:KeyKind)(kd:SortKind)(a₀:Xw Keyed)(lo:Nat)(S:Xw Keyed)(zt:SortSt):Prop where
 kind:kindOf zt=kd
 failed:failedOf zt=none
 stb:cQ κ (arrOf zt).toList a₀
 ex:∃Rs,iu κ 0 (pendingOf zt).toList Rs/\(arrOf zt).toList=Rs.flatten++S/\Rs.flatten.length=lo
def RI.keys{a S:Xw Keyed}{lo:Nat}{zt:SortSt}(h:RI κ kd a lo S zt)(e:∀x∈a,kr κ x):∀x∈(arrOf zt).toList,kr κ x:=λx f=>e x<|h.stb.mem.mp f
def kJ(P:j5 prog w A E s κ kd){a S:Xw Keyed}{lo i:Nat}{zt:SortSt}{Q:Bool->SortSt->Prop}(K:∀x∈a,kr κ x)(h:RI κ kd a lo S zt)(G:i+1<(pendingOf zt).size)
  (q:∀f,RI κ kd a lo S f->(pendingOf f).size+1=(pendingOf zt).size->Q true f):wpS (model prog w) A E s (rZ i) Q zt:=by
 obtain⟨Rs,t,e,l⟩:=h.ex;obtain⟨g,X,Y,j,U,z,W,sb,r,Z,T,L,rfl,B,H,I,y,R,J,p,n,o⟩:=t.merge i 0 _ _ (by rw[QZ];exact G);rw[Td]at B;have v:(arrOf zt).toList=g.flatten++(X++(Y++(j.flatten++S))):=by
  rw[e,VJ,SK,SK,QS,QS,QS]
 refine rq P h.kind h.failed (h.keys K) (by rw[<-Rc];exact T) (by rw[<-Rc];exact L) v B H I y R J p n λf m=>?_;obtain⟨M,D,O,F⟩:=m.ex;have N:M.length=z+r:=by rw[F.perm.length_eq,QK,H,y]
 have C:(pendingOf f).toList=((pendingOf zt).toList.set i (U,z+r,W)).eraseIdx (i+1):=by
  rw[m.pend,Array.toList_eraseIdxIfInBounds,Wg]
 refine q f ⟨m.kind.trans h.kind,m.failed.trans h.failed,cQ.trans ?_ h.stb,g++(M::j),by rw[C];exact o M O N,?_,?_⟩ ?_
 ·rw[D,v,<-QS X]
  exact(cQ.refl _).append (F.append<|cQ.refl _)
 ·rw[D,VJ,SK,QS,QS]
 ·rw[<-l,VJ,VJ,SK,SK,SK,QK,QK,QK,QK,QK]
  lia
 ·rw[<-QZ,C,List.length_eraseIdx,QR<|by rw[List.length_set,QZ];exact G,List.length_set,QZ]
  lia
def RI.push{a M R:Xw Keyed}{lo n:Nat}{zt g:SortSt}(h:RI κ kd a lo (M++R) zt)(m:dC κ M)(i:M.length=n)(p:1<=n)(k:kindOf g=kindOf zt)(f:failedOf g=failedOf zt)(j:arrOf g=arrOf zt)(o:pendingOf g=(pendingOf zt).push (lo,n,0)):RI κ kd a (lo+n) R g:=by
 obtain⟨Rs,t,e,l⟩:=h.ex;refine⟨k.trans h.kind,f.trans h.failed,by rw[j];exact h.stb,Rs++[M],?_,?_,?_⟩
 ·rw[o,VR]
  have:=t.push (pw:=0) m (by lia)
  rwa [Td,l,i]at this
 ·grind
 ·grind
def RI.power{a S:Xw Keyed}{lo i pw:Nat}{zt g:SortSt}(h:RI κ kd a lo S zt)(k:kindOf g=kindOf zt)(f:failedOf g=failedOf zt)(j:arrOf g=arrOf zt)(m:pendingOf g=(pendingOf zt).modify i λp=>(p.1,p.2.1,pw)):RI κ kd a lo S g:=by
 obtain⟨Rs,t,e,l⟩:=h.ex;exact⟨k.trans h.kind,f.trans h.failed,by rw[j];exact h.stb,Rs,by rw[m,Array.toList_modify];exact t.power i,by rw[j];exact e,l⟩
def RI.Ii{a M R:Xw Keyed}{lo n i pw:Nat}{zt e:SortSt}(h:RI κ kd a lo (M++R) zt)(m:dC κ M)(g:M.length=n)(l:1<=n)(k:kindOf e=kindOf zt)(f:failedOf e=failedOf zt)(j:arrOf e=arrOf zt)(o:pendingOf e=((pendingOf zt).modify i λp=>(p.1,p.2.1,pw)).push (lo,n,0)):RI κ kd a (lo+n) R e:=
 RI.push (zt:=setPending zt<|(pendingOf zt).modify i λp=>(p.1,p.2.1,pw)) (h.power rfl rfl rfl rfl) m g l k f j o
def RI.asc{a S M O R:Xw Keyed}{lo n:Nat}{zt f:SortSt}{Rs:Xw (Xw Keyed)}(h:RI κ kd a lo S zt)(t:iu κ 0 (pendingOf zt).toList Rs)(e:(arrOf zt).toList=Rs.flatten++S)(l:Rs.flatten.length=lo)(as:yR κ zt Rs.flatten S n M O R f):RI κ kd a lo (M++R) f:=by
 refine⟨as.cg.kind.trans h.kind,as.cg.failed.trans h.failed,cQ.trans ?_ h.stb,Rs,by rw[as.cg.pend];exact t,as.e,l⟩;rw[as.e,e,as.s];exact(cQ.refl _).append (as.tm.append<|cQ.refl _)
def jV(J:j5 prog w A E s κ kd){zt:SortSt}{Q:Unit->SortSt->Prop}(hk:kindOf zt=kd)(hf:failedOf zt=none)(hp:pendingOf zt= #[])(I:∀x∈(arrOf zt).toList,kr κ x)
  (q:∀f,failedOf f=none->dC κ (arrOf f).toList->cQ κ (arrOf f).toList (arrOf zt).toList->Q () f):wpS (model prog w) A E s yD Q zt:=by
 obtain⟨a,j⟩:∃a,a=(arrOf zt).toList:=⟨_,rfl⟩;rw[<-j]at I q;have r:∀{g S f},RI κ kd a g S f->g+S.length=(arrOf zt).size:=λ{g S f} h=>by
  obtain⟨Rs,t,e,l⟩:=h.ex;rw[<-QZ,<-j,<-h.stb.perm.length_eq,e,QK,l]
 refine RM (Vz<|eN (λx g f=>x<=g/\∃S,RI κ kd a g S f) (λg f=>RI κ kd a g [] f) (λ_ _=>False) ⟨QP 0,_,hk,hf,by rw[j];exact cQ.refl _,[],by rw[hp];trivial,rfl,rfl⟩ ?_ ?_ nofun ?_)
 ·rintro g x F hx ⟨D,S,i⟩ Q q1 C B
  have Y:=r i;refine cO (λW=>?_) λW=>?_
  ·have P:S=[]:=Rm (by grind)
   subst P;exact Q0<|C _ _ i
  obtain⟨Rs,t,e,l⟩:=i.ex;have kS:∀u∈S,kr κ u:=λu hu=>i.keys I u (by grind);refine RM (p9 J i.kind kS e l.symm (by grind) (UT<|U6 W) λn X1 M O R z nn y=>?_);dsimp -zeta only
  extract_lets -underBinder+onlyGivenNames m jp
  suffices hj:∀n p M R,1<=n->RI κ kd a g (M++R) p->dC κ M->M.length=n->wpS (model prog w) A E s (jp () n) Q p by
   refine cO (λX=>mO ?_) λX=>hj _ _ _ _ z (i.asc t e l y) y.sm y.m;have H:n<=min ((arrOf zt).size-g) _:=Nat.le_min.mpr ⟨nn,Us X⟩;exact RM (m6 J i.kind kS l.symm (Rn (V7 _ _)<|by grind) z H y λp M O R y=>cO nofun λ_=>hj _ _ _ _ (Rn z H) (i.asc t e l y) y.sm y.m)
  refine λn p M R z G U T=>RM<|Vz ?_;cases (pendingOf p).back? with
  |none=>exact RM<|Vn<|Q0<|B _ _ ⟨Nat.add_le_add D z,R,G.push U T z rfl rfl rfl rfl⟩
  |some bk=>
  refine eN (λ_ _ f=>RI κ kd a g (M++R) f) (λ_ f=>RI κ kd a g (M++R) f) (λ_ _=>False) G (λ_ _ o _ v Q q1 C B=>RM<|Vz ?_) (λ_ _ h=>h) nofun λ_ o v=>RM<|Vn<|RM<|Vn<|Q0<|B _ _ ⟨Nat.add_le_add D z,R,v.Ii U T z rfl rfl rfl rfl⟩;dsimp only;by_cases Z:(pendingOf o).size > 1
  ·rw[QR Z,getElem?_pos (pendingOf o) ((pendingOf o).size-2)<|by lia]
   exact cO (λ_=>Q0<|C _ _ v) λ_=>RM (kJ J I v (show(pendingOf o).size-2+1<(pendingOf o).size by lia) λab K _=>Q0<|B _ _ K)
  ·rw[QO Z]
   exact Q0<|C _ _ v
 ·rintro g f ⟨hx,S,i⟩
  have:=r i;have P:S=[]:=Rm (by lia);subst P;exact i
 ·intro g F i
  have Y:g=(arrOf zt).size:=r i;have pl:(pendingOf F).size<=(arrOf zt).size:=by
   obtain⟨Rs,t,e,l⟩:=i.ex;rw[<-Y,<-l,<-QZ];exact t.len
  refine eN (λx _ f=>RI κ kd a g [] f/\(pendingOf f).size+x<=(arrOf zt).size) (λ_ f=>RI κ kd a g [] f/\(pendingOf f).size<=1) (λ_ _=>False) ⟨i,pl⟩ (λ_ x X1 hx h Q q1 C B=>RM<|Vz<|cO (λL=>Q0<|C _ _ ⟨h.1,L⟩) λL=>RM<|kJ J I h.1 (J8<|U6 L) λac N h3=>Q0<|B _ _ ⟨N,by have:=h.2;lia⟩) (λ_ f h=>⟨h.1,by have:=h.2;lia⟩) nofun λ_ f h=>?_;obtain⟨Rs,t,e,l⟩:=h.1.ex;rw[Ry]at e;exact Q0 (q f h.1.failed (by rw[e];exact t.one<|by rw[QZ];exact h.2) h.1.stb)
def intKind:KeyKind where
 α:=Int
 blt a b:=decide<|a<b
 irrefl a:=by simp
 trans a b c h1 h2:=by
  rw[Rz]at *;lia
 negTrans a b c h:=by
  rw[Rz]at *;rw[Rz];lia
 total a b h1 h2:=by
  rw[Wy]at *;lia
 keyOf v:=match v with
  |.int n _=>some n
  |_=>none
 dflt:=0
def vK:j5 prog w A E s intKind oneType':=by
 rintro⟨x,p⟩ ⟨y,q⟩ zt Q hk ⟨a,ha⟩ ⟨b,hb⟩ h;cases x<;>cases ha;cases y<;>cases hb;rw[lt'_eq];refine RM<|Vz ?_;rw[hk,keyLt'_oneType];exact RM<|wpS_lift<|TQ<|oneLt_int ⟨rfl,Q0 h⟩
theorem wpAny_forIn_list{M:Model}{α β:Type}{f:α->β->Sem (ForInStep β)}(I:Xw α->β->Xq->Prop){Q:β->Xq->Prop}(j:∀x r b s,I (x::r) b s->wpAny M A (f x b) (λz s'=>∃a,z=.yield a/\I r a s') E s)(i:∀b s,I [] b s->Q b s):∀(l:Xw α) (b:β) (s:Xq),I l b s->wpAny M A (forIn l b f) Q E s
 |[],b,s,h=>by
  rw[List.forIn_nil];exact QI<|i b s h
 |x::r,b,s,h=>by
  rw[forIn_cons];refine QH<|RW (j x r b s h) (λz s' g=>?_) λ_ _ e=>e;obtain⟨a,rfl,g⟩:=g;exact wpAny_forIn_list I j i r a s' g
inductive KeysAre(R:Xo->Int->Prop):Xw Xo->Xw Xo->Prop
 |nil:KeysAre R [] []
 |snoc {vs a:Xw Xo}{v:Xo}{i:Int}{t:Tok}(h:KeysAre R vs a)(r:R v i):KeysAre R (vs++[v]) (a++[.int i t])
def KeysAre.ints{R:Xo->Int->Prop}{vs a:Xw Xo}(h:KeysAre R vs a):∀k∈a,∃n t,k=.int n t:=by
 induction h with
 |nil=>grind
 |snoc h r e=>grind
def KeysAre.len(h:KeysAre R vs ks):ks.length=vs.length:=by
 induction h with
 |nil=>rfl
 |snoc h r a=>grind
def rR:Array Xo->Sem SortKind:=sortPriv% PySem.Builtin.keyKind
def Ee{vs:Xw Xo}(h:¬vs.length<2):∃a e rest,vs=a::e::rest:=by
 match vs,h with
 |[],h=>exact absurd (show 0<2 by decide) h
 |[_],h=>exact absurd (show 1<2 by decide) h
 |a::e::rest,_=>exact⟨a,e,rest,rfl⟩
def rN{l:Xw α}(h:l.length<2):l.Pairwise R:=by
 cases l with
 |nil=>exact .nil
 |cons a r=>
  cases r with
  |nil=>grind
  |cons b t=>grind
def qQ {G:Xq->Prop}{vs:Xw Xo}{n:Nat}{P:Fin->Xq->Prop}(O:s.heap.get? a=some (seqObj "list" vs.toArray n)) (vl:vs.length<=sizeLine)
  (g0:G { s with heap:=((s.heap.update a<|Obj.mapSeq λ_=> #[]).push<|seqObj "tuple" vs.toArray 0).push (seqObj "list" #[] 0) })
  (gu:∀s' g,G s'->G { s' with heap:=s'.heap.update (s.heap.objs.size+1) (Obj.mapSeq g) })
  (gc:∀x∈vs,∀s',G s'->wpAny (model prog w) A (call (.ref f) [x]) (λk F=>(∃i t,k=.int i t/\R x i)/\G F/\(∀b o,(b=a\/b=s.heap.objs.size+1)->s'.heap.get? b=some o->F.heap.get? b=some o)) (λ_ _=>False) s')
  (fin:∀s' (j:Xw Xo) (arr:Array Keyed),G s'->(∃e,s'.heap.get? a=some (seqObj "list" #[] e))->KeysAre R vs j->dC intKind arr.toList->cQ intKind arr.toList (j.zip vs)->P (.done<|.ret .none) { s' with heap:=(s'.heap.update (s.heap.objs.size+1)<|Obj.mapSeq λ_=> #[]).update a (Obj.mapSeq λ_=>arr.map (·.2)) }):
  wpAny (model prog w) A (Builtin.«list.sort» ⟨[.ref a],[(Str.ofString "key",.ref f)]⟩) P E s:=by
 unfold Builtin.«list.sort»;dsimp only[length_cons,length_nil];have l1:List.lookup (Str.ofString "key") [(Str.ofString "key",Value.ref f)]=some (.ref f):=by grind
 have l2:List.lookup (Str.ofString "reverse") [(Str.ofString "key",Value.ref f)]=none:=by
  rw[VG,show(Str.ofString "reverse" == Str.ofString "key")=false by decide+kernel];rfl
 have l3:(Value.ref f != Value.none)=true:=rfl;have l4:(Str.ofString "key" != Str.ofString "key")=false:=by decide+kernel
 rw[QO<|by decide,QO<|by decide,l1,l2];simp only[l3,if_true,forIn_cons,List.forIn_nil,l4,Bool.false_and,false_eq_true,if_false];have ha:=Ri O;refine QH<|QH<|QI<|QI ?_;refine QH<|QI ?_;refine QH<|listItems_at O rfl ?_;refine QH<|Ud O rfl ?_;obtain⟨v,K⟩:∃v,(s.heap.update a<|Obj.mapSeq λ_=> #[]).get? a=some (seqObj "list" #[] v):=⟨_,V8 O λ_=> #[]⟩;refine QH<|Wl K rfl ?_;refine QH<|VT ?_;refine QH<|V4 ?_;refine Rv ?_;have hN:(s.heap.update a<|Obj.mapSeq λ_=> #[]).objs.size=s.heap.objs.size:=size_update _ _ _;have z:((s.heap.update a<|Obj.mapSeq λ_=> #[]).push<|seqObj "tuple" vs.toArray 0).objs.size=s.heap.objs.size+1:=by rw[W2,hN]
 have C:(((s.heap.update a<|Obj.mapSeq λ_=> #[]).push<|seqObj "tuple" vs.toArray 0).push<|seqObj "list" #[] 0).get? a=some (seqObj "list" #[] v):=by
  rw[TY _ _ _<|by rw[z];exact Rb<|SX ha,TY _ _ _<|by rw[hN];exact Rb ha];exact K
 have L:(((s.heap.update a<|Obj.mapSeq λ_=> #[]).push<|seqObj "tuple" vs.toArray 0).push<|seqObj "list" #[] 0).get? (s.heap.objs.size+1)=some (seqObj "list" #[] 0):=by
  rw[<-z];exact QX _ rfl
 simp only[z];generalize am:((s.heap.update a<|Obj.mapSeq λ_=> #[]).push<|seqObj "tuple" vs.toArray 0).push (seqObj "list" #[] 0)=q at g0 C L;have U:s.heap.objs.size+1≠a:=UH<|SX ha;have XO:vs.toArray.size=vs.length:=Rw;refine QH<|Sm ?_;rw[List.forIn_toArray];refine QH (RW (wpAny_forIn_list (I:=λrest _ s'=>∃J j B,vs=J++rest/\KeysAre R J j/\G s'/\s'.heap.get? a=some (seqObj "list" #[] v)/\s'.heap.get? (s.heap.objs.size+1)=some (seqObj "list" j.toArray B))
  (Q:=λ_ s'=>∃j B,KeysAre R vs j/\G s'/\s'.heap.get? a=some (seqObj "list" #[] v)/\s'.heap.get? (s.heap.objs.size+1)=some (seqObj "list" j.toArray B)) ?step ?fin' vs _ _ ⟨[],[],0,rfl,.nil,g0,C,L⟩) ?post λ_ _ e=>e)
 case fin'=>
  rintro b s' ⟨J,j,B,e,k,g,q,y⟩;rw[Ry]at e;subst e;exact⟨j,B,k,g,q,y⟩
 case step=>
  rintro x r b s' ⟨J,j,B,e,k,g,q,y⟩;have mx:x∈vs:=by rw[e];exact QV _ RD
  have kl:j.length+1<=vs.length:=by rw[k.len,e,QK];show _<=_+(_+1);lia
  refine QH<|TQ<|RW (gc x mx s' g) (λkv Y h=>?_) λ_ _ h=>False.elim h;obtain⟨⟨i,t,rfl,ri⟩,g2,kp⟩:=h;have D:=kp _ _ (.inr rfl) y;refine QH (Ud D rfl ?_ (by grind) (by grind));have M:=V8 D λx=>x.push<|.int i t;simp only[List.push_toArray]at M;refine QI ⟨_,rfl,J++[x],j++[.int i t],_,by rw[e,QS];rfl,k.snoc ri,gu _ _ g2,?_,M⟩;exact(Tg _ _ _ _ U.symm).trans (kp _ _ (.inl rfl) q)
 case post=>
  rintro _ s' ⟨j,B,k,g,q,y⟩;have kl:=k.len;refine QH<|listItems_at y rfl ?_;simp only[false_eq_true,if_false];have k2:j.toArray.size=j.length:=Rw;have al:∀{l:SortSt},cQ intKind (arrOf l).toList (j.zip vs)->(arrOf l).size=vs.length:=λ{l} h=>by
   rw[<-QZ,h.perm.length_eq,W3,kl,min_self]
  by_cases H:vs.toArray.size<2
  ·rw[QR H]
   refine QH<|QI ?_;rw[QR H,StateT.run_pure];refine QH<|QI ?_;have N:(j.toArray.zip vs.toArray).toList=j.zip vs:=by rw[toList_zip]
   have T:=fin s' j (j.toArray.zip vs.toArray) g ⟨v,q⟩ k (by
    rw[N];have ab:(j.zip vs).length<2:=by rw[W3,kl,min_self,<-XO];exact H
    exact rN ab) (by rw[N];exact cQ.refl _)
   refine QH (Ud y rfl ?_ (by rw[Rw];lia) (by show 0<=_;lia));refine QH<|Ww ?_;have m:(s'.heap.update (s.heap.objs.size+1)<|Obj.mapSeq λ_=> #[]).get? a=some (seqObj "list" #[] v):=(Tg _ _ _ _ U.symm).trans q;refine QH<|Wl m rfl ?_;refine QH (Ud m rfl ?_ (by show 0<=_;lia) (by rw[Array.size_map,Array.size_zip,Rw,Rw];lia));simp only[bne_self_eq_false,false_eq_true,if_false];exact QI T
  ·rw[QO H]
   have S:rR j.toArray=pure oneType':=by
    obtain⟨ac,ad,rest,e⟩:=Ee (vs:=j) (by lia);have:=intsAre_map j k.ints;rw[e]at this ⊢;exact keyKind_ints this
   refine QH<|Vc S ?_;rw[QO H];have N:(j.toArray.zip vs.toArray).toList=j.zip vs:=by rw[toList_zip]
   refine QH (RW (jV (κ:=intKind) vK (zt:=SortSt.mk' oneType' (j.toArray.zip vs.toArray) #[] 7 none)
    (Q:=λ_ l=>failedOf l=none/\dC intKind (arrOf l).toList/\cQ intKind (arrOf l).toList (j.zip vs)) rfl rfl rfl (λp hp=>?_) λl X f2 f3=>⟨X,f2,by rw[<-N];exact f3⟩) ?_ λ_ _ e=>e)
   ·have W:p∈j.zip vs:=by rw[<-N];exact hp
    obtain⟨n',t',e'⟩:=k.ints p.1 (WX<|show(p.1,p.2)∈j.zip vs from W).1;exact⟨n',by rw[e'];rfl⟩
   ·rintro⟨⟨⟩,l⟩ Y ⟨rfl,X,f2,f3⟩
    have T:=fin Y j (arrOf l) g ⟨v,q⟩ k f2 f3;refine QH (Ud y rfl ?_ (by lia) (by show 0<=_;lia));refine QH<|Ww ?_;have m:(Y.heap.update (s.heap.objs.size+1)<|Obj.mapSeq λ_=> #[]).get? a=some (seqObj "list" #[] v):=(Tg _ _ _ _ U.symm).trans q;refine QH<|Wl m rfl ?_;refine QH (Ud m rfl ?_ (by show 0<=_;lia) (by grind));have Z:(sortPriv% PySem.Builtin.SortState.failed) l=none:=X;rw[Z];simp only[bne_self_eq_false,false_eq_true,if_false];exact QI T
end TS
namespace L2
def Un.over{fs ex:Xw Xp}{H H1:Hp}{h i g:Heap}(u:Un fs ex H H1 h i)(k:∀b,b<h.objs.size->g.get? b=i.get? b):Un fs ex H H1 h g where
 keep:=λb o q n f a=>(k b<|Ri q).trans<|u.keep b o q n f a
 slot:=λb o q n f a=>by
  obtain⟨sl,e⟩:=u.slot b o q n f a;exact⟨sl,(k b<|Ri q).trans e⟩
 free:=u.free
 there:=λb o q a=>by
  obtain⟨j,e⟩:=u.there b o q a;exact⟨j,(k b<|Ri q).trans e⟩
 tups:=u.tups
 frzs:=u.frzs
 tbls:=u.tbls
def Un.D7{fs ex:Xw Xp}{H:Hp}{h f:Heap}{a:Xp}{o:HO}(u:Un fs ex H H h f)(g:h.objs.size<=a)(e:H a=none):Un fs ex H (upd H a o) h f where
 keep:=u.keep
 slot:=u.slot
 free:=λb ob q n l=>by rw[cG<|Rb<|Rp (Ri q) g];exact n
 there:=u.there
 tups:=λb i q=>by rw[cG<|cF q e];exact q
 frzs:=λb ob i q=>by rw[cG<|cF q e];exact q
 tbls:=λb j q=>⟨#[],by rw[cG<|cF q e,q];simp⟩
def gJ.over{P:Xr}{w:Xs}{H:Hp}{h0 h h':Heap}(x0:gJ P w H h0)(x:gJ P w H h)(k:∀b,b<h0.objs.size->h'.get? b=h.get? b):gJ P w H h':=λa o e=>
 (x a o e).gH (λb u f q=>(k b<|f.elim (λz=>z ▸ x0.lt e) λz=>x0.lt z).trans q) (λ_ q=>q) λ_ _ q=>q
def gJ.D7{P:Xr}{w:Xs}{H:Hp}{h:Heap}{a:Xp}{o:HO}(x:gJ P w H h)(g:H a=none)(new:cV P w (upd H a o) h a o):gJ P w (upd H a o) h:=λb u e=>by
 by_cases f:b=a
 ·subst f
  rw[cE]at e;grind
 ·rw[cG f]at e
  exact(x b u e).gH (λc v _ q=>q) (λc q=>by rw[cG<|cF q g];exact q) λc i q=>by rw[cG<|cF q g];exact q
def oG(a v:Xo):argsOk "sorted" ⟨[a],[(Str.ofString "key",v)]⟩:=by unfold argsOk;kernel_rfl
def p6(a v:Xo):argsOk "list.sort" ⟨[a],[(Str.ofString "key",v)]⟩:=by unfold argsOk;kernel_rfl
def d7:Xo->Xp
 |.ref a=>a
 |_=>0
def EN(g:Xp->Int)(v:Xo)(i:Int):Prop:=∃a,v=.ref a/\g a=i
def BC{g:Xp->Int}{vs i:Xw Xo}(h:TS.KeysAre (EN g) vs i):∀p∈i.zip vs,TS.key TS.intKind p=g (d7 p.2)/\p.2=.ref (d7 p.2):=by
 induction h with
 |nil=>simp_all
 |snoc h r j=>
  intro p f;rw[List.zip_append h.len]at f;obtain f|f:=Ro.mp f
  ·exact j p f
  ·cases QQ.mp f
   obtain⟨a,rfl,e⟩:=r;exact⟨e.symm,rfl⟩
theorem zO:∀{as:Xw Xp}{e:Xw Xo},Vals (as.map V.ref) e->e=as.map Value.ref
 |[],[],_=>rfl
 |[],_::_,h=>by cases h
 |_::_,[],h=>by cases h
 |a::as,v::e,h=>by
  cases h with
  |cons r t=>
   cases r;rw[RL,zO t]
theorem rY:∀(as:Xw Xp),Vals (as.map V.ref) (as.map Value.ref)
 |[]=>.nil
 |a::as=>.cons rfl<|rY as
inductive K9(K:Frag)(sp:Sp)(xs:Xw V)(H:Hp)(Q:VK):Prop
 |mk(p:Xp)(as:Xw Xp)(g:Xp->Int)(e:xs=[.ref p])(s:cN K H p (as.map V.ref))(h:∀a∈as,∀f:VK,f (.int (g a)) H->sp [.ref a] H f E0)
   (q:∀(l:Xp)(zs:Xw Xp),H l=none->zs.Perm as->zs.Pairwise (λa b=>g a<=g b)->(∀i,zs.filter (λa=>decide (g a=i))=as.filter (λa=>decide (g a=i)))->Q (.ref l) (upd H l (.lst (zs.map V.ref))))
def yx{k:Nat}{f:Xp}{fd:FuncData}{ps:Xw Xx}{sp:Sp}(F:fg X.prog X.w X.K X.mg X.base oE k f fd ps sp)(hr:dO (k+2) X.A)(B:Binds X.K fd ps []){XC:XA}{s:Xq}{σ:St}{H:Hp}{xs:Xw V}{us:Xw Xo}{Q:VK}
  (I:Inv X XC σ H s)(r:Vals xs us)(h:K9 X.K sp xs H Q):wpAny (model X.prog X.w) X.A (call (.builtin "sorted") us [(Str.ofString "key",.ref f)]) (EP X XC σ Q) X.xe s:=by
 obtain⟨p,n,g,rfl,hq,hs,q⟩:=h;obtain⟨u,rfl,rx⟩:=vals1 r;cases rx;obtain⟨XF,rv,pl,hz⟩:=I.list hq;obtain rfl:=zO rv;rw[QM]at hz;refine WR kind_sorted plain_sorted entry_sorted (oG _ _) ?_;unfold Builtin.«sorted»;refine QH<|QI ?_;refine QH<|collect_list pl.isList ?_;refine QH<|V4 ?_;have XO:((s.heap.push<|seqObj "list" #[] 0).update s.heap.objs.size<|Obj.mapSeq (· ++(n.map Value.ref).toArray)).objs.size=s.heap.objs.size+1:=by simp_all
 have N:(((s.heap.push<|seqObj "list" #[] 0).update s.heap.objs.size<|Obj.mapSeq (· ++(n.map Value.ref).toArray)).push<|seqObj "list" (n.map Value.ref).toArray 0).get? (s.heap.objs.size+1)=some (seqObj "list" (n.map Value.ref).toArray 0):=by
  rw[<-XO];exact QX _ rfl
 rw[XO];have hold:∀b,b<s.heap.objs.size->(((s.heap.push<|seqObj "list" #[] 0).update s.heap.objs.size<|Obj.mapSeq (· ++(n.map Value.ref).toArray)).push<|seqObj "list" (n.map Value.ref).toArray 0).get? b=s.heap.get? b:=λb B=>by
  rw[TY _ _ _<|by grind,Tg _ _ _ _<|Rb B,TY _ _ _<|Rb B]
 have E:(((s.heap.push<|seqObj "list" #[] 0).update s.heap.objs.size<|Obj.mapSeq (· ++(n.map Value.ref).toArray)).push<|seqObj "list" (n.map Value.ref).toArray 0).objs.size=s.heap.objs.size+2:=by rw[W2,XO]
 generalize ((s.heap.push<|seqObj "list" #[] 0).update s.heap.objs.size<|Obj.mapSeq (· ++(n.map Value.ref).toArray)).push (seqObj "list" (n.map Value.ref).toArray 0)=W at N hold E;have na:=I.hok.fresh<|T6 _;have T:∀b,s.heap.objs.size<=b->b ∉ Bp X.stack:=λb B hm=>by
  obtain⟨_,o,e,_⟩:=I.stack.mem hm;exact absurd (Ri e)<|not_lt.mpr B
 refine QH (Rv (wpAny_call_entry_kw slot_list_sort ⟨_,N,rfl⟩ entry_list_sort (TS.qQ (R:=EN g)
  (G:=λm=>m.os=s.os/\AllBare m.gens/\Un (Bp X.stack) [] H H s.heap m.heap/\gJ X.prog X.w H m.heap) N (by grind) ?g0 ?gu ?gc ?fin)<|p6 _ _))
 case g0=>
  have k:∀b,b<s.heap.objs.size->(((W.update (s.heap.objs.size+1)<|Obj.mapSeq λ_=> #[]).push<|seqObj "tuple" (n.map Value.ref).toArray 0).push<|seqObj "list" #[] 0).get? b=s.heap.get? b:=λb B=>by
   rw[TY _ _ _<|Rb<|by rw[W2,size_update,E];lia,TY _ _ _<|Rb<|by rw[size_update,E];lia,Tg _ _ _ _<|Rb<|by lia,hold b B]
  exact⟨rfl,I.bare,Un.refl.over k,gJ.over I.hok I.hok k⟩
 case gu=>
  rintro m gg ⟨O,bare,un,C⟩;have k:∀b,b<s.heap.objs.size->(m.heap.update (W.objs.size+1)<|Obj.mapSeq gg).get? b=m.heap.get? b:=λb B=>Tg _ _ _ _ (Rb<|by rw[E];lia);exact⟨O,bare,un.over k,gJ.over I.hok C k⟩
 case gc=>
  rintro v hv m ⟨O,bare,un,C⟩;obtain⟨a,ha,rfl⟩:=Ru.mp hv;have I':Inv X XC σ H m:=I.Dx O un C bare (λb z=>by cases z);have Z:=hs a ha (λv H'=>v=.int (g a)/\H'=H) ⟨rfl,rfl⟩;have hl:([Value.ref a]++([]:Xw Xo)).length=ps.length:=F.len _ _ _ _ Z;refine V5<|Ti (F.run X.A.in1.in1 X.stack m H ⟨[.ref a],[]⟩ [.ref a] [.ref a] _ E0 hr.in1.in1 I'.Lu.in1.in1 (B m [.ref a] I'.oH hl) (.cons rfl .nil) Z) λrr s2 U=>?_;cases rr with
  |error e=>exact False.elim U
  |ok fl=>
   cases fl with
   |next=>exact False.elim U
   |brk=>exact False.elim U
   |cont=>exact False.elim U
   |ret u=>
    obtain⟨v,H',Ot,M,J,S,ac,rfl,rfl⟩:=U;obtain⟨t,rfl⟩:=ac;refine⟨⟨_,t,rfl,a,rfl,rfl⟩,⟨Ot.trans O,M,un.trans J,S⟩,λb o B hg=>?_⟩;obtain rfl|rfl:=B
    ·exact J.keep _ _ hg na (T _<|T6 _) (λz=>by cases z)
    ·exact J.keep _ _ hg (I.hok.fresh<|by rw[E];lia) (T _<|by rw[E];lia) (λz=>by cases z)
 case fin=>
  rintro m ks j ⟨O,bare,un,C⟩ ⟨e1,ar⟩ kk av L;refine⟨_,rfl,QI ⟨_,rfl,?_⟩⟩;have km:=BC kk;have am:∀p∈j.toList,TS.key TS.intKind p=g (d7 p.2)/\p.2=.ref (d7 p.2):=λp D=>km p<|L.mem.mp D;have P:(ks.zip<|n.map Value.ref).map (λp=>d7 p.2)=n:=by
   have e1:(λp:Keyed=>d7 p.2)=d7 ∘ Prod.snd:=rfl;rw[e1,<-Th,List.map_snd_zip<|by rw[kk.len];exact QP _,Th];exact List.map_id _
  have ad:(j.map (·.2)).toList=(j.toList.map λp=>d7 p.2).map Value.ref:=by
   rw[Array.toList_map,Th];exact Xl λp D=>(am p D).2
  have perm:(j.toList.map λp=>d7 p.2).Perm n:=by
   have:=L.perm.map λp:Keyed=>d7 p.2;grind
  have pw:(j.toList.map λp=>d7 p.2).Pairwise (λa b=>g a<=g b):=by
   rw[Vo];refine UX (λ{x y} hx hy an=>?_) av;have h':TS.intKind.blt (TS.key TS.intKind y) (TS.key TS.intKind x)=false:=an;rw[(am x hx).1,(am y hy).1]at h';have ax:decide (g (d7 y.2)<g (d7 x.2))=false:=h';grind
  have ab:∀(l:Xw Keyed),(∀p∈l,TS.key TS.intKind p=g (d7 p.2))->∀i:Int,(l.map λp=>d7 p.2).filter (λa=>decide<|g a=i)=(TS.fk TS.intKind i l).map λp=>d7 p.2:=λl hl i=>by
   rw[V9]
   congr 1
   refine List.filter_congr λp D=>?_;show decide (g (d7 p.2)=i)=(!TS.intKind.blt (TS.key TS.intKind p) i && !TS.intKind.blt i (TS.key TS.intKind p));rw[hl p D];show decide (g (d7 p.2)=i)=(!decide (g (d7 p.2)<i) && !decide (i<g (d7 p.2)));grind
  have fl:∀i:Int,(j.toList.map λp=>d7 p.2).filter (λa=>decide<|g a=i)=n.filter (λa=>decide<|g a=i):=λi=>by
   have e2:=ab (ks.zip<|n.map Value.ref) (λp D=>(km p D).1) i;rw[P]at e2;rw[ab j.toList (λp D=>(am p D).1) i,e2,L i]
  have Y:(m.heap.update (W.objs.size+1)<|Obj.mapSeq λ_=> #[]).get? (s.heap.objs.size+1)=some (seqObj "list" #[] e1):=(Tg _ _ _ _<|Rb<|by rw[E];lia).trans ar;have YE:=V8 Y λ_=>j.map (·.2);have k:∀b,b<s.heap.objs.size->((m.heap.update (W.objs.size+1)<|Obj.mapSeq λ_=> #[]).update (s.heap.objs.size+1)<|Obj.mapSeq λ_=>j.map (·.2)).get? b=m.heap.get? b:=λb B=>by
   rw[Tg _ _ _ _<|Rb<|by lia,Tg _ _ _ _<|Rb<|by rw[E];lia]
  refine⟨.ref<|s.heap.objs.size+1,_,I.Dx (ch:=[]) O ((un.over k).D7 (T6 _) na) ((gJ.over I.hok C k).D7 na ?_) bare (λb z=>by cases z),rfl,q _ _ na perm pw fl⟩;have al:=perm.length_eq;have aq:j.map (·.2)=((j.toList.map λp=>d7 p.2).map Value.ref).toArray:=by rw[<-ad]
  obtain⟨e3,ap⟩:∃e3,((m.heap.update (W.objs.size+1)<|Obj.mapSeq λ_=> #[]).update (s.heap.objs.size+1)<|Obj.mapSeq λ_=>j.map (·.2)).get? (s.heap.objs.size+1)=some (seqObj "list" (j.map (·.2)) e3):=⟨_,YE⟩;refine⟨by rw[QM,al];exact hz,(j.toList.map λp=>d7 p.2).map Value.ref,e3,rY _,ap.trans ?_⟩;rw[aq]
structure La(X:Cx)(x:Xx)(sp:Sp):Prop where
 ex:∃(k:Nat) (f:Xp) (fd:FuncData) (ps:Xw Xx),fg X.prog X.w X.K X.mg X.base oE k f fd ps sp/\dO (k+2) X.A/\X.mg x=some (.ref f)/\Binds X.K fd ps []
 gl:Gl X x
 db:(x==("__debug__" :Xx))=false
def Here.OF {P:Xr}{w:Xs}{K:Frag}{a:XB}{base:Heap}{sc:Scope}{N:Xw Xx}{k j:Nat}{x:Xx}{sp:Sp}(h:Here X P w K a base sc N k) (G:Gd P w K a base j x sp) (o:sc.names.lookup x=some .globalImplicit) (i:j+2<=k) (db:(x==("__debug__" :Xx))=false):La X x sp:=by
 obtain⟨f,e,g,n,l,p,m⟩:=G.ex;obtain⟨rfl,rfl,rfl,rfl,rfl⟩:=And.intro h.pr<|And.intro h.wd<|And.intro h.fK<|And.intro h.gm h.bs;exact⟨⟨j,f,e,g,n,h.room.mono i,l,m⟩,h.gl o,db⟩
def Et {x:Xx}{sp:Sp}{e:Expr}{t:TA}{p l a pos:Pos}(B:Bt X "sorted") (C:La X x sp) (o:PA X [e] t) (he:starEach [e] X.env=[(false,eval e X.env)]):
  PE X (.Call (.Name "sorted" p) [e] [⟨some "key",.Name x l,a⟩] pos) (λσ H Q=>t σ H λxs H1=>K9 X.K sp xs H1 Q):=by
 intro v s σ H Q I h;obtain⟨k,f,w,y,F,hr,j,m⟩:=C.ex;have n:backTo pos (starEach [e] X.env)=(false,eval e X.env)::backTo pos (starEach [] X.env):=by
  rw[he];rfl
 refine Tb<|jc I B.gl B.nm rB ?_ B.hn B.db;refine callWith_kw (cX (o pos v s σ H _ I h) λD A g=>?_) (by rw[he];rfl) (by rw[he];rfl);obtain⟨z,H1,i,r,q⟩:=g;exact kws_cons<|o5 i C.gl j (kws_nil<|yx F hr m i r q) C.db
end L2
namespace J
def MD {X:Cx}{x:Xx}{sp:Sp}{e:Expr}{t:TA}{p g a pos:Pos}(B:Bt X "sorted") (C:La X x sp) (f:JA X [e] t) (h:notStar e=true:=by rfl):
  JE X (.Call (.Name "sorted" p) [e] [⟨some "key",.Name x g,a⟩] pos) (λσ H Q=>t σ H λxs H1=>K9 X.K sp xs H1 Q):=⟨Et B C f.out<|cU h⟩
end J
namespace L2
section
variable {X:Cx}
def jb{A:Xv}{k:Nat}(hr:dO k A):A.units+3<cLine:=by
 have:=hr.un;omega
end
end L2
namespace NK
structure gI(P:Xr)(w:Xs)(κ:Type) [DecidableEq κ] where
 is:Heap->κ->Xo->Prop
 hash:κ->Int
 draws:κ->Nat
 room:Xv->Prop
 inj:∀{h:Heap}{u:Xo}{x y:κ},is h x u->is h y u->x=y
 eqv:∀{A:Xv}{E:Xy}{s:Xq}{x y:κ}{u v:Xo}{Q:Bool->Xq->Prop},room A->is s.heap x u->is s.heap y v->Q (decide (x=y)) s->wpAny (model P w) A (eqBool u v) Q E s
 hashes:∀{A:Xv}{E:Xy}{s:Xq}{x:κ}{u:Xo}{Q:Int->Xq->Prop},room A->is s.heap x u->Q (hash x) { s with toks:=s.toks+draws x }->wpAny (model P w) A (pyHash u) Q E s
 qd:Nat
 quiet:∀{A:Xv}{E:Xy}{s:Xq}{x:κ}{u:Xo}{n:Nat}{Q:Bool->Xq->Prop},qd<=n->is s.heap x u->Q true s->wpAny (model P w) A (eqIsQuiet n u) Q E s
 keep:∀{h h':Heap}{x:κ}{u:Xo},(∀b o,h.get? b=some o->h'.get? b=some o)->is h x u->is h' x u
 txs:∀{h:Heap}{x y:κ}{z:Xx}{t:Tok}{u:Xo},is h x (.str z t)->is h y u->u.isStr z=decide (y=x)
section
variable [DecidableEq κ] (k:gI P w κ)
def ent(e:κ×Xo×Xo):DictEntry:=⟨k.hash e.1,e.2.1,e.2.2⟩
end
section
variable [DecidableEq κ]{k:gI P w κ}{A:Xv}{E:Xy}{s:Xq}
def Cm(a:k.qd<=8)(j:k.is s.heap x u)(i:∀v∈zt,∃y,k.is s.heap y v)(q:Q false s):wpAny (model P w) A (tableMayTell u zt) Q E s:=by
 unfold tableMayTell;split
 ·exact QI q
 refine QH<|k.quiet a j ?_;rw[QO<|by decide];refine QH<|wpAny_forIn_list _ (λr b e=>e=s/\b=(none,())/\∀v∈r,∃y,k.is s.heap y v) _ ?_ ?_ _ _ ⟨rfl,rfl,i⟩
 ·rintro v r b h ⟨rfl,rfl,hr⟩
  obtain⟨y,g⟩:=hr v<|.head _;refine QH<|k.quiet a g ?_;rw[QO<|by decide];exact QI ⟨rfl,rfl,λv f=>hr v<|.tail _ f⟩
 ·rintro b h ⟨rfl,rfl,_⟩
  exact QI q
def Sh(u:Xo):Prop:=(∃z t,u=.str z t)\/∃a,u=.ref a
def iE{xs:Xw (κ×Xo×Xo)}(nd:(xs.map (·.1)).Nodup){x:κ}{i:Nat}{e:κ×Xo×Xo}(g:xs[i]? =some e)(ex:e.1=x):(xs.findIdx? λe=>decide<|e.1=x)=some i:=by
 obtain⟨f,rfl⟩:=gI0.mp g;refine Ta.mpr ⟨f,dT0 ex,λj h=>?_⟩;intro q;have a:=QT q;have:j=i:=(TZ (h₀:=by rw[QM];lia) (h₁:=by rw[QM];lia) nd).mp (by rw[Um,Um,a,ex]);lia
def qq(q8:k.qd<=8){d:Xp}{o:Obj}{es:Array DictEntry}{ep:Nat}{xs:Xw (κ×Xo×Xo)}{x:κ}{u:Xo}{Q:Xu Nat->Xq->Prop}(sh:Sh u)(hu:k.room A)(R:k.is s.heap x u)(O:s.heap.get? d=some o)(hd:o.data=.dict es ep)(K:es.toList=xs.map (ent k))(J:∀e∈xs,k.is s.heap e.1 e.2.1)(nd:(xs.map (·.1)).Nodup)(q:Q (xs.findIdx? λe=>decide<|e.1=x) s):
  wpAny (model P w) A (dictFind d u<|k.hash x) Q E s:=by
 have look:∀i,es[i]? =(xs[i]?).map (ent k):=λi=>by rw[<-Rc,K,QY]
 have sz:es.size=xs.length:=by rw[<-QZ,K,QM]
 have U:(placesWithHash es.size (λi=>es[i]?.map (·.hash))<|k.hash x).Nodup:=VZ.filter _;have l:∀i∈placesWithHash es.size (λi=>es[i]?.map (·.hash)) (k.hash x),∃e,xs[i]? =some e:=λi h=>by
  have H:=Su.mp (Ra.mp h).1;rw[sz]at H;exact⟨_,QJ H⟩
 have D:∀(i:Nat) (e:κ×Xo×Xo),xs[i]? =some e->e.1=x->i∈placesWithHash es.size (λi=>es[i]?.map (·.hash)) (k.hash x):=λi e h f=>by
  refine Ra.mpr ⟨Su.mpr<|by rw[sz];exact(gI0.mp h).1,?_⟩;show(es[i]?.map (·.hash)==some (k.hash x))=true;rw[look,h];show(some (k.hash e.1)==some (k.hash x))=true;rw[f];exact R4 _
 have W:∀v∈(placesWithHash es.size (λi=>es[i]?.map (·.hash))<|k.hash x).filterMap λi=>es[i]?.map (·.key),∃y,k.is s.heap y v:=λv hv=>by
  obtain⟨i,C,e⟩:=Vw.mp hv;obtain⟨B,n⟩:=l i C;rw[look,n]at e;cases e;exact⟨_,J _<|QN n⟩
 have none_of:(∀(i:Nat) (e:κ×Xo×Xo),xs[i]? =some e->e.1≠x)->(xs.findIdx? λe=>decide<|e.1=x)=none:=λh=>UQ.mpr λe K=>by
  obtain⟨i,J⟩:=List.mem_iff_getElem?.mp K;exact QU<|h i e J
 unfold dictFind;refine Rv<|QH<|Sw O hd ?_;generalize placesWithHash es.size (λi=>es[i]?.map (·.hash)) (k.hash x)=pl at U l D W ⊢;have ab:wpAny (model P w) A (dictWalkPlain d u (k.hash x) es pl) Q E s:=by
  unfold dictWalkPlain;refine QH<|wpAny_forIn_list _ (λr b s'=>s'=s/\b=(none,())/\(∀i∈r,∃e,xs[i]? =some e)/\∀(i:Nat) (e:κ×Xo×Xo),xs[i]? =some e->e.1=x->i∈r) _ ?_ ?_ _ _ ⟨rfl,rfl,l,D⟩
  ·rintro i r b s1 ⟨rfl,rfl,C,I⟩
   obtain⟨e,p⟩:=C i<|.head _;have keep:e.1≠x->∀(j:Nat) (B:κ×Xo×Xo),xs[j]? =some B->B.1=x->j∈r:=λN j B n f=>by
    obtain z|z:=Rq.mp (I j B n f)
    ·rw[z,p]at n
     cases n;exact absurd f N
    ·exact z
   rw[show es[i]? =some (ent k e) by rw[look,p];rfl];refine Rk (λ_=>QH<|R8 O hd<|QH<|k.eqv hu (J e<|QN p) R<|QH<|R8 O hd<|Rk (λh=>absurd h<|by simp) λ_=>Rk (λf=>?_) λf=>QH<|Sm<|QI ⟨rfl,rfl,λj g=>C j<|.tail _ g,keep λe=>f<|dT0 e⟩) λN=>QI ⟨rfl,rfl,λj g=>C j<|.tail _ g,keep λf=>N<|f ▸ R4 _⟩;rw[iE nd p<|QT f]at q;exact QH<|Sm<|QI<|QI q
  ·rintro b s1 ⟨rfl,rfl,C,I⟩
   rw[none_of λi e h f=>nomatch I i e h f]at q;exact QI q
 have ac:∀z t,u=.str z t->wpAny (model P w) A (foundByValue d u es z) Q E s:=λz t eu=>by
  have same:∀e∈xs,(ent k e).key.isStr z=decide (e.1=x):=λe K=>by
   rw[eu]at R;exact k.txs R<|J e K
  unfold foundByValue;cases Y:xs.findIdx? (λe=>decide<|e.1=x) with
  |none=>
   rw[Y]at q;have:es.findIdx? (·.key.isStr z)=none:=Array.findIdx?_eq_none_iff.mpr λe ad=>by
    have m:e∈xs.map (ent k):=by rw[<-K];exact Vi.mpr ad
    obtain⟨B,n,rfl⟩:=Ru.mp m;rw[same B n];exact UQ.mp Y B n
   rw[this];exact QI q
  |some i=>
   rw[Y]at q;obtain⟨H,p,h2⟩:=Ta.mp Y;have Z:i<es.size:=by rw[sz];exact H
   have L:∀j (g:j<es.size) (Yv:j<xs.length),es[j]=ent k xs[j]:=λj g Yv=>by
    have:=look j;rw[RB g,QJ Yv]at this;exact Rr this
   have:es.findIdx? (·.key.isStr z)=some i:=Array.findIdx?_eq_some_iff_getElem.mpr ⟨Z,by rw[L i Z H,same _<|Tf H];exact p,λj g=>by
    rw[L j (by lia)<|by lia,same _<|Tf<|by lia];exact h2 j g⟩
   rw[this];dsimp only;rw[RB Z,L i Z H];dsimp only;refine QH<|R8 O hd<|QH<|k.eqv hu (J _<|Tf H) R<|QH<|R8 O hd ?_;rw[QO<|by simp,p,QR rfl];exact QH<|Sm<|QI q
 have X:¬(es.any λe=>e.key==u&&e.hash != k.hash x)=true:=λh=>by
  rw[<-Array.any_toList,K,any_map,U9]at h;obtain⟨e,C,hb⟩:=h;have T:(e.2.1==u&&k.hash e.1 != k.hash x)=true:=hb;rw[R6,Vx,bne_iff_ne]at T;have h3:=J e C;rw[T.1]at h3;exact T.2 (by rw[k.inj h3 R])
 extract_lets -underBinder+onlyGivenNames jp
 suffices g:wpAny (model P w) A (jp ()) Q E s by
  clear_value jp
  obtain ⟨z,t,rfl⟩|⟨a,rfl⟩:=sh
  ·exact Rk (λ_=>ac z t rfl) λ_=>g
  ·exact g
 refine Rk (λ_=>ab) λ_=>?_
 extract_lets -underBinder+onlyGivenNames jp
 suffices g:wpAny (model P w) A (jp ()) Q E s by
  clear_value jp
  obtain ⟨z,t,rfl⟩|⟨a,rfl⟩:=sh
  ·exact g
  ·exact Rk (λh=>absurd h X) λ_=>g
 dsimp -zeta only[jp]
 extract_lets -underBinder+onlyGivenNames jp
 suffices g:wpAny (model P w) A (jp false) Q E s from Rk (λ_=>QH<|QI g) λ_=>QH<|Cm q8 R W g
 refine Rk nofun λ_=>QH<|wpAny_forIn_list _ (λr b s'=>s'=s/\∃F:Xu Nat,b=(none,F)/\(∀i∈r,∃e,xs[i]? =some e)/\r.Nodup/\((F=none/\∀(i:Nat) (e:κ×Xo×Xo),xs[i]? =some e->e.1=x->i∈r)\/∃(j:Nat) (e:κ×Xo×Xo),F=some j/\xs[j]? =some e/\e.1=x/\j ∉ r)) _ ?_ ?_ _ _ ⟨rfl,none,rfl,l,U,.inl ⟨rfl,D⟩⟩
 ·rintro i r b s1 ⟨rfl,F,rfl,C,rn,hH⟩
  obtain⟨e,p⟩:=C i<|.head _;have G:=Tj.mp rn;have M:∀j∈r,∃e,xs[j]? =some e:=λj g=>C j<|.tail _ g;have keep:e.1≠x->((F=none/\∀(i:Nat) (e:κ×Xo×Xo),xs[i]? =some e->e.1=x->i∈r)\/∃(j:Nat) (e:κ×Xo×Xo),F=some j/\xs[j]? =some e/\e.1=x/\j ∉ r):=λN=>by
   obtain ⟨h0,I⟩|⟨j,B,h0,g,S,nj⟩:=hH
   ·refine .inl ⟨h0,λj B n f=>?_⟩
    obtain z|z:=Rq.mp (I j B n f)
    ·rw[z,p]at n
     cases n;exact absurd f N
    ·exact z
   ·exact .inr ⟨j,B,h0,g,S,λz=>nj<|.tail _ z⟩
  rw[show es[i]? =some (ent k e) by rw[look,p];rfl];refine Rk (λ_=>QH<|R8 O hd<|QH<|k.eqv hu (J e<|QN p) R<|QH<|R8 O hd<|Rk (λh=>absurd h<|by simp) λ_=>Rk (λf=>?_) λf=>QH<|Sm<|Rk nofun λ_=>QI ⟨rfl,F,rfl,M,G.2,keep λe=>f<|dT0 e⟩) λN=>QI ⟨rfl,F,rfl,M,G.2,keep λf=>N<|f ▸ R4 _⟩;have pq:=iE nd p<|QT f;obtain ⟨rfl,I⟩|⟨j,B,rfl,g,S,nj⟩:=hH
  ·rw[pq]at q
   exact Rk nofun λ_=>QH<|Sm<|Rk (λ_=>QI<|QI q) λ_=>QI ⟨rfl,some i,rfl,M,G.2,.inr ⟨i,e,rfl,p,QT f,G.1⟩⟩
  ·cases (iE nd g S).symm.trans pq
   exact absurd (List.Mem.head _) nj
 ·rintro b s1 ⟨rfl,F,rfl,C,_,hH⟩
  obtain ⟨rfl,I⟩|⟨j,e,rfl,g,f,_⟩:=hH
  ·rw[none_of λi e h f=>nomatch I i e h f]at q
   exact QI q
  ·rw[iE nd g f]at q
   exact QI q
def zK(k:gI P w κ)(h:Heap)(d:Xp)(xs:Xw (κ×Xo×Xo)):Prop:=∃o a e,h.get? d=some o/\o.ExactDict/\o.data=.dict a e/\a.toList=xs.map (ent k)
def uS(xs:Xw (κ×Xo×Xo))(x:κ):Xu (κ×Xo×Xo):=xs.find? λe=>decide<|e.1=x
def i8(xs:Xw (κ×Xo×Xo))(x:κ)(u v:Xo):Xw (κ×Xo×Xo):=if(uS xs x).isSome then xs.map (λe=>if e.1=x then(e.1,e.2.1,v) else e) else xs++[(x,u,v)]
def v8{x:κ}(h:uS xs x=none):i8 xs x u v=xs++[(x,u,v)]:=by
 unfold i8;rw[h];rfl
def wm{e:κ×Xo×Xo}(h:uS xs x=some e):i8 xs x u v=xs.map (λe=>if e.1=x then(e.1,e.2.1,v) else e):=by
 unfold i8;rw[h];rfl
def uI{xs:Xw (κ×Xo×Xo)}{x:κ}{i:Nat}(h:(xs.findIdx? λe=>decide<|e.1=x)=some i):∃e,xs[i]? =some e/\uS xs x=some e/\e.1=x:=by
 obtain⟨a,f,l⟩:=Ta.mp h;refine⟨xs[i],QJ a,List.find?_eq_some_iff_getElem.mpr ⟨f,i,a,rfl,λj g=>?_⟩,QT f⟩;have:=l j g
 simpa using this
def tH{x:κ}(h:(xs.findIdx? λe=>decide<|e.1=x)=none):uS xs x=none/\∀e∈xs,e.1≠x:=by
 have f:=UQ.mp h;exact⟨VC.mpr λe a q=>(by rw[f e a]at q;cases q),λe a q=>(by
  have:=f e a;rw[dT0 q]at this;cases this)⟩
def tG(p:k.qd<=8){x:κ}(sh:Sh u)(j:k.room A)(l:k.is s.heap x u)(a:zK k s.heap d xs)(v:∀e∈xs,k.is s.heap e.1 e.2.1)(nd:(xs.map (·.1)).Nodup)(q:Q ((uS xs x).map (·.2.2)) { s with toks:=s.toks+k.draws x }):wpAny (model P w) A (dictGet d u) Q E s:=by
 obtain⟨o,r,y,g,_,a,h⟩:=a;unfold dictGet;refine Rv<|QH<|k.hashes j l<|QH<|qq p sh j l g a h v nd ?_;cases f:xs.findIdx? (λe=>decide<|e.1=x) with
 |none=>
  rw[(tH f).1]at q;exact QI q
 |some i=>
  obtain⟨e,n,m,_⟩:=uI f;rw[m]at q;refine QH<|Sw g a ?_;rw[show r[i]? =some (ent k e) by rw[<-Rc,h,QY,n];rfl];exact QI q
def yH{xs:Xw (κ×Xo×Xo)}(nd:(xs.map (·.1)).Nodup)(h:xs[i]? =some e)(ex:e.1=x):((xs.map<|ent k).modify i λe=>{ e with val:=v })=(xs.map λe=>if e.1=x then(e.1,e.2.1,v) else e).map (ent k):=by
 refine UU λj=>?_;rw[List.getElem?_modify,QY,QY,QY];cases a:xs[j]? with
 |none=>rfl
 |some f=>
  show some (if i=j then _ else ent k f)=some (ent k<|if f.1=x then _ else f);by_cases g:i=j
  ·subst g
   rw[h]at a;cases a;rw[QR rfl,QR ex];rfl
  ·have:f.1≠x:=λl=>by
    have:=(iE nd a l).symm.trans<|iE nd h ex;grind
   rw[QO g,QO this]
def Aj(C:k.qd<=8){d:Xp}{xs:Xw (κ×Xo×Xo)}{u v:Xo}{Q:Xz}(sh:Sh u)(j:k.room A)(l:k.is s.heap x u)(a:zK k s.heap d xs)(B:∀e∈xs,k.is s.heap e.1 e.2.1)(nd:(xs.map (·.1)).Nodup)(sz:xs.length<=sizeLine)
  (q:∀h',zK k h' d (i8 xs x u v)->Heap.SameBut d s.heap h'->Q () { s with heap:=h',toks:=s.toks+k.draws x }):wpAny (model P w) A (dictSet d u v) Q E s:=by
 obtain⟨o,z,m,f,n,a,g⟩:=a;have D:z.size=xs.length:=by rw[<-QZ,g,QM]
 unfold dictSet;refine Rv<|QH<|k.hashes j l ?_;unfold dictSetHashed;refine Rv<|QH<|qq C sh j l f a g B nd ?_;cases h:xs.findIdx? (λe=>decide<|e.1=x) with
 |none=>
  refine QH<|Sm<|wpAny_updateDictKeys f a<|q _ ⟨_,_,m+1,Ss _ f<|V0<|UK a _,n.mapDictKeys _,UK a _,?_⟩<|Rl ..;rw[v8 (tH h).1,Sr,<-g];simp[ent]
 |some i=>
  obtain⟨e,y,r,p⟩:=uI h;refine QH<|Sm<|QH<|wpAny_updateDict f a<|wpAny_point<|q _ ⟨_,_,m,Ss _ f<|V0<|Obj.data_mapDict a _,n.mapDict _,Obj.data_mapDict a _,?_⟩<|Rl ..;rw[wm r,<-yH nd y p,<-g];grind
def EU(y:k.qd<=8){x:κ}(sh:Sh u)(l:k.room A)(m:k.is s.heap x u)(a:zK k s.heap d xs)(q:∀e∈xs,k.is s.heap e.1 e.2.1)(nd:(xs.map (·.1)).Nodup)(sz:xs.length<=sizeLine)
  (q1:∀e,uS xs x=some e->Q e.2.2 { s with toks:=s.toks+k.draws x })(B:uS xs x=none->∀h',zK k h' d (xs++[(x,u,v)])->Heap.SameBut d s.heap h'->Q v { s with heap:=h',toks:=s.toks+k.draws x }):wpAny (model P w) A (dictSetDefault d u v) Q E s:=by
 obtain⟨o,j,r,f,z,a,g⟩:=a;have C:j.size=xs.length:=by rw[<-QZ,g,QM]
 unfold dictSetDefault;refine Rv<|QH<|k.hashes l m<|QH<|qq y sh l m f a g q nd ?_;cases h:xs.findIdx? (λe=>decide<|e.1=x) with
 |none=>
  refine QH<|Sm<|QH<|wpAny_updateDictKeys f a<|QI<|B (tH h).1 _ ⟨_,_,r+1,Ss _ f<|V0<|UK a _,z.mapDictKeys _,UK a _,?_⟩<|Rl ..;rw[Sr,<-g];simp[ent]
 |some i=>
  obtain⟨e,p,n,_⟩:=uI h;refine QH<|Sw f a ?_;rw[show j[i]? =some (ent k e) by rw[<-Rc,g,QY,p];rfl];exact QH<|Sm<|QI<|q1 e n
end
def jm(P:Xr)(w:Xs):gI P w Key where
 is:=λ_ x u=>(cM P w).is x u=true
 hash:=(cM P w).hash
 draws:=λ_=>1
 room:=λ_=>True
 inj:=λa b=>(cM P w).inj _ _ _ a b
 eqv:=λ_ a b q=>(cM P w).eqBool a b q
 hashes:=λ_ a q=>(cM P w).pyHash a q
 qd:=0
 quiet:=λ_ a q=>by
  rw[eqIsQuiet_byValue _<|(cM P w).byValue _ _ a];exact QI q
 keep:=λ_ a=>a
 txs:=λ{h x y z t u} a b=>by
  rw[<-(cM P w).strs x z t u a,KeyKind.is_eq_decide b x];exact V1.mpr ⟨Eq.symm,Eq.symm⟩
section
variable [DecidableEq κ] (k:gI P w κ)
inductive qJ(h:Heap):Xw κ->Xw Xo->Prop
 |nil:qJ h [] []
 |cons {x:κ}{u:Xo}{xs:Xw κ}{us:Xw Xo}(a:k.is h x u)(b:qJ h xs us):qJ h (x::xs) (u::us)
def iB(h:Heap)(xs:Xw κ)(u:Xo):Prop:=∃a items,u=.ref a/\h.IsTuple a items/\qJ k h xs items.toList
end
section
variable [DecidableEq κ]{k:gI P w κ}{A:Xv}{E:Xy}{s:Xq}
theorem qJ.inj{h:Heap}:∀{xs ys:Xw κ}{us:Xw Xo},qJ k h xs us->qJ k h ys us->xs=ys
 |_,_,_,.nil,.nil=>rfl
 |_,_,_,.cons a b,.cons c d=>by rw[k.inj a c,qJ.inj b d]
def iB.inj(a:iB k h xs u)(b:iB k h ys u):xs=ys:=by
 obtain⟨a,j,rfl,⟨o,e,_,n,d⟩,i⟩:=a;obtain⟨b,m,q,⟨r,g,_,p,f⟩,l⟩:=b;cases q;rw[e]at g;cases g;rw[d]at f;cases f;exact i.inj l
theorem qJ.keep{h h':Heap}(e:∀b o,h.get? b=some o->h'.get? b=some o):∀{xs:Xw κ}{us:Xw Xo},qJ k h xs us->qJ k h' xs us
 |_,_,.nil=>.nil
 |_,_,.cons a b=>.cons (k.keep e a)<|qJ.keep e b
def iB.keep(f:∀b o,h.get? b=some o->h'.get? b=some o)(a:iB k h xs u):iB k h' xs u:=by
 obtain⟨a,is,e,⟨o,g,c⟩,i⟩:=a;exact⟨a,is,e,⟨o,f _ _ g,c⟩,i.keep f⟩
def o4(k:gI P w κ)(xs:Xw κ):Int:=reduceHash<|Builtin.Tuple.tupleHashOf<|xs.map k.hash
def jM(k:gI P w κ):Xw κ->Nat
 |[]=>0
 |x::xs=>k.draws x+jM k xs
def iB.ty(h:iB k s.heap xs (.ref a)):s.TypeIs (.ref a) "tuple" :=by
 obtain⟨_,_,q,⟨o,e,c,_⟩,_⟩:=h;cases q;exact⟨o,e,c⟩
def xg(G:A.units<cLine)(hr:k.room A.in1)(h:iB k s.heap xs u)(q:Q (o4 k xs) { s with toks:=s.toks+(jM k xs+1) }):wpAny (model P w) A (pyHash u) Q E s:=by
 obtain⟨a,items,rfl,C,I⟩:=id h;have j:=h.ty;obtain⟨o,D,_,n,z⟩:=C;unfold pyHash pyHashByItsType;refine QH<|wpAny_cRoomFor_or (.inr G)<|QH<|Te j Vd.lookup ?_;rw[QO<|by grind];refine QH<|Te j Vd.lookup<|QH<|wpAny_callSpecialIfBoundUnlessNone?_slot j Vd<|Rt Vd j F.entry_tuple_hash ?_ (F.args_tuple_hash_1 _);show wpAny _ _ (Builtin.Tuple.tupleItemsOf (.ref a) >>= _) _ _ s;refine QH<|Wa D z<|QH ?_;rw[<-Array.forIn_toList];refine wpAny_forIn_list _ (λr (b:Array Int) B=>∃f i m,xs=f++i/\qJ k s.heap i r/\b.toList=f.map k.hash/\m+jM k i=jM k xs/\B={ s with toks:=s.toks+m }) _ ?_ ?_ _ _ ⟨[],xs,0,rfl,I,rfl,Td _,rfl⟩
 ·rintro v r b H ⟨f,i,m,rfl,p,l,y,rfl⟩
  cases p with
  | @cons x _ lf' _ a1 a2=>
   refine QH<|k.hashes hr a1 ?_;have e:jM k (x::lf')=k.draws x+jM k lf':=rfl;exact QI ⟨f++[x],lf',m+k.draws x,by simp,a2,by simp[l],by lia,by simp[Nat.add_assoc]⟩
 ·rintro b H ⟨f,i,m,rfl,p,l,y,rfl⟩
  cases p;have g:=y;rw[Ry]at q g;show wpAny _ _ (retInt<|Builtin.Tuple.tupleHashOf b.toList) _ _ _;rw[l];refine wpAny_ret_mkInt ?_;subst g;unfold o4 reduceHash at q;show wpAny _ _ (if(decide (-(2:Int)^63<=Builtin.Tuple.tupleHashOf (f.map k.hash))&&decide (Builtin.Tuple.tupleHashOf (f.map k.hash)<2^63))=true then _ else _) Q E _;split at q
  ·rename_i c
   rw[QR c];exact QI (by lia)
  ·rename_i c
   rw[QO c];exact QH (Sm<|QI<|by lia)
def Eu(hr:k.room A)(H:iB k s.heap xs (.ref a))(m:iB k s.heap ys (.ref b))(q:R (.done<|.ret<|.bool<|decide<|xs=ys) s):wpAny (model P w) A (Builtin.«tuple.__eq__» ⟨[.ref a,.ref b],[]⟩) R E s:=by
 have B:=m.ty;obtain⟨_,j,J,⟨L,C,_,M,D⟩,I⟩:=H;obtain⟨_,i,F,⟨K,p,_,N,n⟩,x⟩:=m;cases J;cases F;show wpAny _ _ (isInstance (.ref b) (.type "tuple") >>= _) _ _ s;refine QH<|Ts B isSubtype_tuple_tuple ?_;rw[QO<|by decide];refine QH<|Wa C D<|QH<|Wa p n<|QH ?_;refine wpAny_forIn_list _ (λr z o=>z.1=none/\o=s/\∃f g h e,r=List.zip h e/\qJ k s.heap f h/\qJ k s.heap g e/\(decide (f=g)=decide (xs=ys))/\(h.length==e.length)=(j.size==i.size)) _ ?_ ?_ _ _ ⟨rfl,rfl,xs,ys,j.toList,i.toList,rfl,I,x,rfl,by simp⟩
 ·rintro⟨u,v⟩ r z s1 ⟨hz,rfl,f,g,h,e,hr',j1,j2,hdec,XR⟩
  cases j1 with
  |nil=>simp at hr'
  | @cons x1 u1 xs1 us1 a1 b1=>
   cases j2 with
   |nil=>simp at hr'
   | @cons y1 v1 ys1 vs1 a2 b2=>
    simp only[List.zip_cons_cons,List.cons.injEq,Prod.mk.injEq]at hr';obtain⟨⟨rfl,rfl⟩,rfl⟩:=hr';refine QH<|k.eqv hr a1 a2 ?_;by_cases l:x1=y1
    ·subst l
     rw[dT0 rfl,QO<|by decide];refine QI ⟨rfl,rfl,xs1,ys1,us1,vs1,rfl,b1,b2,?_,by simpa using XR⟩;grind
    ·rw[QU l,QR<|by decide]
     have G:decide (xs=ys)=false:=by grind
     rw[G]at q;exact QH<|QI<|QI<|QI q
 ·rintro⟨z1,z2⟩ s1 ⟨hz,rfl,f,g,h,e,hr',j1,j2,hdec,XR⟩
  cases (show z1=none from hz);refine QI ?_;have y:(j.size==i.size)=decide (xs=ys):=by
   rw[<-hdec,<-XR];cases j1 with
   |nil=>cases j2 with
    |nil=>simp
    |cons _ _=>simp
   |cons _ _=>cases j2 with
    |nil=>simp
    |cons _ _=>simp at hr'
  show R (.done<|.ret<|.bool<|j.size==i.size) _;grind
def D8(h:A.units<cLine)(hr:k.room A.in1)(f:iB k s.heap xs u)(g:iB k s.heap ys v)(q:Q (decide<|xs=ys) s):wpAny (model P w) A (eqBool u v) Q E s:=by
 obtain⟨a,_,rfl,_⟩:=id f;obtain⟨b,_,rfl,_⟩:=id g;unfold eqBool;refine Rv ?_;by_cases e:(Value.ref a==Value.ref b)=true
 ·rw[QR e]
  cases Vx.mp e;cases f.inj g;exact QH (Sm<|QI<|by simpa using q)
 ·rw[QO e]
  exact QH<|wpAny_richCompare_same_room f.ty g.ty WS (Rt WS f.ty F.entry_tuple_eq (Eu hr f g ⟨_,rfl,(λz=>nomatch z),RO q⟩)<|F.args_tuple_eq_2 _ _) h
def rV(C:k.qd<=n)(h:iB k s.heap xs u)(q:Q true s):wpAny (model P w) A (eqIsQuiet (n+1) u) Q E s:=by
 obtain⟨a,items,rfl,l,y⟩:=id h;have e:=h.ty;obtain⟨o,p,_,m,g⟩:=l;unfold eqIsQuiet;refine QH<|Te e WS.lookup ?_;refine QH<|Ts e isSubtype_tuple_tuple ?_;rw[QO<|by decide];refine QH<|U4 p g<|QH ?_;rw[<-Array.forIn_toList];refine wpAny_forIn_list _ (λr z i=>z.1=none/\i=s/\∃xs,qJ k s.heap xs r) _ ?_ ?_ _ _ ⟨rfl,rfl,xs,y⟩
 ·rintro v r z x ⟨f,rfl,xs,B⟩
  cases B with
  |cons D j=>
   refine QH<|k.quiet C D ?_;rw[QO<|by decide];exact QI ⟨rfl,rfl,_,j⟩
 ·rintro⟨z1,z2⟩ x ⟨f,rfl,_⟩
  cases (show z1=none from f);exact QI q
def ON(k:gI P w κ):gI P w (Xw κ) where
 is:=iB k
 hash:=o4 k
 draws:=λh=>jM k h+1
 room:=λA=>A.units<cLine/\k.room A.in1
 inj:=λa b=>a.inj b
 eqv:=λhr a b q=>D8 hr.1 hr.2 a b q
 hashes:=λhr a q=>xg hr.1 hr.2 a q
 qd:=k.qd+1
 quiet:=λ{A E s x u n Q} f a q=>by
  cases n with
  |zero=>exact absurd f<|Vl _
  |succ n=>exact rV (WT f) a q
 keep:=λg a=>a.keep g
 txs:=λa _=>by
  obtain⟨_,_,e,_⟩:=a;cases e
end
section
variable {A:Xv}{E:Xy}{s:Xq}
abbrev Pl:=Key ⊕ Xw Key
def kL(h:(cM P w).is x u=true):(∃i t,x=.inl i/\u=.int i t)\/∃z t,x=.inr z/\u=.str z t:=dv h
def MI(P:Xr)(w:Xs)(h:Heap):Pl->Xo->Prop
 |.inl x,u=>(cM P w).is x u=true
 |.inr xs,u=>iB (jm P w) h xs u
def jv(e:A.units<cLine)(h:(cM P w).is x u=true)(g:iB (jm P w) s.heap xs v)(q:Q false s):wpAny (model P w) A (eqBool u v) Q E s/\wpAny (model P w) A (eqBool v u) Q E s:=by
 obtain⟨a,items,rfl,f,_⟩:=g;obtain ⟨i,t,_,rfl⟩|⟨z,t,_,rfl⟩:=kL h
 ·exact⟨SeqAt.EqAt.int_tuple i t f e P w E Q q,SeqAt.EqAt.tuple_int i t f e P w E Q q⟩
 ·exact⟨SeqAt.EqAt.str_tuple z t f e P w E Q q,SeqAt.EqAt.tuple_str z t f e P w E Q q⟩
def An(g:(cM P w).is x u=true)(f:iB (jm P w) h xs u):False:=by
 obtain⟨a,items,rfl,_⟩:=f;rcases kL g with ⟨i,t,_,e⟩|⟨z,t,_,e⟩<;>cases e
def O8(P:Xr)(w:Xs):gI P w Pl where
 is:=MI P w
 hash:=λx=>match x with
  |.inl x=>(cM P w).hash x
  |.inr g=>o4 (jm P w) g
 draws:=λx=>match x with
  |.inl _=>1
  |.inr g=>jM (jm P w) g+1
 room:=λA=>A.units<cLine
 inj:=λ{h u x y} a b=>by
  cases x<;>cases y
  ·exact RP _<|(cM P w).inj _ _ _ a b
  ·exact(An a b).elim
  ·exact(An b a).elim
  ·exact RP _<|iB.inj a b
 eqv:=λ{A E s x y u v Q} f a b q=>by
  cases x<;>cases y
  ·exact(cM P w).eqBool a b (by simpa using q)
  ·exact(jv f a b<|by simpa using q).1
  ·exact(jv f b a<|by simpa using q).2
  ·exact D8 (k:=jm P w) f True.intro a b (by simpa using q)
 hashes:=λ{A E s x u Q} f a q=>by
  cases x
  ·exact(cM P w).pyHash a q
  ·exact xg (k:=jm P w) f True.intro a q
 qd:=1
 quiet:=λ{A E s x u n Q} j a q=>by
  cases x
  ·exact(jm P w).quiet (RQ _) a q
  ·cases n with
   |zero=>exact absurd j<|Vl _
   |succ n=>exact rV (k:=jm P w) (RQ _) a q
 keep:=λ{h l x u} i a=>by
  cases x
  ·exact a
  ·exact iB.keep (k:=jm P w) i a
 txs:=λ{h x y z t u} a b=>by
  cases x
  ·cases y
   ·rw[(jm P w).txs (h:=h) a b]
    exact V1.mpr ⟨λe=>RP _ e,λe=>by injection e⟩
   ·obtain⟨_,_,rfl,_⟩:=b
    exact(QU λe=>by cases e).symm
  ·obtain⟨_,_,e,_⟩:=a
   cases e
end
section
variable {P:Xr}{w:Xs}{κ:Type} [DecidableEq κ]{k:gI P w κ}{A:Xv}{E:Xy}{s:Xq}{d:Xp}{xs:Xw (κ×Xo×Xo)}{x:κ}{u:Xo}{v:Xo}
def zK.ty(h:zK k s.heap d xs):s.TypeIs (.ref d) "dict" :=by
 obtain⟨o,_,_,e,c,_⟩:=h;exact⟨o,e,c.1⟩
structure Lk(k:gI P w κ)(A:Xv)(s:Xq)(d:Xp)(xs:Xw (κ×Xo×Xo))(x:κ)(u:Xo):Prop where
 q8:k.qd<=8
 sh:Sh u
 hu:k.room A.in1
 hx:k.is s.heap x u
 hd:zK k s.heap d xs
 hi:∀e∈xs,k.is s.heap e.1 e.2.1
 nd:(xs.map (·.1)).Nodup
def Dg(L:Lk k A s d xs x u)(h:uS xs x=some e)(q:Q e.2.2 { s with toks:=s.toks+k.draws x }):wpAny (model P w) A (getItem (.ref d) u) Q E s:=by
 unfold getItem;refine Rv (QH<|wpAny_sequenceKey L.hd.ty (by decide)<|QH<|R3 L.hd.ty slot_dict_getitem<|Rt slot_dict_getitem L.hd.ty entry_dict_getitem ?_ (args_dict_getitem _ _));show wpAny _ _ (dictGet d u >>= _) _ _ s;refine QH<|tG L.q8 L.sh L.hu L.hx L.hd L.hi L.nd ?_;rw[h];exact QI ⟨_,rfl,QI q⟩
def has_any(L:Lk k A s d xs x u)(e:(d==sysModules)=false)(q:Q (uS xs x).isSome { s with toks:=s.toks+k.draws x }):wpAny (model P w) A (contains (.ref d) u) Q E s:=by
 unfold contains;refine Rv<|QH<|Te L.hd.ty slot_dict_contains.lookup ?_;rw[QO<|by grind];refine QH<|wpAny_callSpecialUnlessNone?_slot L.hd.ty slot_dict_contains<|Rt slot_dict_contains L.hd.ty entry_dict_contains ?_ (args_dict_contains _ _);show wpAny _ _ (dictGet d u >>= _) _ _ s;refine QH<|tG L.q8 L.sh L.hu L.hx L.hd L.hi L.nd ?_;cases a:uS xs x with
 |some p=>
  rw[a]at q;exact QI ⟨_,rfl,RO q⟩
 |none=>
  rw[a]at q;exact QH<|wpAny_pendingKey_other e<|QI ⟨_,rfl,RO q⟩
def Hk(L:Lk k A s d xs x u)(sz:xs.length<=sizeLine)(q:∀h',zK k h' d (i8 xs x u v)->Heap.SameBut d s.heap h'->Q () { s with heap:=h',toks:=s.toks+k.draws x }):wpAny (model P w) A (setItem (.ref d) u v) Q E s:=by
 unfold setItem;refine Rv (QH<|wpAny_sequenceKey L.hd.ty (by decide)<|QH<|R3 L.hd.ty slot_dict_setitem<|Rt slot_dict_setitem L.hd.ty entry_dict_setitem ?_ (args_dict_setitem _ _ _));refine QH<|TV L.hd.ty ?_;show wpAny _ _ (dictSet d u v >>= _) _ _ s;exact QH<|Aj L.q8 L.sh L.hu L.hx L.hd L.hi L.nd sz λh' e a=>QI ⟨.none,rfl,QI<|q h' e a⟩
def E1(L:Lk k A s d xs x u)(e:(d==sysModules)=false)(q:Q (((uS xs x).map (·.2.2)).getD v) { s with toks:=s.toks+k.draws x }):wpAny (model P w) A (call (.builtin "dict.get") [.ref d,u,v]) Q E s:=by
 refine Rt Ve L.hd.ty Vp ?_ (Vj _ _ _);show wpAny _ _ (dictGet d u >>= _) _ _ s;refine QH<|tG L.q8 L.sh L.hu L.hx L.hd L.hi L.nd ?_;cases a:(uS xs x).map (·.2.2) with
 |some p=>
  rw[a]at q;exact QI ⟨_,rfl,q⟩
 |none=>
  rw[a]at q;exact QH<|wpAny_missed_other e<|QI ⟨_,rfl,q⟩
def rD(L:Lk k A s d xs x u)(g:(d==sysModules)=false)(sz:xs.length<=sizeLine)(q1:∀e,uS xs x=some e->Q e.2.2 { s with toks:=s.toks+k.draws x })(h:uS xs x=none->∀h',zK k h' d (xs++[(x,u,v)])->Heap.SameBut d s.heap h'->Q v { s with heap:=h',toks:=s.toks+k.draws x }):wpAny (model P w) A (call (.builtin "dict.setdefault") [.ref d,u,v]) Q E s:=by
 refine Rt WU L.hd.ty F.entry_dict_setdefault ?_ (F.args_dict_setdefault_3 _ _ _);unfold Builtin.«dict.setdefault»;refine QH ?_;unfold Builtin.Dict.keyAndDefault;refine QH<|TV L.hd.ty ?_;refine QI ?_;show wpAny _ _ (if(d==sysModules)=true then _ else(dictSetDefault d u v >>= _)) _ _ s;rw[QO<|by rw[g];decide];exact QH<|EU L.q8 L.sh L.hu L.hx L.hd L.hi L.nd sz (λe a=>QI ⟨_,rfl,q1 e a⟩) λi h' j f=>QI ⟨v,rfl,h i h' j f⟩
end
def wM(f:(d==sysModules)=false)(e:s.heap.get? d=some o)(g:o.ExactDict)(hd:o.data=.dict es ep)
  (q:Q (.ref s.heap.objs.size) { s with heap:=s.heap.push { cls:=.type "dict_keyiterator",data:=.fields #[.ref d,.int 0 0,.int es.size 0,.int ep 0] } }):wpAny (model P w) A (pyIter<|.ref d) Q E s:=by
 have a:s.TypeIs (.ref d) "dict" :=⟨o,e,g.1⟩;refine Uz a F.slot_dict_iter<|Rt F.slot_dict_iter a F.entry_dict_iter ?_ (F.args_dict_iter_1 _);unfold Builtin.«dict.__iter__» Builtin.Dict.dictSlotNone;refine QH<|QH<|TV a ?_;refine QI ?_;show wpAny _ _ (Builtin.Dict.showsAll d >>= _) _ _ s;unfold Builtin.Dict.showsAll;rw[QO<|by rw[f];decide];refine QH<|QI<|QH<|Sw e hd<|QH<|R8 e hd<|QH<|RS<|QI ⟨_,rfl,"dict_keyiterator",_,⟨_,QX _ rfl,rfl⟩,SS.lookup,?_⟩
 simpa [rawInt] using q
def xf(f:s.heap.IsKeyIter it d i es.size ep)(j:s.heap.get? d=some o)(hd:o.data=.dict es ep)(l:i<es.size)
  (q:∀h',h'.IsKeyIter it d (i+1) es.size ep->Heap.SameBut it s.heap h'->Q (some es[i].key) { s with heap:=h' }):wpAny (model P w) A (pyNext<|.ref it) Q E s:=by
 obtain⟨m,e,h,a⟩:=id f;unfold pyNext;refine QH<|TQ<|R3 f.typeIs SS<|Rt SS f.typeIs Wz ?_ (Wr _);refine QH<|QI<|QH<|QH ?_
 first|refine QH (TC f.typeIs<|QI<|QH<|SQ e a ?_)|refine QH<|Uh f.typeIs<|QI<|QH<|SQ e a ?_
 simp only[show Builtin.Dict_items.ownsTuple "dict_keyiterator" =false by decide,Xm,if_false];show wpAny _ _ (if(Value.ref d==Value.none)=true then _ else _) _ _ s;rw[QO<|show ¬((Value.ref d==Value.none)=true) from bF0];refine QH<|QI<|QH<|Sw j hd ?_;rw[QO<|by simp];refine QH<|QI<|QH<|R8 j hd ?_;rw[QO<|by simp];refine QI ?_;simp only[show ¬((i:Int)<0) from by lia,if_false,Int.toNat_natCast,Array.getElem?_eq_getElem l];refine QH ?_
 first|refine QH (TC f.typeIs<|QI<|QH<|VD f.typeIs ?_)|refine QH<|Uh f.typeIs<|QI<|QH<|VD f.typeIs ?_
 show wpAny _ _ (setField (.ref it) 1 (rawInt<|(i:Int)+1) >>= _) _ _ s;refine QH (Sj e a (by simp) ?_);have g:(s.heap.update it<|Obj.mapFields (·.setIfInBounds 1 (rawInt<|(i:Int)+1))).IsKeyIter it d (i+1) es.size ep:=⟨_,Ss _ e<|VE<|U7 a _,(Obj.cls_mapFields ..).trans h,by rw[U7 a];simp[rawInt]⟩;refine QH<|Rv<|QH<|VD g.typeIs ?_;exact QI<|QI ⟨_,rfl,QI<|q _ g<|Rl ..⟩
def vV(h:A.handled=none)(f:s.heap.IsKeyIter it d i es.size ep)(g:s.heap.get? d=some o)(hd:o.data=.dict es ep)(l:es.size<=i)(q:∀h',Heap.ExtBut it s.heap h'->Q none { s with heap:=h' }):wpAny (model P w) A (pyNext<|.ref it) Q E s:=by
 obtain⟨m,e,j,a⟩:=id f;unfold pyNext;refine QH<|TQ<|R3 f.typeIs SS<|Rt SS f.typeIs Wz ?_ (Wr _);refine QH<|QI<|QH<|QH ?_
 first|refine QH (TC f.typeIs<|QI<|QH<|SQ e a ?_)|refine QH<|Uh f.typeIs<|QI<|QH<|SQ e a ?_
 simp only[show Builtin.Dict_items.ownsTuple "dict_keyiterator" =false by decide,Xm,if_false];show wpAny _ _ (if(Value.ref d==Value.none)=true then _ else _) _ _ s;rw[QO<|show ¬((Value.ref d==Value.none)=true) from bF0];refine QH<|QI<|QH<|Sw g hd ?_;rw[QO<|by simp];refine QH<|QI<|QH<|R8 g hd ?_;rw[QO<|by simp];refine QI ?_;simp only[show ¬((i:Int)<0) from by lia,if_false,Int.toNat_natCast,getElem?_eq_none l];refine QH ?_
 first|refine QH (TC f.typeIs<|QI ?_)|refine QH<|Uh f.typeIs<|QI ?_
 show wpAny _ _ (setField (.ref it) 0 .none >>= _) _ _ s;refine QH (Sj e a (by simp) ?_);refine QH ?_;simp only[newExc,newTuple];refine QH (RS ?_ (by size_fits));refine QH (Vc (by first|rfl| (simp only[firstArgMember];rfl))<|RS ?_ (by size_fits));simp only[raiseNew];refine QH<|wpAny_handled ?_;rw[show A.in1.handled=none from h];refine QH<|QI<|wpAny_throw ?_;refine QH<|Ts ⟨_,QX _ rfl,rfl⟩ Xg ?_;exact QI<|q _<|((Rl ..).extBut.push _).push _
def DM:entryFor table "dict_itemiterator.__iter__" =some Builtin.«dict_keyiterator.__iter__» :=Xh (id':= "dict_keyiterator.__iter__") (by kernel_rfl) rfl (by decide+kernel) (by kernel_rfl)
def DC (e:(d==sysModules)=false) (g:s.heap.get? d=some o) (f:o.ExactDict) (q:Q (.ref s.heap.objs.size) { s with heap:=s.heap.push { cls:=.type "dict_items",data:=.fields #[.ref d] } }):wpAny (model P w) A (call (.builtin "dict.items") [.ref d]) Q E s:=by
 have a:s.TypeIs (.ref d) "dict" :=⟨o,g,f.1⟩;refine Rt F.slot_dict_items a F.entry_dict_items ?_ (F.args_dict_items_1 _);unfold Builtin.«dict.items» Builtin.Dict.noArgs;refine QH<|QH<|TV a ?_;refine QI ?_;unfold Builtin.Dict.showsAll;rw[QO<|by rw[e];decide];exact QH<|QI<|QH<|RS<|QI ⟨_,rfl,q⟩
def Bc(a:s.heap.IsItemsView v d)(g:s.heap.get? d=some o)(hd:o.data=.dict es ep)
  (q:Q (.ref s.heap.objs.size) { s with heap:=s.heap.push { cls:=.type "dict_itemiterator",data:=.fields #[.none,.bool false,.ref d,.int 0 0,.int es.size 0,.int ep 0,.none,.none] } }):wpAny (model P w) A (pyIter<|.ref v) Q E s:=by
 obtain⟨i,f,h,e⟩:=id a;refine Uz a.typeIs F.slot_dict_items_iter<|Rt F.slot_dict_items_iter a.typeIs F.entry_dict_items_iter ?_ (F.args_dict_items_iter_1 _);unfold Builtin.«dict_items.__iter__»;refine QH<|QI<|QH ?_;unfold Builtin.Dict_items.dictOf;refine QH<|WA f e rfl<|QI<|QH ?_;unfold Builtin.Dict_items.newIterator;refine QH<|Sw g hd<|QH<|R8 g hd ?_;simp only[show Builtin.Dict_items.ownsTuple "dict_itemiterator" =true by decide,if_true];refine RS (QI ⟨_,rfl,"dict_itemiterator",_,⟨_,QX _ rfl,rfl⟩,Sb.lookup,?_⟩) (by simp only[sizeOk,Builtin.Dict_items.ownedTupleFields,size_toArray,length_append,length_cons,length_nil,sizeLine_eq];lia)
 simpa [rawInt,Builtin.Dict_items.ownedTupleFields] using q
def BE(p:IsItemIter s.heap it d i es.size ep ok ov)(S:s.heap.get? d=some o)(hd:o.data=.dict es ep)(X:i<es.size)
  (q:∀h',IsItemIterOut h' it d (i+1) es.size ep es[i].key es[i].val s.heap.objs.size->h'.get? s.heap.objs.size=some { cls:=.type "tuple",data:=.seq #[es[i].key,es[i].val] }->h'.objs.size=s.heap.objs.size+1->(∀b o,b≠it->s.heap.get? b=some o->h'.get? b=some o)->Q (some<|.ref s.heap.objs.size) { s with heap:=h' }):wpAny (model P w) A (pyNext<|.ref it) Q E s:=by
 obtain⟨f,g,N,F,H⟩:=s;have h:Shared.TypeIs ⟨f,g,N,F,H⟩ (.ref it) "dict_itemiterator" :=⟨_,p,rfl⟩;unfold pyNext;refine QH<|TQ<|R3 h Sb<|Rt Sb h Ws ?_ (Wm _);refine QH<|QI<|QH<|QH ?_
 first|refine QH (Tu h<|QI<|QH<|SQ p rfl ?_)|refine QH<|Ue h<|QI<|QH<|SQ p rfl ?_
 simp only[show Builtin.Dict_items.ownsTuple "dict_itemiterator" =true by decide,if_true];show wpAny _ _ (if(Value.ref d==Value.none)=true then _ else _) _ _ _;rw[QO<|show ¬((Value.ref d==Value.none)=true) from bF0];refine QH<|QI<|QH<|Sw S hd ?_;rw[QO<|by simp];refine QH<|QI<|QH<|R8 S hd ?_;rw[QO<|by simp];refine QI ?_;simp only[show ¬((i:Int)<0) from by lia,if_false,Int.toNat_natCast,Array.getElem?_eq_getElem X];refine QH ?_
 first|refine QH (Tu h<|QI<|QH<|UA h ?_)|refine QH<|Ue h<|QI<|QH<|UA h ?_
 show wpAny _ _ (setField (.ref it) 3 (rawInt<|(i:Int)+1) >>= _) _ _ ⟨f,g,N,F,H⟩;refine QH (Uo p (by simp) λj B x=>?_)
 replace x:Heap.SameBut it f j:=x
 replace B:IsItemIter j it d (i+1) es.size ep ok ov:=by
  have e:((i+1:Nat):Int)=(i:Int)+1:=by lia
  unfold IsItemIter;rw[e]
  simpa [rawInt] using B
 have m:Shared.TypeIs ⟨j,g,N,F,H⟩ (.ref it) "dict_itemiterator" :=⟨_,B,rfl⟩;refine QH<|Rv<|QH<|UA m<|QH<|UA m ?_;unfold Builtin.Dict_items.pairFromOwner;refine QH<|VT ?_;have n:IsItemIter (j.push { cls:=.type "tuple",data:=.seq #[es[i].key,es[i].val] }) it d (i+1) es.size ep ok ov:=QL _ B;generalize L:j.push { cls:=.type "tuple",data:=.seq #[es[i].key,es[i].val] }=l at n;have J:j.objs.size=f.objs.size:=x.1;have U:l.get? f.objs.size=some { cls:=.type "tuple",data:=.seq #[es[i].key,es[i].val] }:=by
  rw[<-L,<-J];exact QX _ rfl
 have W:l.objs.size=f.objs.size+1:=by rw[<-L,Ui,J]
 have Y:∀b o,b≠it->f.get? b=some o->l.get? b=some o:=λb o a e=>by
  rw[<-L];exact QL _<|x.extBut b o a e
 rw[J];refine QH ?_;unfold Builtin.Dict_items.ownedTupleIsFree;refine QH<|WA n rfl rfl<|QI ?_;simp only[if_true];refine QH (WA n rfl rfl<|QH<|WA n rfl rfl<|QH<|Uo n (by simp) λM O z=>?_)
 replace z:Heap.SameBut it l M:=z
 replace O:IsItemIter M it d (i+1) es.size ep es[i].key ov:=O
 refine QH (Uo O (by simp) λI R v=>?_)
 replace v:Heap.SameBut it M I:=v
 replace R:IsItemIter I it d (i+1) es.size ep es[i].key es[i].val:=R
 refine QH (Uo R (by simp) λK D C=>?_)
 replace C:Heap.SameBut it I K:=C
 replace D:IsItemIterOut K it d (i+1) es.size ep es[i].key es[i].val f.objs.size:=D
 refine QH (Uo D (by simp) λy G r=>?_)
 replace r:Heap.SameBut it K y:=r
 replace G:IsItemIterOut y it d (i+1) es.size ep es[i].key es[i].val f.objs.size:=G
 have T:∀b o,b≠it->l.get? b=some o->y.get? b=some o:=λb o a e=>r.extBut b o a<|C.extBut b o a<|v.extBut b o a<|z.extBut b o a e;refine QH<|Ww<|QI<|QI ⟨_,rfl,QI<|q y G (T _ _ (UH<|Ri p) U) ?_ λb o a e=>T b o a<|Y b o a e⟩;rw[r.1,C.1,v.1,z.1,W]
def Bx(g:A.handled=none)(e:IsItemIter s.heap it d i es.size ep ok ov)(f:s.heap.get? d=some o)(hd:o.data=.dict es ep)(h:es.size<=i)(q:∀h',Heap.ExtBut it s.heap h'->Q none { s with heap:=h' }):wpAny (model P w) A (pyNext<|.ref it) Q E s:=by
 have a:s.TypeIs (.ref it) "dict_itemiterator" :=⟨_,e,rfl⟩;unfold pyNext;refine QH<|TQ<|R3 a Sb<|Rt Sb a Ws ?_ (Wm _);refine QH<|QI<|QH<|QH ?_
 first|refine QH (Tu a<|QI<|QH<|SQ e rfl ?_)|refine QH<|Ue a<|QI<|QH<|SQ e rfl ?_
 simp only[show Builtin.Dict_items.ownsTuple "dict_itemiterator" =true by decide,if_true];show wpAny _ _ (if(Value.ref d==Value.none)=true then _ else _) _ _ s;rw[QO<|show ¬((Value.ref d==Value.none)=true) from bF0];refine QH<|QI<|QH<|Sw f hd ?_;rw[QO<|by simp];refine QH<|QI<|QH<|R8 f hd ?_;rw[QO<|by simp];refine QI ?_;simp only[show ¬((i:Int)<0) from by lia,if_false,Int.toNat_natCast,getElem?_eq_none h];refine QH ?_
 first|refine QH (Tu a<|QI ?_)|refine QH<|Ue a<|QI ?_
 show wpAny _ _ (setField (.ref it) 2 .none >>= _) _ _ s;refine QH (Sj e rfl (by simp) ?_);refine QH ?_;simp only[newExc,newTuple];refine QH (RS ?_ (by size_fits));refine QH (Vc (by first|rfl| (simp only[firstArgMember];rfl))<|RS ?_ (by size_fits));simp only[raiseNew];refine QH<|wpAny_handled ?_;rw[show A.in1.handled=none from g];refine QH<|QI<|wpAny_throw ?_;refine QH<|Ts ⟨_,QX _ rfl,rfl⟩ Xg ?_;exact QI<|q _<|((Rl ..).extBut.push _).push _
end NK
namespace L2
structure KK(P:Xr)(w:Xs)(κ:Type) [DecidableEq κ] where
 k:NK.gI P w κ
 rel:Hp->κ->V->Prop
 mono:∀{H H':Hp}{x:κ}{y:V},(∀b xs,H b=some (.tup xs)->H' b=some (.tup xs))->rel H x y->rel H' x y
 is:∀{H:Hp}{h:Heap}{x:κ}{y:V}{u:Xo},gJ P w H h->rel H x y->RelV y u->k.is h x u
 sh:∀{H:Hp}{x:κ}{y:V}{u:Xo},rel H x y->RelV y u->NK.Sh u
 q8:k.qd<=8
 room:∀{A:Xv},A.units+3<cLine->k.room A.in1
section
variable [DecidableEq κ]
def gL(p:κ×V×V)(q:κ×Xo×Xo):Prop:=p.1=q.1/\RelV p.2.1 q.2.1/\RelV p.2.2 q.2.2
def Dφ(f:KK P w κ)(a:Xp)(XD:Xw (κ×V×V)):Heap->Prop:=λh=>∃e,Paired gL XD e/\NK.zK f.k h a e
def Fz(a:Xp)(o:Obj)(φ:Heap->Prop):Heap->Prop:=λh=>h.get? a=some o/\φ h
def Rx(H:Hp)(a:Xp)(φ:Heap->Prop):Prop:=H a=some (.ext φ)\/∃o,H a=some (.ext<|Fz a o φ)
def Rx.ok(r:Rx H a φ)(x:gJ P w H h):φ h:=by
 obtain r|⟨o,r⟩:=r
 ·exact(show cV P w H h a (.ext φ) from x a _ r).1
 ·exact(show cV P w H h a (.ext<|Fz a o φ) from x a _ r).1.2
structure DD(kk:KK P w κ)(H:Hp)(a:Xp)(XD:Xw (κ×V×V)):Prop where
 h:Rx H a (Dφ kk a XD)
 r:∀e∈XD,kk.rel H e.1 e.2.1
 nd:(XD.map (·.1)).Nodup
 ns:(a==sysModules)=false
 l:XD.length<sizeLine
def jf(XD:Xw (κ×V×V))(x:κ):Xu (κ×V×V):=XD.find? λe=>decide<|e.1=x
def fA(XD:Xw (κ×V×V))(x:κ)(y v:V):Xw (κ×V×V):=if(jf XD x).isSome then XD.map (λe=>if e.1=x then(e.1,e.2.1,v) else e) else XD++[(x,y,v)]
theorem ni{x:κ}:∀{XD:Xw (κ×V×V)}{xs:Xw (κ×Xo×Xo)},Paired gL XD xs->(jf XD x=none/\NK.uS xs x=none)\/∃e f,jf XD x=some e/\NK.uS xs x=some f/\gL e f
 |_,_,.nil=>.inl ⟨rfl,rfl⟩
 |e::XD,f::xs,.cons r t=>by
  unfold jf NK.uS;rw[find?_cons,find?_cons,<-r.1];by_cases h:e.1=x
  ·rw[dT0 h]
   exact .inr ⟨e,f,rfl,rfl,r⟩
  ·rw[QU h]
   exact ni t
theorem vL:∀{XD:Xw (κ×V×V)}{xs:Xw (κ×Xo×Xo)},Paired gL XD xs->xs.map (·.1)=XD.map (·.1)
 |_,_,.nil=>rfl
 |_,_,.cons r t=>by rw[RL,RL,r.1,vL t]
theorem zZ{x:κ}{v:V}{u:Xo}(a:RelV v u):∀{XD:Xw (κ×V×V)}{xs:Xw (κ×Xo×Xo)},Paired gL XD xs->Paired gL (XD.map λe=>if e.1=x then(e.1,e.2.1,v) else e) (xs.map λe=>if e.1=x then(e.1,e.2.1,u) else e)
 |_,_,.nil=>.nil
 |e::_,f::_,.cons r t=>by
  refine .cons ?_ (zZ a t);show gL (if e.1=x then(e.1,e.2.1,v) else e) (if f.1=x then(f.1,f.2.1,u) else f);by_cases h:e.1=x
  ·rw[QR h,QR<|r.1.symm.trans h]
   exact⟨r.1,r.2.1,a⟩
  ·rw[QO h,QO λq=>h<|r.1.trans q]
   exact r
theorem tQ{XD:Xw (κ×V×V)}{xs:Xw (κ×Xo×Xo)}{e:κ×V×V}{f:κ×Xo×Xo}(r:gL e f):Paired gL XD xs->Paired gL (XD++[e]) (xs++[f])
 |.nil=>.cons r .nil
 |.cons q t=>.cons q<|tQ r t
def zk(i:RelV y u)(h:RelV v r){xs:Xw (κ×Xo×Xo)}(p:Paired gL XD xs):Paired gL (fA XD x y v) (NK.i8 xs x u r):=by
 unfold fA NK.i8;obtain ⟨g,a⟩|⟨e,f,g,a,_⟩:=ni p
 ·rw[g,a]
  exact tQ ⟨rfl,i,h⟩ p
 ·rw[g,a]
  exact zZ h p
theorem DN{i:KK P w κ}{H:Hp}{h:Heap}(ok:gJ P w H h):∀{XD:Xw (κ×V×V)}{xs:Xw (κ×Xo×Xo)},Paired gL XD xs->(∀e∈XD,i.rel H e.1 e.2.1)->∀f∈xs,i.k.is h f.1 f.2.1
 |_,_,.nil,_=>λf a=>nomatch a
 |e::_,g::_,.cons r t,hr=>λf a=>by
  obtain rfl|a:=Rq.mp a
  ·rw[<-r.1]
   exact i.is ok (hr e<|.head _) r.2.1
  ·exact DN ok t (λl j=>hr l<|.tail _ j) f a
end
section
variable {X:Cx}{κ:Type} [DecidableEq κ]{kk:KK X.prog X.w κ}{XC:XA}{σ:St}{H:Hp}{s:Xq}{a:Xp}{XD:Xw (κ×V×V)}{x:κ}{y:V}{v:V}{u:Xo}{r:Xo}{A:Xv}{E:Xy}
def lJ(g:A.units+3<cLine)(I:Inv X XC σ H s)(D:DD kk H a XD)(e:kk.rel H x y)(f:RelV y u):∃xs,Paired gL XD xs/\NK.Lk kk.k A s a xs x u:=by
 obtain⟨xs,p,i⟩:=D.h.ok I.hok;exact⟨xs,p,kk.q8,kk.sh e f,kk.room g,kk.is I.hok e f,i,DN I.hok p D.r,by rw[vL p];exact D.nd⟩
def zV(o:A.units+3<cLine)(I:Inv X XC σ H s)(D:DD kk H a XD)(m:kk.rel H x y)(q:RelV y u)(g:jf XD x=some e)(h:∀j s',Inv X XC σ H s'->RelV e.2.2 j->Q j s'):wpAny (model X.prog X.w) A (getItem (.ref a) u) Q E s:=by
 obtain⟨r,p,L⟩:=lJ o I D m q;obtain ⟨i,_⟩|⟨v,f,i,l,n⟩:=ni (x:=x) p
 ·grind
 ·rw[g]at i
  cases i;exact NK.Dg L l<|h _ _ (I.tok _) n.2.2
def CM(j:A.units+3<cLine)(I:Inv X XC σ H s)(D:DD kk H a XD)(i:kk.rel H x y)(l:RelV y u)(h:∀s',Inv X XC σ H s'->Q (jf XD x).isSome s'):wpAny (model X.prog X.w) A (contains (.ref a) u) Q E s:=by
 obtain⟨m,p,L⟩:=lJ j I D i l;refine NK.has_any L D.ns ?_;obtain ⟨g,e⟩|⟨o,f,g,e,n⟩:=ni p
 ·rw[e]
  rw[g]at h;exact h _<|I.tok _
 ·rw[e]
  rw[g]at h;exact h _<|I.tok _
def dφ_ok(p:Paired gL kvs' xs)(f:NK.zK kk.k h' a xs):cV X.prog X.w H' h' a (.ext<|Dφ kk a kvs'):=by
 refine⟨⟨xs,p,f⟩,let ⟨o,_,_,e,_⟩:=f;⟨o,e⟩,λj i q k=>?_⟩;obtain⟨xs,p,o,h,g,e,c⟩:=q;exact⟨xs,p,o,h,g,k _ e,c⟩
def C6{Q:Xz}(j:A.units+3<cLine)(I:Inv X XC σ H s)(D:DD kk H a XD)(hm:H a=some (.ext<|Dφ kk a XD))(i:kk.rel H x y)(f:RelV y u)(n:RelV v r)(h:∀s',Inv X XC σ (upd H a<|.ext<|Dφ kk a<|fA XD x y v) s'->Q () s'):wpAny (model X.prog X.w) A (setItem (.ref a) u r) Q E s:=by
 obtain⟨z,p,L⟩:=lJ j I D i f;have l:=D.l;exact NK.Hk L (by rw[<-RY p];lia) λq g m=>h _ <| kh I (by rw[hm];exact True.intro) m (let ⟨o,_,_,e,_⟩:=g;⟨o,e⟩) (dφ_ok (zk f n p) g)
end
def iF(H:Hp):NK.Pl->V->Prop
 |.inl (.inr z),y=>y=.str z
 |.inl (.inl _),_=>False
 |.inr ks,y=>∃b,y=.ref b/\H b=some (.tup<|ks.map kV)
def iF.mono{H H':Hp}(a:∀b xs,H b=some (.tup xs)->H' b=some (.tup xs)):∀{x:NK.Pl}{y:V},iF H x y->iF H' x y
 |.inl (.inr _),_,h=>h
 |.inl (.inl _),_,h=>h
 |.inr _,_,⟨b,e,hb⟩=>⟨b,e,a _ _ hb⟩
theorem D9{h:Heap}:∀{e:Xw Key}{us:Xw Xo},ItemsAre (cM P w) e us->NK.qJ (NK.jm P w) h e us
 |_,_,.nil=>.nil
 |_,_,.cons a b=>.cons a<|D9 b
def iF.is{H:Hp}{h:Heap}(ok:gJ P w H h):∀{x:NK.Pl}{y:V}{u:Xo},iF H x y->RelV y u->NK.MI P w h x u
 |.inl (.inr z),_,u,e,r=>by
  cases e;obtain⟨t,rfl⟩:=(show ∃t,u=Value.str z t from r);exact nZ P w z t
 |.inl (.inl _),_,_,e,_=>e.elim
 |.inr ks,_,u,⟨b,e,hb⟩,r=>by
  cases e;cases (show u=Value.ref b from r);obtain⟨o,items,n,f,g,a,i⟩:=jX ok hb;exact⟨b,items,rfl,⟨o,f,g,n,a⟩,D9 i⟩
def iF.sh{H:Hp}:∀{x:NK.Pl}{y:V}{u:Xo},iF H x y->RelV y u->NK.Sh u
 |.inl (.inr z),_,u,e,r=>by
  cases e;obtain⟨t,rfl⟩:=(show ∃t,u=Value.str z t from r);exact .inl ⟨z,t,rfl⟩
 |.inl (.inl _),_,_,e,_=>e.elim
 |.inr ks,_,u,⟨b,e,hb⟩,r=>by
  cases e;cases (show u=Value.ref b from r);exact .inr ⟨b,rfl⟩
def eQ(P:Xr)(w:Xs):KK P w NK.Pl where
 k:=NK.O8 P w
 rel:=iF
 mono:=λa h=>h.mono a
 is:=λok h r=>h.is ok r
 sh:=λh r=>h.sh r
 q8:=by show 1<=8;decide
 room:=λ{A} h=>(by have e:A.units+3<cLine:=h;show A.units+1<cLine;lia)
def Ov(H:Hp)(x:Xw NK.Pl)(y:V):Prop:=∃b a,y=.ref b/\H b=some (.tup a)/\Paired (iF H) x a
theorem E9{H:Hp}{h:Heap}(ok:gJ P w H h):∀{xs:Xw NK.Pl}{ys:Xw V}{us:Xw Xo},Paired (iF H) xs ys->Vals ys us->NK.qJ (NK.O8 P w) h xs us
 |_,_,_,.nil,.nil=>.nil
 |_,_,_,.cons a b,.cons r t=>.cons (a.is ok r)<|E9 ok b t
def nC(P:Xr)(w:Xs):KK P w (Xw NK.Pl) where
 k:=NK.ON<|NK.O8 P w
 rel:=Ov
 mono:=λg ⟨b,f,e,a,p⟩=>⟨b,f,e,g _ _ a,Paired.Dh p λ_ _ q=>q.mono g⟩
 is:=λ{H h x y u} ok ⟨b,f,e,a,p⟩ r=>by
  subst e;cases (show u=Value.ref b from r);obtain⟨_,v,j,o,l,m,n,i⟩:=ok b _ a;exact⟨b,_,rfl,⟨o,l,m,n,i⟩,E9 ok p j⟩
 sh:=λ{H x y u} ⟨b,f,e,a,p⟩ r=>by
  subst e;cases (show u=Value.ref b from r);exact .inr ⟨b,rfl⟩
 q8:=by show 2<=8;decide
 room:=λ{A} h=>(by have s:A.units+3<cLine:=h;exact⟨by show A.units+1<cLine;lia,by show A.units+1+1<cLine;lia⟩)
section
variable [DecidableEq κ]
inductive Al(f:KK P w κ)(x y:V)(H:Hp)(Q:VK):Prop
 |mk(a:Xp)(XD:Xw (κ×V×V))(k:κ)(e:κ×V×V)(h:x=.ref a)(D:DD f H a XD)(r:f.rel H k y)(g:jf XD k=some e)(q:Q e.2.2 H)
inductive ME(e:KK P w κ)(x y:V)(H:Hp)(Q:Bool->Prop):Prop
 |mk(a:Xp)(XD:Xw (κ×V×V))(k:κ)(f:x=.ref a)(D:DD e H a XD)(r:e.rel H k y)(q:Q (jf XD k).isSome)
inductive wg(e:KK P w κ)(x y v:V)(H:Hp)(Q:Hp->Prop):Prop
 |mk(a:Xp)(XD:Xw (κ×V×V))(k:κ)(f:x=.ref a)(D:DD e H a XD)(hm:H a=some (.ext (Dφ e a XD)))(r:e.rel H k y)(q:Q (upd H a (.ext (Dφ e a (fA XD k y v)))))
def AA(f:KK P w κ)(e ty:TE):TE:=λσ H Q=>e σ H λx H1=>ty σ H1 λy a=>Al f x y a Q
def F6(f:KK P w κ)(ty e:TE):TE:=λσ H Q=>ty σ H λy H1=>e σ H1 λx a=>ME f x y a λb=>Q (.bl b) a
def oJ(f:KK P w κ)(ty e:TE):TE:=λσ H Q=>ty σ H λy H1=>e σ H1 λx a=>ME f x y a λb=>Q (.bl<|!b) a
def AK(h:KK P w κ)(g ty a:TE):TS:=λD σ H=>a σ H λv H1=>g σ H1 λx f=>ty σ f λy i=>wg h x y v i λe=>D.nx σ e
def CW(e:KK P w κ)(h ty f:TE)(rd:V->V->Hp->VK->Prop):TS:=λD σ H=>h σ H λx H1=>ty σ H1 λy a=>Al e x y a λv a=>f σ a λj i=>rd v j i λz g=>wg e x y z g λl=>D.nx σ l
def Ad(a:KK P w κ):TE:=λ_ H Q=>∀p,H p=none->(p==sysModules)=false->Q (.ref p) (upd H p<|.ext<|Dφ a p [])
end
section
variable {X:Cx} [DecidableEq κ]{kk:KK X.prog X.w κ}
def DD.ty(I:Inv X XC σ H s)(D:DD kk H a XD):s.TypeIs (.ref a) "dict" :=by
 obtain⟨f,p,e⟩:=D.h.ok I.hok;exact e.ty
end
section
variable {X:Cx}{κ:Type} [DecidableEq κ]{kk:KK X.prog X.w κ}{o:Expr}{i:Expr}{e:Expr}{value:Expr}{pos:Pos}{XU:Pos}{Yl:Pos}{td:TE}{ty:TE}{tv:TE}
def F4(w:X.A.units+3<cLine)(v:PE X o td)(F:PE X i ty)(C:KR i):PE X (.Subscript o i pos) (AA kk td ty):=by
 intro m s σ H Q I h;refine AI Wj.lookup C<|cX (v m s σ H _ I h) λu z ⟨x,H1,p,B,q1⟩=>cX (F m z σ H1 _ p q1) λO L f=>?_;obtain⟨y,G,l,E,a,N,k,e,n,D,r,g,J⟩:=f;subst n;obtain rfl:u=Value.ref a:=B;exact⟨D.ty l,zV w l D r E g λK M q j=>⟨_,G,q,j,J⟩⟩
def Jz(p:X.A.units+3<cLine)(z:PE X i ty)(n:PE X o td):PC X .In i o (F6 kk ty td):=by
 intro f s σ H Q I h;refine cX (z f s σ H _ I h) λJ q ⟨y,H1,j,w,q1⟩=>cX (n f q σ H1 _ j q1) λu E e=>?_;obtain⟨x,B,m,v,a,G,k,g,D,r,C⟩:=e;subst g;obtain rfl:u=Value.ref a:=v;exact QH<|CM p m D r w λF l=>QI ⟨.bl _,B,l,rfl,C⟩
def Bv(p:X.A.units+3<cLine)(z:PE X i ty)(n:PE X o td):PC X .NotIn i o (oJ kk ty td):=by
 intro f s σ H Q I h;refine cX (z f s σ H _ I h) λJ q ⟨y,H1,j,w,q1⟩=>cX (n f q σ H1 _ j q1) λu E e=>?_;obtain⟨x,B,m,v,a,G,k,g,D,r,C⟩:=e;subst g;obtain rfl:u=Value.ref a:=v;exact QH<|CM p m D r w λF l=>QI ⟨.bl _,B,l,rfl,C⟩
def Ft(C:X.A.units+3<cLine)(B:PE X o td)(L:PE X i ty)(O:PE X value tv)(G:swapsWith value (some<|.Subscript o i XU) pos.line X.env=pure false):PS X (.Assign [.Subscript o i XU] value pos) (AK kk td ty tv):=by
 intro f s σ H D I h;refine wpAny_Assign_Subscript (cX (O f s σ H _ I h) λr E ⟨v,H1,m,z,q1⟩=>cX (B f E σ H1 _ m q1) λu p ⟨x,N,w,F,P⟩=>cX (L f p σ N _ w P) λU S e=>?_) G;obtain⟨y,R,n,J,a,T,k,g,K,M,j,q⟩:=e;subst g;obtain rfl:u=Value.ref a:=F;exact C6 C n K M j J z λQ l=>⟨σ,_,l,q⟩
def GZ(C:X.A.units+3<cLine)(U:PE X o td)(hi:PE X i ty)(hv:PE X value tv)(q:Ds X op rd)
  (ha:∀m l j,augStore i m l j=(do holding [j,m,l] (setItem m l j);release [j,m,l] [];pure .next)):PS X (.AugAssign (.Subscript o i Yl) op value pos) (CW kk td ty tv rd):=by
 intro n s σ H D I h;refine wpAny_AugAssign_SubscriptAny (cX (U n s σ H _ I h) λu Y ⟨x,H1,M,Z,q1⟩=>cX (hi n Y σ H1 _ M q1) λl s2 f=>?_) ha;obtain⟨y,H2,R,E,a,XD,k,e,F,D',r,g,q2⟩:=f;subst F;obtain rfl:u=Value.ref a:=Z;refine zV C R D' r E g λJ s3 O v=>cX (hv n s3 σ H2 _ O q2) λw2 G ⟨y2,N,K,w,Q⟩=>cX (q n G σ N _ y2 J w2 _ K v w Q) λw3 s5 f=>?_;obtain⟨z,H4,P,rz,a',B,k',p,L,hm,T,W⟩:=f;cases p;exact C6 C P L hm T E rz λs6 S=>⟨σ,_,S,W⟩
end
section
variable {X:Cx}{κ:Type} [DecidableEq κ]{kk:KK X.prog X.w κ}{XC:XA}{σ:St}{H:Hp}{s:Xq}{a:Xp}{XD:Xw (κ×V×V)}{x:κ}{y:V}{v:V}{u:Xo}{r:Xo}{A:Xv}{E:Xy}
def Gh{Q:Xy}(m:A.units+3<cLine)(I:Inv X XC σ H s)(D:DD kk H a XD)(j:kk.rel H x y)(n:RelV y u)(o:RelV v r)(h:∀i s',Inv X XC σ H s'->RelV (((jf XD x).map (·.2.2)).getD v) i->Q i s'):wpAny (model X.prog X.w) A (call (.builtin "dict.get") [.ref a,u,r]) Q E s:=by
 obtain⟨q,p,L⟩:=lJ m I D j n;refine NK.E1 L D.ns<|h _ _ (I.tok _) ?_;obtain ⟨g,e⟩|⟨z,f,g,e,l⟩:=ni (x:=x) p
 ·rw[g,e]
  exact o
 ·rw[g,e]
  exact l.2.2
def Gv(M:A.units+3<cLine)(I:Inv X XC σ H s)(D:DD kk H a XD)(hm:H a=some (.ext<|Dφ kk a XD))(K:kk.rel H x y)(m:RelV y u)(J:RelV v r)(C:∀e,jf XD x=some e->∀j s',Inv X XC σ H s'->RelV e.2.2 j->Q j s')(z:jf XD x=none->∀s',Inv X XC σ (upd H a<|.ext<|Dφ kk a<|XD++[(x,y,v)]) s'->Q r s'):wpAny (model X.prog X.w) A (call (.builtin "dict.setdefault") [.ref a,u,r]) Q E s:=by
 obtain⟨O,p,L⟩:=lJ M I D K m;have l:=D.l;obtain ⟨i,h⟩|⟨G,f,i,h,F⟩:=ni p
 ·exact NK.rD L D.ns (by rw[<-RY p];lia) (λe g=>by rw[h]at g;cases g) λ_ N q B=>z i _ <| kh I (by rw[hm];exact True.intro) B (let ⟨o,_,_,e,_⟩:=q;⟨o,e⟩) (dφ_ok (tQ ⟨rfl,m,J⟩ p) q)
 ·refine NK.rD L D.ns (by rw[<-RY p];lia) (λe g=>?_) λn=>by rw[h]at n;cases n
  rw[h]at g;cases g;exact C G i _ _ (I.tok _) F.2.2
end
section
variable [DecidableEq κ]
inductive PZ(e:KK P w κ)(x:V)(H:Hp)(G:Xp->Prop):Prop
 |mk(a:Xp)(XD:Xw (κ×V×V))(f:x=.ref a)(D:DD e H a XD)(q:G a)
inductive Pq(e:KK P w κ)(a:Xp)(y z:V)(H:Hp)(Q:VK):Prop
 |mk(XD:Xw (κ×V×V))(k:κ)(D:DD e H a XD)(r:e.rel H k y)(q:Q (((jf XD k).map (·.2.2)).getD z) H)
inductive Oc(f:KK P w κ)(a:Xp)(y z:V)(H:Hp)(Q:VK):Prop
 |mk(XD:Xw (κ×V×V))(k:κ)(D:DD f H a XD)(hm:H a=some (.ext (Dφ f a XD)))(r:f.rel H k y)(q1:∀e,jf XD k=some e->Q e.2.2 H)(g:jf XD k=none->Q z (upd H a (.ext (Dφ f a (XD++[(k,y,z)])))))
def xK(e:KK P w κ)(g ty h:TE):TE:=λσ H Q=>g σ H λx H1=>PZ e x H1 λa=>ty σ H1 λy f=>h σ f λz i=>Pq e a y z i Q
def xV(e:KK P w κ)(g ty h:TE):TE:=λσ H Q=>g σ H λx H1=>PZ e x H1 λa=>ty σ H1 λy f=>h σ f λz i=>Oc e a y z i Q
end
section
variable {X:Cx}{κ:Type} [DecidableEq κ]{kk:KK X.prog X.w κ}{o:Expr}{e:Expr}{f:Expr}{pos:Pos}{XH:Pos}{XG:Pos}{td:TE}{tk:TE}{tx:TE}
def GQ:PE X (.Dict [] [] pos) (Ad kk):=λa s σ H Q I h=>
 Wo ⟨.ref s.heap.objs.size,_,I.laid (t':=s.toks) (λ_ _ q=>QL _ q) (QP _)<|dφ_ok .nil ⟨_,#[],0,QX _ rfl,⟨rfl,rfl,rfl⟩,rfl,rfl⟩,rfl,h _ (I.hok.fresh<|QP _)<|R9.mpr<|To<|Rb I.big⟩
def DD.no{g:XA}{σ:St}{H:Hp}{s:Xq}{a:Xp}{XD:Xw (κ×V×V)}(I:Inv X g σ H s)(D:DD kk H a XD):∀b,Value.ref a=.ref b->∃ob,s.heap.get? b=some ob/\ob.dict=none:=λb q=>by
 cases q;obtain⟨i,p,ob,_,_,f,e,_⟩:=D.h.ok I.hok;exact⟨ob,f,e.2.1⟩
def Dz (G:X.A.units+3<cLine) (F:PE X o td) (he:PE X e tk) (hf:PE X f tx) (m:M2 X o "get" XH e f XG):PE X (.Call (.Attribute o "get" XH) [e,f] [] XG) (xK kk td tk tx):=by
 intro l s σ H Q I h;refine Wf m.base m.L1 m.line VH Ve WZ<|cX (F l s σ H _ I h) λu J g=>?_;obtain⟨x,H1,i,K,a,U,p,D,q1⟩:=g;subst p;obtain rfl:u=Value.ref a:=K;refine⟨D.ty i,D.no i,?_⟩;rw[m.trees];refine TF rfl<|UJ<|SH<|cX (he l J σ H1 _ i q1) λW B ⟨y,O,E,M,P⟩=>SH<|cX (hf l B σ O _ E P) λY T g=>Uv ?_;obtain⟨z,v,w,N,n,k,L,r,C⟩:=g;exact Gh G w L r M N λS R q j=>⟨_,v,q,j,C⟩
def ER (N:X.A.units+3<cLine) (L:PE X o td) (n:PE X e tk) (hf:PE X f tx) (m:M2 X o "setdefault" XH e f XG):PE X (.Call (.Attribute o "setdefault" XH) [e,f] [] XG) (xV kk td tk tx):=by
 intro p s σ H Q I h;refine Wf m.base m.L1 m.line VH WU PySem.F.type_dict_setdefault<|cX (L p s σ H _ I h) λu O g=>?_;obtain⟨x,H1,j,P,a,XD,w,D,q1⟩:=g;subst w;obtain rfl:u=Value.ref a:=P;refine⟨D.ty j,D.no j,?_⟩;rw[m.trees];refine TF rfl<|UJ<|SH<|cX (n p O σ H1 _ j q1) λiv J ⟨y,W,K,S,Y⟩=>SH<|cX (hf p J σ W _ K Y) λfv s3 g=>Uv ?_;obtain⟨z,C,E,v,q,k,R,U,r,M,G⟩:=g;exact Gv N E R U r S v (λe n Z B i l=>⟨_,C,i,l,M e n⟩) λT B i=>⟨z,_,i,v,G T⟩
end
def IV(e:h.get? a=some o)(x:cV P w H h a (.ext φ)):cV P w H' h a (.ext<|Fz a o φ):=⟨⟨e,x.1⟩,x.2.1,λ_ _ q k=>⟨k _ q.1,x.2.2 _ _ q.2 k⟩⟩
section
variable [DecidableEq κ]
def Qc(a:KK P w κ)(d:Xp)(o:Obj)(XD:Xw (κ×V×V)):It:=⟨λi H=>H d=some (.ext<|Fz d o<|Dφ a d XD)/\i<XD.length,λi H x f=>f=H/\∃e,XD[i]? =some e/\x=e.2.1,λi H=>H d=some (.ext<|Fz d o<|Dφ a d XD)/\XD.length<=i⟩
theorem uT:∀{XD:Xw (κ×V×V)}{xs:Xw (κ×Xo×Xo)},Paired gL XD xs->∀{i:Nat}{e:κ×V×V},XD[i]? =some e->∃f,xs[i]? =some f/\gL e f
 |_,_,.nil,_,_,h=>by cases h
 |_,_,.cons r t,0,_,h=>by
  cases h;exact⟨_,rfl,r⟩
 |_,_,.cons r t,i+1,_,h=>uT t (i:=i) h
def Kt{K:Frag}{tg:Expr}(q:KK P w κ)(d it:Xp)(o:Obj)(es:Array DictEntry)(ep:Nat)(XD:Xw (κ×V×V))(hd:o.data=.dict es ep):Turn P w K tg (Qc q d o XD) [it] it (λi h=>h.IsKeyIter it d i XD.length ep) where
 mem:=by simp
 obj:=λi h a b g=>by
  have e:b=it:=by simpa using g
  subst e;obtain⟨o,e,c,d⟩:=a;grind
 keep:=λi h A a k=>a.at λo e=>k it (by simp) o e
 item:=by
  intro X N J D S i T s σ H E I v a y;subst N J D;obtain⟨B,Q⟩:=y;obtain⟨⟨m,xs,p,o',X4,G,l,W,n,r⟩,_,_⟩:=(show cV X.prog X.w H s.heap d (.ext<|Fz d o<|Dφ q d XD) from I.hok d _ B);rw[m]at l;cases l;rw[hd]at n;cases n;have sz:es.size=XD.length:=by rw[<-QZ,r,QM,<-RY p]
  have j:i<es.size:=by lia
  obtain⟨e,R⟩:∃e,XD[i]? =some e:=⟨_,QJ Q⟩;obtain⟨f,F,rf⟩:=uT p R;have Z:es[i].key=f.2.1:=by
   have:es[i]? =some (NK.ent q.k f):=by rw[<-Rc,r,QY,F];rfl
   rw[RB j]at this;rw[Rr this];rfl
  obtain⟨z,C,f2,O,M,L⟩:=v it (by simp);refine NK.xf (by rw[sz];exact a) m hd j λA x sb=>?_;rw[sz]at x;have Y:Inv X T σ H { s with heap:=A }:=I.turned (t':=s.toks) (λb o g e=>(sb.2 b g).trans e) z C O M L;obtain⟨o2,e2,c2,U⟩:=id x;exact⟨_,rfl,rK e2 c2 U (by decide) ⟨e.2.1,H,Y,by rw[Z];exact rf.2.1,⟨rfl,e,R,rfl⟩,x,λb g=>(v b g).1⟩⟩
 done:=by
  intro X N J D S i T s σ H E I v a y;subst N J D;obtain⟨B,Q⟩:=y;obtain⟨⟨m,xs,p,o',X4,G,l,W,n,r⟩,_,_⟩:=(show cV X.prog X.w H s.heap d (.ext<|Fz d o<|Dφ q d XD) from I.hok d _ B);rw[m]at l;cases l;rw[hd]at n;cases n;have sz:es.size=XD.length:=by rw[<-QZ,r,QM,<-RY p]
  obtain⟨z,C,f2,O,M,L⟩:=v it (by simp);exact NK.vV (I.ok.hd S) (by rw[sz];exact a) m hd (by lia) λA eb=>⟨rfl,I.turned (t':=s.toks) (λb o g e=>eb b o g e) z C O M L⟩
 self:=λ_ _ _ _ _ a h=>wpAny_pyIter_keyiter a h
inductive Qq(a:KK P w κ)(x:V)(H:Hp)(R:It->Hp->Prop):Prop
 |mk(d:Xp)(XD:Xw (κ×V×V))(e:x=.ref d)(D:DD a H d XD)(q:∀(o:Obj)(H':Hp),(∀b,b≠d->H' b=H b)->H' d=some (.ext (Fz d o (Dφ a d XD)))->R (Qc a d o XD) H')
def iQ(e:KK P w κ)(a:TE):TI:=λσ H R=>a σ H λx H1=>Qq e x H1 R
end
section
variable {X:Cx} [DecidableEq κ]{kk:KK X.prog X.w κ}{tg:Expr}
def Gj{l:Expr}(N:PE X l tl):PI X tg l (iQ kk tl):=by
 intro E s σ H R I h;refine cX (N E s σ H _ I h) λv a g=>?_;obtain⟨x,H1,z,K,d,i,e,D,q⟩:=g;subst e;cases K;obtain⟨Q,p,o,C,F,j,J,m,G⟩:=id<|D.h.ok z.hok;have sz:C.size=i.length:=by rw[<-QZ,G,QM,<-RY p]
 have n:∀f:Hp,Inv X E σ f a->(∀b,b≠d->f b=H1 b)->f d=some (.ext<|Fz d o<|Dφ kk d i)->wpAny (model X.prog X.w) X.A (pyIter<|.ref d) (My X E σ tg R) X.xe a:=λf B O M=>by
  refine NK.wM D.ns j J m ⟨a.heap.objs.size,[a.heap.objs.size],_,_,f,rfl,B.kept (t':=a.toks) λb o e=>QL _ e,Kt kk d _ o C F i m,⟨_,QX _ rfl,rfl,by rw[sz];rfl⟩,λb y=>?_,q o f O M⟩;have e:b=a.heap.objs.size:=by simpa using y
  subst e;exact B.uj (QP _)<|B.hok.fresh<|QP _
 obtain r|⟨L,r⟩:=D.h
 ·exact n (upd H1 d<|.ext<|Fz d o<|Dφ kk d i) (z.write (t':=a.toks) (by rw[r];trivial) (.inl rfl) (λ_ _ _ e=>e) ⟨o,j⟩<|IV j<|dφ_ok (H':=H1) p ⟨o,C,F,j,J,m,G⟩) (λb y=>cG y) cE
 ·obtain⟨⟨P,_⟩,_⟩:=(show cV X.prog X.w H1 a.heap d (.ext<|Fz d L<|Dφ kk d i) from z.hok d _ r)
  grind
end
section
variable [DecidableEq κ]
def CH(a:KK P w κ)(d:Xp)(o:Obj)(XD:Xw (κ×V×V)):It:=⟨λi H=>H d=some (.ext<|Fz d o<|Dφ a d XD)/\i<XD.length,λi H v f=>∃p e,H p=none/\v=.ref p/\f=upd H p (.tup [e.2.1,e.2.2])/\XD[i]? =some e,λi H=>H d=some (.ext<|Fz d o<|Dφ a d XD)/\XD.length<=i⟩
def Gg{K:Frag}{ts:Xw Expr}{tk:Nat}{tp:Pos}(m:KK P w κ)(d it:Xp)(o:Obj)(es:Array DictEntry)(ep:Nat)(XD:Xw (κ×V×V))(hd:o.data=.dict es ep):Turn P w K (.Tuple ts tk tp) (CH m d o XD) [it] it (λi h=>∃ok l,IsItemIter h it d i XD.length ep ok l) where
 mem:=by simp
 obj:=λi h a b j=>by
  have e:b=it:=by simpa using j
  subst e;obtain⟨ok,l,e⟩:=a;exact⟨_,e,λv z=>by cases z⟩
 keep:=λi h h' a k=>by
  obtain⟨ok,l,e⟩:=a;exact⟨ok,l,k it (by simp) _ e⟩
 item:=by
  intro X T R L hc i XC s σ H E I C a D;subst T R L;obtain⟨J,Z⟩:=D;obtain⟨ok,l,a⟩:=a;obtain⟨⟨x,xs,p,o',X4,N,r,h2,y,B⟩,_,_⟩:=(show cV X.prog X.w H s.heap d (.ext<|Fz d o<|Dφ m d XD) from I.hok d _ J);rw[x]at r;cases r;rw[hd]at y;cases y;have sz:es.size=XD.length:=by rw[<-QZ,B,QM,<-RY p]
  have n:i<es.size:=by lia
  obtain⟨e,he⟩:∃e,XD[i]? =some e:=⟨_,QJ Z⟩;obtain⟨f,M,Y⟩:=uT p he;have ek:es[i]=NK.ent m.k f:=by
   have:es[i]? =some (NK.ent m.k f):=by rw[<-Rc,B,QY,M];rfl
   rw[RB n]at this;exact Rr this
  have U:it<s.heap.objs.size:=Ri a;refine NK.BE (es:=es) (by rw[sz];exact a) x hd n λg G tup gz kp=>⟨_,rfl,wpAny_letOwnedTupleGo_items G λg2 S sb=>?_⟩;have hn:H s.heap.objs.size=none:=I.hok.fresh<|QP _;have I2:Inv X XC σ (upd H s.heap.objs.size<|.tup [e.2.1,e.2.2]) { s with heap:=g2,toks:=s.toks }:=by
   refine I.rX (fp:=[it]) C (λb u j q=>?_) (QP _) (λb j=>?_) ⟨by show 2<=sizeLine;decide,[f.2.1,f.2.2],.cons Y.2.1<|.cons Y.2.2 .nil,?_⟩
   ·have W:b≠it:=λz=>j (by rw[z];simp)
    exact sb.extBut b u W<|kp b u W q
   ·have z:b=it:=by simpa using j
    subst z;exact⟨_,a⟩
   ·rw[ek]at tup
    exact⟨_,sb.extBut _ _ (UH U) tup,rfl,_,rfl⟩
  refine⟨.ref s.heap.objs.size,_,I2,rfl,⟨_,e,hn,rfl,rfl,he⟩,⟨_,_,by rw[<-sz];exact S⟩,λb j=>?_⟩;have z:b=it:=by simpa using j
  subst z;rw[cG<|Rb U];exact(C b j).1
 done:=by
  intro X T R L hc i XC s σ H E I C a D;subst T R L;obtain⟨J,Z⟩:=D;obtain⟨ok,l,a⟩:=a;obtain⟨⟨x,xs,p,o',X4,N,r,h2,y,B⟩,_,_⟩:=(show cV X.prog X.w H s.heap d (.ext<|Fz d o<|Dφ m d XD) from I.hok d _ J);rw[x]at r;cases r;rw[hd]at y;cases y;have sz:es.size=XD.length:=by rw[<-QZ,B,QM,<-RY p]
  obtain⟨f0,f1,f2,f3,f4,f5⟩:=C it (by simp);exact NK.Bx (es:=es) (I.ok.hd hc) (by rw[sz];exact a) x hd (by lia) λh' eb=>⟨rfl,I.turned (t':=s.toks) (λb o j e=>eb b o j e) f0 f1 f3 f4 f5⟩
 self:=λA i s Q E a h=>by
  obtain⟨ok,l,a⟩:=a;have O:s.TypeIs (.ref it) "dict_itemiterator" :=⟨_,a,rfl⟩;refine Uz O Vv<|Rt Vv O NK.DM ?_ (PySem.F.args_dict_itemiterator_iter_1 _);show wpAny _ _ (ret<|.ref it) _ _ s;exact QI ⟨_,rfl,"dict_itemiterator",_,O,Sb.lookup,h⟩
inductive Pu(a:KK P w κ)(x:V)(H:Hp)(R:It->Hp->Prop):Prop
 |mk(d:Xp)(XD:Xw (κ×V×V))(e:x=.ref d)(D:DD a H d XD)(q:∀(o:Obj)(H':Hp),(∀b,b≠d->H' b=H b)->H' d=some (.ext (Fz d o (Dφ a d XD)))->R (CH a d o XD) H')
def Pj(e:KK P w κ)(a:TE):TI:=λσ H R=>a σ H λx H1=>Pu e x H1 R
end
section
variable {X:Cx}{κ:Type} [DecidableEq κ]{kk:KK X.prog X.w κ}{ts:Xw Expr}{tn:Nat}{tp:Pos}{XH:Pos}{XG:Pos}
def DT {l:Expr}{J:TE}(T:PE X l J) (N:attributeBase l "items" X.env (eval l X.env)=eval l X.env) (S:(XH.endLine==XG.line)=true):PI X (.Tuple ts tn tp) (.Call (.Attribute l "items" XH) [] [] XG) (Pj kk J):=by
 intro G s σ H R I h;refine wpAny_Call_method0_late N S<|cX (T G s σ H _ I h) λv a m=>?_;obtain⟨x,H1,i,M,d,g,e,D,q⟩:=m;subst e;cases M;refine⟨"dict","dict.items",VH,PySem.F.slot_dict_items,PySem.F.type_dict_items,D.ty i,D.no i,TF rfl<|PySem.evalArgs_none ?_⟩;obtain⟨W,p,o,B,C,j,L,n,K⟩:=id<|D.h.ok i.hok;have sz:B.size=g.length:=by rw[<-QZ,K,QM,<-RY p]
 refine NK.DC D.ns j L ?_;have E:(a.heap.push { cls:=.type "dict_items",data:=.fields #[.ref d] }).get? d=some o:=QL _ j;refine NK.Bc ⟨_,QX _ rfl,rfl,rfl⟩ E n ?_;rw[sz];have le:a.heap.objs.size<=(a.heap.push { cls:=.type "dict_items",data:=.fields #[.ref d] }).objs.size:=by simp_all
 have y:∀f:Hp,Inv X G σ f a->(∀b,b≠d->f b=H1 b)->f d=some (.ext<|Fz d o<|Dφ kk d g)->My X G σ (.Tuple ts tn tp) R (.ref (a.heap.push { cls:=.type "dict_items",data:=.fields #[.ref d] }).objs.size) { a with heap:=(a.heap.push { cls:=.type "dict_items",data:=.fields #[.ref d] }).push { cls:=.type "dict_itemiterator",data:=.fields #[.none,.bool false,.ref d,.int 0 0,.int g.length 0,.int C 0,.none,.none] } }:=λf A U Q=>by
  refine⟨_,[_],_,_,f,rfl,A.kept (t':=a.toks) λb u e=>QL _<|QL _ e,Gg kk d _ o B C g n,⟨_,_,QX _ rfl⟩,λb z=>?_,q o f U Q⟩;have e:b=(a.heap.push { cls:=.type "dict_items",data:=.fields #[.ref d] }).objs.size:=by simpa using z
  subst e;exact A.uj le<|A.hok.fresh le
 obtain r|⟨P,r⟩:=D.h
 ·exact y (upd H1 d<|.ext<|Fz d o<|Dφ kk d g) (i.write (t':=a.toks) (by rw[r];trivial) (.inl rfl) (λ_ _ _ e=>e) ⟨o,j⟩<|IV j<|dφ_ok (H':=H1) p ⟨o,B,C,j,L,n,K⟩) (λb z=>cG z) cE
 ·obtain⟨⟨O,_⟩,_⟩:=(show cV X.prog X.w H1 a.heap d (.ext<|Fz d P<|Dφ kk d g) from i.hok d _ r)
  grind
end
section
variable {X:Cx}
def Lv(d:h.DictOf (cM P w) a [(.inr z,u)])(B:RelV v u):Dφ (eQ P w) a [(.inl<|.inr z,.str z,v)] h:=by
 obtain⟨o,m,E,C,G,n,x,g,J⟩:=d;cases f:m.toList with
 |nil=>
  rw[f]at g;cases g
 |cons e r=>
  rw[f]at g;cases g with
  |cons l p t=>
   cases t;obtain⟨I,F,D⟩:=x e (Vi.mp<|by grind);cases (cM P w).inj _ _ _ l F;obtain ⟨i,t,q,_⟩|⟨H,t,q,y⟩:=NK.kL l
   ·cases q
   ·cases q
    refine⟨[(.inl<|.inr z,.str z t,u)],.cons ⟨rfl,⟨t,rfl⟩,B⟩ .nil,o,m,E,C,G,n,?_⟩;rw[f];obtain⟨A,j,s⟩:=e;cases (show j=Value.str z t from y);cases (show s=u from p);cases (show A=(cM P w).hash (.inr z) from D);rfl
inductive QG(X:Cx)(p:Xp)(x y:V)(H:Hp)(Q:VK):Prop
 |mk(z:Xx)(e:x=.str z)(h:H p=some (.dK []))(q:Q (.ref p) (upd H p (.ext (Dφ (eQ X.prog X.w) p [(.inl (.inr z),.str z,y)]))))
def Qi(X:Cx)(g a:TE):TE:=λσ H Q=>∀p,H p=none->(p==sysModules)=false->ux [(g,a)] σ (upd H p<|.dK []) λf e=>∃x y,f=[(x,y)]/\QG X p x y e Q
def Nz(o:PE X ke tk)(D:PE X ve tv):PE X (.Dict [some ke] [ve] pos) (Qi X tk tv):=by
 intro F s σ H Q I q;have n:=I.laid (h':=s.heap.push { cls:=.type "dict",data:=.dict #[] }) (t':=s.toks) (λ_ _ q=>QL _ q) (QP _)<|v7 s.heap I.big;refine wpAny_Dict_walk (knd:=cM X.prog X.w) rfl rfl (by simp) (by grind)<|cX (jS o D AG F _ σ _ _ n<|q s.heap.objs.size (I.hok.fresh<|QP s.heap.objs.size)<|R9.mpr<|To<|Rb I.big) λM L g=>?_;obtain⟨K,P,l,i,x,y,rfl,z,rfl,e,E⟩:=g;cases i with
 | @cons a b as bs h t=>
  cases t;obtain⟨J,m⟩:=b;obtain⟨O,G,C,v,B⟩:=Ey l.hok e;cases v;refine⟨[(.inr z,m)],⟨oq h.1,rfl,True.intro⟩,B,λh' j A=>⟨.ref s.heap.objs.size,_,?_,rfl,E⟩⟩;obtain⟨N,p,f⟩:=Lv (show h'.DictOf (cM X.prog X.w) s.heap.objs.size [(.inr z,m)] from j) h.2;exact kh l (by rw[e];exact True.intro) A (let ⟨q,_,_,r,_⟩:=f;⟨q,r⟩)<|dφ_ok p f
end
section
variable [DecidableEq κ]{g:TG}{tb:TS}{D:Ends}{σ:St}{H:Hp}
def JN(Pv:Nat->St->Hp->Prop)(h0:Pv 0 σ H)(n:∀i σ H,i<=XD.length->Pv i σ H->H d=some (.ext<|Fz d o<|Dφ kk d XD))
  (r:∀(i:Nat)(e:κ×V×V) p σ H,XD[i]? =some e->H p=none->Pv i σ H->g (.ref p) σ (upd H p<|.tup [e.2.1,e.2.2]) λf j=>tb { D with nx:=Pv<|i+1,ct:=Pv<|i+1,bk:=D.nx } f j)(hd:∀σ H,Pv XD.length σ H->D.nx σ H):
  ∃W:Nat->Nat->St->Hp->Prop,(∃m,W 0 m σ H)/\∀i m σ H,W i m σ H->
   ((CH kk d o XD).stop i H/\D.nx σ H)\/((CH kk d o XD).go i H/\∃N:St->Hp->Prop,(∀a H',N a H'->∃l,l<m/\W (i+1) l a H')/\∀x H',(CH kk d o XD).yld i H x H'->g x σ H' λf j=>tb { D with nx:=N,ct:=N,bk:=D.nx } f j):=by
 refine⟨λi m σ H=>m=XD.length-i/\i<=XD.length/\Pv i σ H,⟨XD.length,by simp,RQ _,h0⟩,?_⟩;rintro i m σ H ⟨rfl,s,p⟩;have q:=n i σ H s p;by_cases h:i<XD.length
 ·refine .inr ⟨⟨q,h⟩,Pv<|i+1,λa H' A=>⟨XD.length-(i+1),by lia,rfl,h,A⟩,λx H' y=>?_⟩
  obtain⟨B,w,v,rfl,rfl,z⟩:=y;exact r i w B σ _ z v p
 ·have e:i=XD.length:=by lia
  subst e;exact .inl ⟨⟨q,QP _⟩,hd σ H p⟩
end
section
variable [DecidableEq κ]
def ic(xs ps:Xw (κ×Xo×Xo)):Xw (κ×Xo×Xo):=ps.foldl (λa q=>NK.i8 a q.1 q.2.1 q.2.2) xs
def wD(xs ps:Xw (κ×Xo×Xo))(i:Nat)(q:κ×Xo×Xo)(h:ps[i]? =some q):ic xs (ps.take<|i+1)=NK.i8 (ic xs<|ps.take i) q.1 q.2.1 q.2.2:=by
 unfold ic;rw[RN,h,VP];rfl
def Fv(xs:Xw (κ×Xo×Xo))(x:κ)(u v:Xo):(NK.i8 xs x u v).length<=xs.length+1:=by
 unfold NK.i8;split
 ·rw[QM]
  exact T6 _
 ·rw[QK]
  exact QP _
theorem rS:∀(ps xs:Xw (κ×Xo×Xo)),(ic xs ps).length<=xs.length+ps.length
 |[],xs=>QP _
 |p::r,xs=>by
  have a:=rS r<|NK.i8 xs p.1 p.2.1 p.2.2;have e:=Fv xs p.1 p.2.1 p.2.2;show(ic (NK.i8 xs p.1 p.2.1 p.2.2) r).length<=_;grind
def BA{xs:Xw (κ×Xo×Xo)}{x:κ}{u v:Xo}(h:(xs.map (·.1)).Nodup):((NK.i8 xs x u v).map (·.1)).Nodup:=by
 cases g:NK.uS xs x with
 |some e=>
  rw[NK.wm g,Th];have:((λe:κ×Xo×Xo=>e.1) ∘ λe=>if e.1=x then(e.1,e.2.1,v) else e)=λe=>e.1:=funext λe=>by
   show(if e.1=x then(e.1,e.2.1,v) else e).1=e.1;split<;>rfl
  rw[this];exact h
 |none=>
  rw[NK.v8 g,Sr];refine VU.mpr ⟨h,TB _ _,λa j b l e=>?_⟩;rw[QQ.mp l]at e;obtain⟨f,i,rfl⟩:=Ru.mp j;have:=VC.mp g f i;exact this<|dT0 e
theorem n6:∀(ps:Xw (κ×Xo×Xo)){xs:Xw (κ×Xo×Xo)},(xs.map (·.1)).Nodup->((ic xs ps).map (·.1)).Nodup
 |[],_,h=>h
 |p::r,_,h=>n6 r<|BA h
def C8{e:κ×Xo×Xo}(h:e∈NK.i8 xs x u v):(∃f∈xs,e.1=f.1/\e.2.1=f.2.1)\/(e.1=x/\e.2.1=u):=by
 unfold NK.i8 at h;split at h
 ·grind
 ·grind
theorem qC:∀(ps xs:Xw (κ×Xo×Xo)) (e:κ×Xo×Xo),e∈ic xs ps->(∃f∈xs,e.1=f.1/\e.2.1=f.2.1)\/∃f∈ps,e.1=f.1/\e.2.1=f.2.1
 |[],xs,e,h=>.inl ⟨e,h,rfl,rfl⟩
 |p::r,xs,e,h=>by
  obtain ⟨f,i,l,m⟩|⟨f,i,q⟩:=qC r (NK.i8 xs p.1 p.2.1 p.2.2) e h
  ·obtain ⟨g,n,j,a⟩|⟨j,a⟩:=C8 i
   ·exact .inl ⟨g,n,l.trans j,m.trans a⟩
   ·exact .inr ⟨p,.head _,l.trans j,m.trans a⟩
  ·exact .inr ⟨f,.tail _ i,q⟩
end
section
variable {w:Xs}{κ:Type} [DecidableEq κ]{k:NK.gI prog w κ}{A:Xv}{E:Xy}{s:Xq}
def yU (ps:Xw (κ×Xo×Xo)) (T:Nat->Xp) (P:k.qd<=8) (I:k.room A.in1.in1) (G:A.handled=none) (K:s.heap.get? l=some o) (U:o.cls=.type "list") (R:o.data=.seq items c) (hd:o.dict=none) (C:ps.length=items.size) (X:ps.length<=sizeLine)
  (J:∀(i:Nat)(v:Xo),items[i]? =some v->v=.ref (T i))(a:∀(i:Nat) q,ps[i]? =some q->IsTup s.heap (T i) #[q.2.1,q.2.2]/\k.is s.heap q.1 q.2.1/\NK.Sh q.2.1)
  (h:∀h' m,NK.zK k h' s.heap.objs.size (ic [] ps)->(∀b o,s.heap.get? b=some o->h'.get? b=some o)->Q (.ref s.heap.objs.size) { s with heap:=h',toks:=m }):
  wpAny (model prog w) A (call (.type "dict") [.ref l]) Q E s:=by
 refine qz ps (·.2.1) (·.2.2) T G K U R hd C J (λi q e=>(a i q e).1) (λi h=>NK.zK k h s.heap.objs.size<|ic []<|ps.take i) (λh e=>⟨_,#[],0,e,⟨rfl,rfl,rfl⟩,rfl,rfl⟩) (by
  rintro i g Y _ B ⟨o,H,L,F,y⟩;exact⟨o,H,L,B _ F,y⟩) ?_ λh' m d=>h h' m (by rwa [RX]at d)
 intro i q W E Q n x z S;refine NK.Aj P (a i q n).2.2 I (k.keep x (a i q n).2.1) z (λe N=>?_) (n6 _ UE) ?_ λh' r=>S h' _ (by rw[wD [] ps i q n];exact r)
 ·obtain ⟨f,p,_⟩|⟨f,p,M,D⟩:=qC _ _ _ N
  ·cases p
  ·obtain⟨j,O⟩:=Rg (SR p)
   rw[M,D];exact k.keep x (a j f O).2.1
 ·have:=rS (ps.take i) []
  grind
end
section
variable [DecidableEq κ]
def eB(XD ps:Xw (κ×V×V)):Xw (κ×V×V):=ps.foldl (λa q=>fA a q.1 q.2.1 q.2.2) XD
def BV{more:Xw (κ×V×V)}{rs:Xw (κ×Xo×Xo)}(r:Paired gL more rs):∀{XD:Xw (κ×V×V)}{xs:Xw (κ×Xo×Xo)},Paired gL XD xs->Paired gL (eB XD more) (ic xs rs):=by
 induction r with
 |nil=>exact λq=>q
 | @cons p q ps qs h t ih=>
  intro XD xs a;have e:Paired gL (fA XD p.1 p.2.1 p.2.2) (NK.i8 xs q.1 q.2.1 q.2.2):=by
   have:=zk (x:=p.1) h.2.1 h.2.2 a;rw[<-h.1];exact this
  exact ih e
end
section
variable {X:Cx} [DecidableEq κ]{kk:KK X.prog X.w κ}
inductive C7(K:Frag){P:Xr}{w:Xs}(f:KK P w κ)(vs:Xw V)(H:Hp)(Q:VK):Prop
 |mk(p:Xp)(xs:Xw V)(XD:Xw (κ×V×V))(e:vs=[.ref p])(s:cN K H p xs)(l:xs.length=XD.length)(t:∀(i:Nat) x kv,xs[i]? =some x->XD[i]? =some kv->∃a,x=.ref a/\H a=some (.tup [kv.2.1,kv.2.2])/\f.rel H kv.1 kv.2.1)(q:∀d,H d=none->(d==sysModules)=false->Q (.ref d) (upd H d (.ext (Dφ f d (eB [] XD)))))
def j9(Ys:kk.k.room X.A.in1.in1)(Y:X.calm=true):eG X (.type "dict") (λvs H Q=>C7 X.K kk vs H Q):=by
 intro XC s σ H vs us Q I r h;obtain⟨p,xs,j,rfl,W,ll,R,q⟩:=h;obtain⟨u,rfl,rx⟩:=vals1 r;cases rx;obtain⟨z,J,⟨o,c,ho,E,N,X2⟩,hz⟩:=I.list W;have hl:=J.length;have F:∀i:Nat,∃t:Xp×Xo×Xo,i<z.length->z[i]? =some (.ref t.1)/\∀g,j[i]? =some g->IsTup s.heap t.1 #[t.2.1,t.2.2]/\kk.rel H g.1 g.2.1/\RelV g.2.1 t.2.1/\RelV g.2.2 t.2.2:=λi=>by
  by_cases hi:i<z.length
  ·obtain⟨g,w⟩:∃g,j[i]? =some g:=⟨_,QJ<|by lia⟩
   obtain⟨x,L⟩:∃x,xs[i]? =some x:=⟨_,QJ<|by lia⟩;obtain⟨a,rfl,ha,S⟩:=R i x g L w;obtain⟨u,eu,ru⟩:=J.get L;cases ru;obtain⟨ab,rj,tp,_⟩:=I.tuple<|fe.of (K:=X.K) ha;cases rj with
   |cons P rest=>
    cases rest with
    |cons r2 n=>
     cases n;exact⟨(a,_,_),λ_=>⟨eu,λac e=>by rw[w]at e;cases e;exact⟨tp,S,P,r2⟩⟩⟩
  ·exact⟨(0,.none,.none),λh=>absurd h hi⟩
 obtain⟨f,B⟩:=U5 F;have y:∀(i:Nat) q,(j.mapIdx λi g=>(g.1,(f i).2.1,(f i).2.2))[i]? =some q->∃g,j[i]? =some g/\q=(g.1,(f i).2.1,(f i).2.2):=λi q e=>by
  rw[Xe]at e;obtain⟨g,l,rfl⟩:=RC.mp e;exact⟨g,l,rfl⟩
 have m:∀{i:Nat}{g:κ×V×V},j[i]? =some g->i<z.length:=λe=>by
  have:=(gI0.mp e).1;lia
 have C:(j.mapIdx λi g=>(g.1,(f i).2.1,(f i).2.2)).length=j.length:=List.length_mapIdx;refine yU (k:=kk.k) (j.mapIdx λi g=>(g.1,(f i).2.1,(f i).2.2)) (λi=>(f i).1) kk.q8 Ys (I.ok.hd Y) ho E X2 N (by rw[C,Rw];lia) (by rw[C];lia) (λi v e=>?_) (λi q e=>?_) λh' U T O=>?_
 ·have G:z[i]? =some v:=by simpa using e
  have:=(B i (gI0.mp G).1).1;rw[G]at this;exact Rr this
 ·obtain⟨g,l,rfl⟩:=y i q e
  have:=(B i<|m l).2 g l;exact⟨this.1,kk.is I.hok this.2.1 this.2.2.1,kk.sh this.2.1 this.2.2.1⟩
 ·have D:Paired gL j (j.mapIdx λi g=>(g.1,(f i).2.1,(f i).2.2)):=jg C.symm λi p q l Z=>by
   obtain⟨g,M,rfl⟩:=y i q Z;rw[l]at M;cases M;exact⟨rfl,((B i<|m l).2 _ l).2.2.1,((B i<|m l).2 _ l).2.2.2⟩
  have hn:=I.hok.fresh<|QP s.heap.objs.size;exact⟨.ref _,_,I.laid (a:=s.heap.objs.size) (o:=.ext<|Dφ kk s.heap.objs.size<|eB [] j) (t':=U) O (QP _)<|dφ_ok (BV D .nil) T,rfl,q _ hn<|R9.mpr<|To<|Rb I.big⟩
end
inductive As(x y:V)(H:Hp)(Q:Bool->Prop):Prop
 |txt (a b:Xx)(ex:x=.str a)(e:y=.str b)(q:Q (decide (a=b)))
 |tup (p:Xp)(xs:Xw V)(b:Xx)(ex:x=.ref p)(h:H p=some (.tup xs))(e:y=.str b)(q:Q false)
def vI:decide (V.str a=V.str b)=decide (a=b):=V1.mpr ⟨λe=>by injection e,λe=>by rw[e]⟩
def vc(m:X.A.units<cLine):jk X (compareOp .Eq) (λx y H Q=>As x y H λb=>Q (.bl b) H):=by
 intro z s σ H x y v u Q I g i h;cases h with
 |txt a b e f q=>
  subst e f;exact IL z s σ H _ _ v u Q I g i ⟨rfl,by rw[vI];exact q⟩
 |tup p C b e h f q=>
  subst e f;cases (show v=Value.ref p from g);obtain⟨t,rfl⟩:=(show ∃t,u=Value.str b t from i);obtain⟨_,D,B,o,l,r,n,j⟩:=I.hok p _ h;exact SeqAt.RcAt.tuple_str b t ⟨o,l,r,n,j⟩ m X.prog X.w X.xe _ ⟨.bl false,H,I,rfl,q⟩
def u6(m:X.A.units<cLine):jk X (compareOp .NotEq) (λx y H Q=>As x y H λb=>Q (.bl<|!b) H):=by
 intro z s σ H x y v u Q I g i h;cases h with
 |txt a b e f q=>
  subst e f;exact Jp z s σ H _ _ v u Q I g i ⟨rfl,by rw[vI];exact q⟩
 |tup p C b e h f q=>
  subst e f;cases (show v=Value.ref p from g);obtain⟨t,rfl⟩:=(show ∃t,u=Value.str b t from i);obtain⟨_,D,B,o,l,r,n,j⟩:=I.hok p _ h;exact SeqAt.RcNeAt.tuple_str b t ⟨o,l,r,n,j⟩ m X.prog X.w X.xe _ ⟨.bl true,H,I,rfl,q⟩
end L2
namespace J
section
variable {X:Cx}{κ:Type} [DecidableEq κ]{kk:KK X.prog X.w κ}{o:Expr}{i:Expr}{e:Expr}{f:Expr}{value:Expr}{tg:Expr}{pos:Pos}{XU:Pos}{XH:Pos}{XG:Pos}{Yl:Pos}{td:TE}{ty:TE}{tv:TE}{tx:TE}
def Pn(f:X.A.units+3<cLine)(a:JE X o td)(j:JE X i ty)(h:dS i):JE X (.Subscript o i pos) (AA kk td ty):=⟨F4 f a.out j.out λg e=>h.out g e⟩
def Ly(a:X.A.units+3<cLine)(e:JE X i ty)(f:JE X o td)(hm:behindInMarks .In o=false:=by rfl):JT X (.Compare i [.In] [o] pos) (tB<|F6 kk ty td):=⟨uV (Jz a e.out f.out) hm⟩
def Bo(a:X.A.units+3<cLine)(e:JE X i ty)(f:JE X o td)(hm:behindInMarks .NotIn o=false:=by rfl):JT X (.Compare i [.NotIn] [o] pos) (tB<|oJ kk ty td):=⟨uV (Bv a e.out f.out) hm⟩
def MQ(e:X.A.units+3<cLine)(g:JE X o td)(f:JE X i ty)(a:JE X value tv)(h:gY value=false:=by rfl):JS X (.Assign [.Subscript o i XU] value pos) (AK kk td ty tv):=⟨Ft e g.out f.out a.out<|jz h⟩
def OY{aa:V->V->Hp->VK->Prop}(m:X.A.units+3<cLine)(g:Ds X op aa)(h:JE X o td)(n:JE X i ty)(j:JE X value tv)(l:∀f e a,augStore i f e a=(do holding [a,f,e] (setItem f e a);release [a,f,e] [];pure .next)):JS X (.AugAssign (.Subscript o i Yl) op value pos) (CW kk td ty tv aa):=⟨GZ m h.out n.out j.out g l⟩
def NW:JE X (.Dict [] [] pos) (Ad kk):=⟨GQ⟩
def q1(g:JE X e ty)(a:JE X f tv):JE X (.Dict [some e] [f] pos) (Qi X ty tv):=⟨Nz g.out a.out⟩
def NJ(l:X.A.units+3<cLine)(i:JE X o td)(he:JE X e ty)(hf:JE X f tx)(h:iO o=true:=by rfl)(g:notStar e=true:=by rfl)(a:notStar f=true:=by rfl)(j:(XH.endLine==XG.line)=true:=by rfl):JE X (.Call (.Attribute o "get" XH) [e,f] [] XG) (xK kk td ty tx):=
 ⟨Dz l i.out he.out hf.out ⟨fN h,by rw[BX g a];rfl,j,BX g a⟩⟩
def Me(l:X.A.units+3<cLine)(i:JE X o td)(he:JE X e ty)(hf:JE X f tx)(h:iO o=true:=by rfl)(g:notStar e=true:=by rfl)(a:notStar f=true:=by rfl)(j:(XH.endLine==XG.line)=true:=by rfl):JE X (.Call (.Attribute o "setdefault" XH) [e,f] [] XG) (xV kk td ty tx):=
 ⟨ER l i.out he.out hf.out ⟨fN h,by rw[BX g a];rfl,j,BX g a⟩⟩
def Gj(h:JE X e td):JI X tg e (iQ kk td):=⟨L2.Gj h.out⟩
def DT(a:JE X o td)(h:iO o=true:=by rfl)(e:(XH.endLine==XG.line)=true:=by rfl):JI X (.Tuple ts tn Yl) (.Call (.Attribute o "items" XH) [] [] XG) (Pj kk td):=⟨L2.DT a.out (fN h) e⟩
def j9(e:kk.k.room X.A.in1.in1)(a:X.calm=true):JF X (.type "dict") (λvs H Q=>C7 X.K kk vs H Q):=⟨L2.j9 e a⟩
def vc(a:X.A.units<cLine):JC X .Eq (λx y H Q=>As x y H λb=>Q (.bl b) H):=⟨L2.vc a⟩
def u6(a:X.A.units<cLine):JC X .NotEq (λx y H Q=>As x y H λb=>Q (.bl<|!b) H):=⟨L2.u6 a⟩
end
end J
namespace L2
section
variable [DecidableEq κ]
inductive OT(a:KK P w κ)(H:Hp)(Q:Hp->Prop):Prop
 |mk(d:Xp)(o:Obj)(XD:Xw (κ×V×V))(h:H d=some (.ext (Fz d o (Dφ a d XD))))(q:Q (upd H d (.ext (Dφ a d XD))))
def Er(f:KK P w κ)(g:TS):TS:=λD σ H=>g { D with nx:=λa h=>OT f h λe=>D.nx a e } σ H
end
section
variable {X:Cx} [DecidableEq κ]{kk:KK X.prog X.w κ}{st:Stmt}{ts:TS}
def Fu(h:PS X st ts):PS X st (Er kk ts):=by
 intro r s σ H D I q;refine RW (h r s σ H _ I q) (λf g z=>?_) λ_ _ z=>z;cases f with
 |next=>
  obtain⟨a,n,i,d,o,m,e,q⟩:=z;obtain⟨⟨j,x,p,l⟩,_,_⟩:=(show cV X.prog X.w n g.heap d (.ext<|Fz d o<|Dφ kk d m) from i.hok d _ e);exact⟨a,_,i.write (t':=g.toks) (by rw[e];trivial) (.inl rfl) (λ_ _ _ e=>e) ⟨o,j⟩<|dφ_ok p l,q⟩
 |ret v=>exact z
 |brk=>exact z
 |cont=>exact z
end
def Qg(d:Xp)(o:Obj)(XD:Xw (Xw Key×V)):It:=⟨λi H=>H d=some (.frz o<|.dT XD)/\i<XD.length,λi H x e=>e=H/\∃a b,XD[i]? =some a/\x=.ref b/\H b=some (.tup<|a.1.map kV),λi H=>H d=some (.frz o<|.dT XD)/\XD.length<=i⟩
theorem vG{α β:Type}{R:α->β->Prop}:∀{xs:Xw α}{ys:Xw β},Paired R xs ys->∀{i:Nat}{e:α},xs[i]? =some e->∃f,ys[i]? =some f/\R e f
 |_,_,.nil,_,_,h=>by cases h
 |_,_,.cons r t,0,_,h=>by
  cases h;exact⟨_,rfl,r⟩
 |_,_,.cons r t,i+1,_,h=>vG t (i:=i) h
def KJ{K:Frag}{tg:Expr}(d it:Xp)(o:Obj)(es:Array DictEntry)(ep:Nat)(XD:Xw (Xw Key×V))(hd:o.data=.dict es ep):Turn P w K tg (Qg d o XD) [it] it (λi h=>h.IsKeyIter it d i XD.length ep) where
 mem:=by simp
 obj:=λi h a b g=>by
  have e:b=it:=by simpa using g
  subst e;obtain⟨o,e,c,d⟩:=a;grind
 keep:=λi h z a k=>a.at λo e=>k it (by simp) o e
 item:=by
  intro X N G C S i T s σ H E I r a x;subst N G C;obtain⟨A,Q⟩:=x;obtain⟨m,hz,L,xs,p,o',X4,F,l,W,n,q,nd⟩:=(show cV X.prog X.w H s.heap d (.frz o<|.dT XD) from I.hok d _ A);rw[m]at l;cases l;rw[hd]at n;cases n;have sz:es.size=XD.length:=by rw[<-QZ,q,QM,<-RY p]
  have j:i<es.size:=by lia
  obtain⟨e,R⟩:∃e,XD[i]? =some e:=⟨_,QJ Q⟩;obtain⟨f,D,rf⟩:=vG p R;have Z:es[i].key=.ref f.2.1:=by
   have:es[i]? =some (entryOfKey (tupleKind<|cM X.prog X.w) f):=by rw[<-Rc,q,QY,D];rfl
   rw[RB j]at this;rw[Rr this];rfl
  obtain⟨y,B,f2,O,M,J⟩:=r it (by simp);refine NK.xf (by rw[sz];exact a) m hd j λz v sb=>?_;rw[sz]at v;have Y:Inv X T σ H { s with heap:=z }:=I.turned (t':=s.toks) (λb o g e=>(sb.2 b g).trans e) y B O M J;obtain⟨o2,e2,c2,U⟩:=id v;exact⟨_,rfl,rK e2 c2 U (by decide) ⟨.ref f.2.1,H,Y,by rw[Z];rfl,⟨rfl,e,f.2.1,R,rfl,rf.2.1⟩,v,λb g=>(r b g).1⟩⟩
 done:=by
  intro X N G C S i T s σ H E I r a x;subst N G C;obtain⟨A,Q⟩:=x;obtain⟨m,hz,L,xs,p,o',X4,F,l,W,n,q,nd⟩:=(show cV X.prog X.w H s.heap d (.frz o<|.dT XD) from I.hok d _ A);rw[m]at l;cases l;rw[hd]at n;cases n;have sz:es.size=XD.length:=by rw[<-QZ,q,QM,<-RY p]
  obtain⟨y,B,f2,O,M,J⟩:=r it (by simp);exact NK.vV (I.ok.hd S) (by rw[sz];exact a) m hd (by lia) λz eb=>⟨rfl,I.turned (t':=s.toks) (λb o g e=>eb b o g e) y B O M J⟩
 self:=λ_ _ _ _ _ a h=>wpAny_pyIter_keyiter a h
inductive Qp(x:V)(H:Hp)(R:It->Hp->Prop):Prop
 |mk(d:Xp)(XD:Xw (Xw Key×V))(e:x=.ref d)(h:H d=some (.dT XD))(q:∀(o:Obj)(H':Hp),(∀b,b≠d->H' b=H b)->H' d=some (.frz o (.dT XD))->R (Qg d o XD) H')
def iT(a:TE):TI:=λσ H R=>a σ H λx H1=>Qp x H1 R
def C3{l:Expr}{B:TE}(N:PE X l B):PI X tg l (iT B):=by
 intro J s σ H R I h;refine cX (N J s σ H _ I h) λv a g=>?_;obtain⟨x,H1,C,L,d,j,e,r,q⟩:=g;subst e;cases L;obtain⟨M,f,O,p,o,A,D,i,G,m,F,nd⟩:=id<|(show cV X.prog X.w H1 a.heap d (.dT j) from C.hok d _ r);have sz:A.size=j.length:=by rw[<-QZ,F,QM,<-RY p]
 have K:∀b E,H1 b=some (.tup E)->b≠d:=λb E e z=>by grind
 have y:Inv X J σ (upd H1 d<|.frz o<|.dT j) a:=C.write (t':=a.toks) (by rw[r];trivial) (.inl rfl) (λ_ _ _ e=>e) ⟨o,i⟩ ⟨i,M,f,O,Paired.Dh p λ_ _ z=>⟨z.1,(cG<|K _ _ z.2.1).trans z.2.1,z.2.2⟩,o,A,D,i,G,m,F,nd⟩;refine NK.wM f i G m ⟨a.heap.objs.size,[a.heap.objs.size],_,_,_,rfl,y.kept (t':=a.toks) λb o e=>QL _ e,KJ d _ o A D j m,⟨_,QX _ rfl,rfl,by rw[sz];rfl⟩,λb n=>?_,q o _ (λb n=>cG n) cE⟩;have e:b=a.heap.objs.size:=by simpa using n
 subst e;exact y.uj (QP _)<|y.hok.fresh<|QP _
section
variable [DecidableEq κ]
def F2{x z:κ}{v:V}(XD:Xw (κ×V×V)):jf (XD.map λe=>if e.1=x then(e.1,e.2.1,v) else e) z=(jf XD z).map λe=>if e.1=x then(e.1,e.2.1,v) else e:=by
 unfold jf;rw[List.find?_map]
 congr 2
 funext e
 show decide ((if e.1=x then(e.1,e.2.1,v) else e).1=z)=_;split<;>rfl
def oP{XD:Xw (κ×V×V)}{z:κ}{e:κ×V×V}(h:jf XD z=some e):e.1=z/\e∈XD:=
 ⟨QT<|List.find?_some (p:=λe:κ×V×V=>decide<|e.1=z) h,List.mem_of_find?_eq_some h⟩
def Gq(XD:Xw (κ×V×V))(e:κ×V×V)(z:κ):jf (XD++[e]) z=(jf XD z).or (if e.1=z then some e else none):=by
 unfold jf;rw[List.find?_append,find?_cons];by_cases h:e.1=z
 ·rw[dT0 h,QR h]
 ·rw[QU h,QO h]
  rfl
def jF(XD:Xw (κ×V×V))(z:κ):Xu V:=(jf XD z).map (·.2.2)
def u9(XD:Xw (κ×V×V))(x z:κ)(y v:V):jF (fA XD x y v) z=if z=x then some v else jF XD z:=by
 unfold jF fA;cases h:jf XD x with
 |some a=>
  rw[QR<|show(some a).isSome=true from rfl,F2];by_cases q:z=x
  ·subst q
   rw[h,QR rfl];show some (if a.1=z then(a.1,a.2.1,v) else a).2.2=_;rw[QR (oP h).1]
  ·rw[QO q]
   cases f:jf XD z with
   |none=>rfl
   |some e=>
    show some (if e.1=x then(e.1,e.2.1,v) else e).2.2=_;rw[QO λw=>q<|(oP f).1.symm.trans w];rfl
 |none=>
  rw[QO<|show ¬(none:Xu (κ×V×V)).isSome=true from bF0,Gq];by_cases q:z=x
  ·grind
  ·grind
def l5(XD:Xw (κ×V×V))(x:κ)(y v:V):(fA XD x y v).length<=XD.length+1:=by
 unfold fA;split
 ·rw[QM]
  exact T6 _
 ·rw[QK]
  exact QP _
def wz{XD:Xw (κ×V×V)}{x:κ}{y v:V}(h:(jF XD x).isSome=true):fA XD x y v=XD.map λe=>if e.1=x then(e.1,e.2.1,v) else e:=by
 unfold jF at h;rw[T7]at h;unfold fA;rw[QR h]
def qh{XD:Xw (κ×V×V)}{x:κ}{y v:V}(h:jF XD x=none):fA XD x y v=XD++[(x,y,v)]:=by
 unfold jF at h;rw[Option.map_eq_none_iff]at h;unfold fA;rw[h];rfl
def HH{x:κ}{v:V}(XD:Xw (κ×V×V)):(XD.map λe=>if e.1=x then(e.1,e.2.1,v) else e).map (·.1)=XD.map (·.1):=by
 rw[Th];exact Xl λe _=>by grind
def iK{XD:Xw (κ×V×V)}{z:κ}:(jF XD z).isSome=true↔z∈XD.map (·.1):=by
 unfold jF;rw[T7];unfold jf;grind
def EA{XD:Xw (κ×V×V)}{x:κ}{y v:V}(h:(XD.map (·.1)).Nodup):((fA XD x y v).map (·.1)).Nodup:=by
 cases q:jF XD x with
 |some e=>rw[wz<|by rw[q];rfl,HH];exact h
 |none=>
  rw[qh q,Sr];refine VU.mpr ⟨h,TB _ _,λa f b g e=>?_⟩;rw[QQ.mp g]at e;have:=iK.mpr f;grind
def EZ{XD:Xw (κ×V×V)}(nd:(XD.map (·.1)).Nodup){e:κ×V×V}(m:e∈XD):jf XD e.1=some e:=by
 cases h:jf XD e.1 with
 |none=>exact absurd (dT0 rfl)<|VC.mp h e m
 |some f=>
  obtain⟨g,a⟩:=oP h;obtain⟨i,n,rfl⟩:=VL m;obtain⟨j,l,rfl⟩:=VL a;have:j=i:=(TZ (h₀:=by rw[QM];lia) (h₁:=by rw[QM];lia) nd).mp (by rw[Um,Um,g]);subst this;rfl
def zw{XD:Xw (κ×V×V)}{x:κ}{y v:V}{e:κ×V×V}(h:e∈fA XD x y v):(∃f∈XD,e.1=f.1/\e.2.1=f.2.1)\/(e.1=x/\e.2.1=y):=by
 unfold fA at h;split at h
 ·grind
 ·grind
end
section
variable [DecidableEq κ]{a:Xp}{XD:Xw (κ×V×V)}
def DD.mono(D:DD kk H a XD)(e:H' a=H a)(t:∀b xs,H b=some (.tup xs)->H' b=some (.tup xs)):DD kk H' a XD:=
 ⟨by unfold Rx;rw[e];exact D.h,λe f=>kk.mono t<|D.r e f,D.nd,D.ns,D.l⟩
def DD.same(D:DD kk H a XD)(s:∀b o,H b=some o->H' b=some o):DD kk H' a XD:=by
 refine D.mono ?_ λb f e=>s _ _ e;obtain h|⟨o,h⟩:=D.h
 ·rw[h,s _ _ h]
 ·rw[h,s _ _ h]
def DD.put(D:DD kk H a XD)(hm:H a=some (.ext<|Dφ kk a XD)){x:κ}{y v:V}(r:kk.rel H x y)(l:XD.length+1<sizeLine):DD kk (upd H a<|.ext<|Dφ kk a<|fA XD x y v) a (fA XD x y v):=by
 have t:∀b h,H b=some (.tup h)->upd H a (.ext<|Dφ kk a<|fA XD x y v) b=some (.tup h):=λb h e=>by
  rw[cG λz=>by rw[z,hm]at e;cases e];exact e
 refine⟨.inl cE,λe m=>?_,EA D.nd,D.ns,UW (l5 _ _ _ _) l⟩;obtain ⟨f,j,g,i⟩|⟨g,i⟩:=zw m
 ·rw[g,i]
  exact kk.mono t<|D.r f j
 ·rw[g,i]
  exact kk.mono t r
end
def CL{P:Xr}{w:Xs}{A:Xv}{k:Nat}(hr:dO k A):(eQ P w).k.room A.in1.in1:=by
 have h:=jb hr;show A.units+1+1<cLine;lia
end L2
namespace J
section
variable {X:Cx} [DecidableEq κ]{kk:KK X.prog X.w κ}{st:Stmt}{ts:TS}{tg:Expr}{e:Expr}{te:TE}
def OM(h:JS X st ts):JS X st (Er kk ts):=⟨Fu h.out⟩
def C3(h:JE X e te):JI X tg e (iT te):=⟨L2.C3 h.out⟩
def p5:MZ X "list.pop" Eo:=⟨L2.p5⟩
def mP:MZ X "list.extend" AR:=⟨L2.mP⟩
end
section
variable {Yl:Pos}{td:TE}{ty:TE}{tv:TE}{tx:TE}{st:Stmt}{ts:TS}
def _root_.bM(e:X.A.units+3<cLine)(g:JE X o td)(f:JE X i ty)(a:dS i):JE X (.Subscript o i pos) (AA (eQ X.prog X.w) td ty):=Pn e g f a
def AH(a:X.A.units+3<cLine)(e:JE X i ty)(f:JE X o td)(hm:behindInMarks .In o=false:=by rfl):JT X (.Compare i [.In] [o] pos) (tB<|F6 (eQ X.prog X.w) ty td):=Ly a e f hm
def yO(a:X.A.units+3<cLine)(e:JE X i ty)(f:JE X o td)(hm:behindInMarks .NotIn o=false:=by rfl):JT X (.Compare i [.NotIn] [o] pos) (tB<|oJ (eQ X.prog X.w) ty td):=Bo a e f hm
def Ew(e:X.A.units+3<cLine)(g:JE X o td)(f:JE X i ty)(a:JE X value tv)(h:gY value=false:=by rfl):JS X (.Assign [.Subscript o i XU] value pos) (AK (eQ X.prog X.w) td ty tv):=MQ e g f a h
def zC:JE X (.Dict [] [] pos) (Ad<|eQ X.prog X.w):=NW
def N4(h:JE X e td):JI X tg e (iQ (eQ X.prog X.w) td):=Gj h
def zi(e:X.A.units+3<cLine)(g:JE X o td)(f:JE X i ty)(a:JE X value tv)(h:gY value=false:=by rfl):JS X (.Assign [.Subscript o i XU] value pos) (AK (nC X.prog X.w) td ty tv):=MQ e g f a h
def Mw:JE X (.Dict [] [] pos) (Ad<|nC X.prog X.w):=NW
def Oa(h:JE X e td):JI X tg e (iQ (nC X.prog X.w) td):=Gj h
def Js{op:Operator}{aa:V->V->Hp->VK->Prop}(m:X.A.units+3<cLine)(g:Ds X op aa)(h:JE X o td)(n:JE X i ty)(j:JE X value tv)(l:∀f e a,augStore i f e a=(do holding [a,f,e] (setItem f e a);release [a,f,e] [];pure .next)):JS X (.AugAssign (.Subscript o i Yl) op value pos) (CW (eQ X.prog X.w) td ty tv aa):=OY m g h n j l
def Ks(l:X.A.units+3<cLine)(a:JE X o td)(he:JE X e ty)(hf:JE X f tx)(h:iO o=true:=by rfl)(j:notStar e=true:=by rfl)(i:notStar f=true:=by rfl)(g:(XH.endLine==XG.line)=true:=by rfl):JE X (.Call (.Attribute o "get" XH) [e,f] [] XG) (xK (eQ X.prog X.w) td ty tx):=NJ l a he hf h j i g
def Eg(l:X.A.units+3<cLine)(a:JE X o td)(he:JE X e ty)(hf:JE X f tx)(h:iO o=true:=by rfl)(j:notStar e=true:=by rfl)(i:notStar f=true:=by rfl)(g:(XH.endLine==XG.line)=true:=by rfl):JE X (.Call (.Attribute o "setdefault" XH) [e,f] [] XG) (xV (eQ X.prog X.w) td ty tx):=Me l a he hf h j i g
def LD{es:Xw Expr}{a:Nat}(e:JE X o td)(h:iO o=true:=by rfl)(f:(XH.endLine==XG.line)=true:=by rfl):JI X (.Tuple es a Yl) (.Call (.Attribute o "items" XH) [] [] XG) (Pj (nC X.prog X.w) td):=DT e h f
def Mu(h:JS X st ts):JS X st (Er (eQ X.prog X.w) ts):=OM h
def vm{k:Nat}(hr:dO k X.A)(a:X.calm=true):JF X (.type "dict") (λvs H Q=>C7 X.K (eQ X.prog X.w) vs H Q):=j9 (CL hr) a
end
def mR (B:Bt X "range") (g:JA X [a,b] t) (f:notStar a=true:=by rfl) (e:notStar b=true:=by rfl):JI X tg (.Call (.Name "range" p) [a,b] [] pos) (IS t):=⟨L2.mR B.gl B.nm g.out (by rw[cU f,cU e];rfl)<|by rw[cU e];rfl⟩
section
variable {i:Expr}{pos:Pos}{td:TE}{ty:TE}
def xE(e:X.A.units+3<cLine)(g:JE (dq X N' scope cl fp s3 H3 C) o td)(f:JE (dq X N' scope cl fp s3 H3 C) i ty)(a:dS i):JE (dq X N' scope cl fp s3 H3 C) (.Subscript o i pos) (AA (eQ X.prog X.w) td ty):=bM (X:=dq X N' scope cl fp s3 H3 C) e g f a
def Fi(a:X.A.units+3<cLine)(e:JE (dq X N' scope cl fp s3 H3 C) i ty)(f:JE (dq X N' scope cl fp s3 H3 C) o td)(hm:behindInMarks .In o=false:=by rfl):JT (dq X N' scope cl fp s3 H3 C) (.Compare i [.In] [o] pos) (tB<|F6 (eQ X.prog X.w) ty td):=AH (X:=dq X N' scope cl fp s3 H3 C) a e f hm
def og(a:X.A.units+3<cLine)(e:JE (dq X N' scope cl fp s3 H3 C) i ty)(f:JE (dq X N' scope cl fp s3 H3 C) o td)(hm:behindInMarks .NotIn o=false:=by rfl):JT (dq X N' scope cl fp s3 H3 C) (.Compare i [.NotIn] [o] pos) (tB<|oJ (eQ X.prog X.w) ty td):=yO (X:=dq X N' scope cl fp s3 H3 C) a e f hm
end
end J
namespace FL
variable {α:Type} [DecidableEq α]
theorem sum_add{β:Type}(f g:β->Int):∀L:Xw β,(L.map λl=>f l+g l).sum=(L.map f).sum+(L.map g).sum
 |[]=>rfl
 |x::r=>by
  rw[RL,RL,RL,TH,TH,TH,sum_add f g r];lia
theorem fO{β:Type}{f:β->Int}:∀{L:Xw β},(∀l∈L,f l=0)->(L.map f).sum=0
 |[],_=>rfl
 |x::r,h=>by
  rw[RL,TH,h x<|.head _,fO λl a=>h l<|.tail _ a];rfl
theorem eD{β:Type}{f g:β->Int}:∀{L:Xw β},(∀l∈L,f l=g l)->(L.map f).sum=(L.map g).sum
 |[],_=>rfl
 |x::r,h=>by
  rw[RL,RL,TH,TH,h x<|.head _,eD λl a=>h l<|.tail _ a]
theorem o6{β:Type} [DecidableEq β]{c:Int}{x:β}:∀{L:Xw β},L.Nodup->x∈L->(L.map λl=>if l=x then c else 0).sum=c
 |[],_,h=>nomatch h
 |y::r,nd,h=>by
  rw[RL,TH];obtain⟨a,f⟩:=Tj.mp nd;by_cases e:y=x
  ·rw[QR e,fO λl g=>QO λq=>a<|by grind]
   lia
  ·rw[QO e,o6 f<|(Rq.mp h).resolve_left λq=>e q.symm]
   lia
def ind(p:Prop) [Decidable p] (c:Int):Int:=if p then c else 0
def c8{p:Prop} [Decidable p]{c:Int}(h:p):ind p c=c:=QR h
def c6{p:Prop} [Decidable p]{c:Int}(h:¬p):ind p c=0:=QO h
def js(L:Xw (α×α))(f:α×α->Int)(x:α):Int:=(L.map λl=>ind (l.1=x) (f l)-ind (l.2=x) (f l)).sum
theorem tZ(L:Xw (α×α))(f:α×α->Int):∀{S:Xw α},S.Nodup->(S.map<|js L f).sum=(L.map λl=>ind (l.1∈S) (f l)-ind (l.2∈S) (f l)).sum
 |[],_=>by
  rw[fO (L:=L) λl _=>by rw[c6 (λh=>nomatch h),c6 λh=>nomatch h];rfl];rfl
 |x::S,nd=>by
  obtain⟨a,g⟩:=Tj.mp nd;have step:∀(y:α) (c:Int),ind (y∈x::S) c=ind (y=x) c+ind (y∈S) c:=λy c=>by
   by_cases e:y=x
   ·rw[c8<|Rq.mpr<|.inl e,c8 e,c6<|by rw[e];exact a]
    lia
   ·by_cases m:y∈S
    ·rw[c8<|Rq.mpr<|.inr m,c6 e,c8 m]
     lia
    ·rw[c6 λh=>(Rq.mp h).elim e m,c6 e,c6 m]
     rfl
  rw[RL,TH,tZ L f g];unfold js;rw[<-sum_add];exact eD λl _=>by grind
def En{L:Xw (α×α)}{f g:α×α->Int}{u v:α}{c:Int}(nd:L.Nodup)(m:(u,v)∈L)(i:∀l∈L,g l=f l+ind (l=(u,v)) c)(x:α):js L g x=js L f x+(ind (u=x) c-ind (v=x) c):=by
 have e:(L.map λl=>if l=(u,v) then ind (u=x) c-ind (v=x) c else 0).sum=ind (u=x) c-ind (v=x) c:=o6 nd m;unfold js;rw[<-e,<-sum_add];refine eD λl h=>?_;rw[i l h];by_cases q:l=(u,v)
 ·rw[QR q,c8 q,q]
  by_cases a:u=x
  ·by_cases b:v=x
   ·grind
   ·rw[c8 a,c6 b,c8 a,c6 b,c8 a,c6 b];lia
  ·by_cases b:v=x
   ·rw[c6 a,c8 b,c6 a,c8 b,c6 a,c8 b];lia
   ·grind
 ·rw[QO q,c6 q]
  have z:f l+0=f l:=by lia
  rw[z];lia
structure Flow(L:Xw (α×α))(cap f:α×α->Int)(s t:α)(k:Int):Prop where
 lo:∀l∈L,0<=f l
 hi:∀l∈L,f l<=cap l
 ns:js L f s=k
 nt:js L f t= -k
 no:∀x,x≠s->x≠t->js L f x=0
def zR{S:Xw α}{g:α->Int}{s:α}{k:Int}(nd:S.Nodup)(m:s∈S)(a:g s=k)(no:∀x∈S,x≠s->g x=0):(S.map g).sum=k:=by
 rw[<-o6 (c:=k) nd m];refine eD λx f=>?_;by_cases e:x=s
 ·rw[QR e,e,a]
 ·rw[QO e,no x f e]
def cut{L:Xw (α×α)}{e f:α×α->Int}{s t:α}{k:Int}(F:Flow L e f s t k){S:Xw α}(nd:S.Nodup)(o:s∈S)(n:t ∉ S)(j:∀l∈L,l.1∈S->l.2 ∉ S->f l=e l)(back:∀l∈L,l.1 ∉ S->l.2∈S->f l=0):(L.map λl=>if l.1∈S/\l.2 ∉ S then e l else 0).sum=k:=by
 rw[<-zR (g:=js L f) nd o F.ns λx p m=>F.no x m λq=>n<|by rw[<-q];exact p,tZ L f nd];refine eD λl i=>?_;by_cases a:l.1∈S
 ·by_cases b:l.2∈S
  ·rw[QO λh=>h.2 b,c8 a,c8 b];lia
  ·rw[QR ⟨a,b⟩,c8 a,c6 b,j l i a b];lia
 ·by_cases b:l.2∈S
  ·rw[QO λh=>a h.1,c6 a,c8 b,back l i a b];rfl
  ·rw[QO λh=>a h.1,c6 a,c6 b];rfl
theorem qe{β:Type}{f:β->Int}{x:β}:∀{L:Xw β},(∀l∈L,0<=f l)->x∈L->f x<=(L.map f).sum
 |[],_,h=>nomatch h
 |y::r,p,h=>by
  rw[RL,TH];have g:∀{L:Xw β},(∀l∈L,0<=f l)->0<=(L.map f).sum:=λ{L} q=>by
   induction L with
   |nil=>grind
   |cons z t e=>grind
  obtain rfl|h:=Rq.mp h
  ·grind
  ·have:=qe (λl a=>p l<|.tail _ a) h
   have:=p y<|.head _;lia
def iX{β:Type} [DecidableEq β]{f:β->Int}{x:β}{L:Xw β}(nd:L.Nodup)(p:0<=f x)(h:∀l∈L,l≠x->f l=0):(L.map f).sum<=f x:=by
 by_cases m:x∈L
 ·have e:(L.map f).sum=(L.map λl=>if l=x then f x else 0).sum:=eD λl a=>by grind
  rw[e,o6 nd m];exact UB _
 ·rw[fO λl a=>h l a λq=>m<|by rw[<-q];exact a]
  exact p
def ro(L:Xw (α×α))(f:α×α->Int)(x:α):Int:=(L.map λl=>ind (l.1=x)<|f l).sum
def Iq(L:Xw (α×α))(f:α×α->Int)(x:α):Int:=(L.map λl=>ind (l.2=x)<|f l).sum
def k8(L:Xw (α×α))(f:α×α->Int)(x:α):js L f x+Iq L f x=ro L f x:=by
 unfold js Iq ro;rw[<-sum_add];exact eD λl _=>by lia
def gX{p:Prop} [Decidable p]{c:Int}(h:0<=c):0<=ind p c:=by
 unfold ind;split
 ·exact h
 ·lia
def Flow.Kn(F:Flow L cap f s t k){l:α×α}(m:l∈L):f l<=ro L f l.1:=by
 have:=qe (f:=λq:α×α=>ind (q.1=l.1)<|f q) (λq a=>gX<|F.lo q a) m
 rwa [c8 rfl]at this
def Flow.Iy(F:Flow L cap f s t k){l:α×α}(m:l∈L):f l<=Iq L f l.2:=by
 have:=qe (f:=λq:α×α=>ind (q.2=l.2)<|f q) (λq a=>gX<|F.lo q a) m
 rwa [c8 rfl]at this
def Flow.into(F:Flow L cap f s t k)(nd:L.Nodup){l g:α×α}(m:l∈L)(a:g∈L)(e:l.2=g.1)(ns:g.1≠s)(o:g.1≠t)(one:∀q∈L,q.1=g.1->q=g):f l<=f g:=by
 have n:=F.Iy m;have i:=k8 L f g.1;rw[F.no _ ns o]at i;rw[e]at n;have p:ro L f g.1<=f g:=by
  have:=iX nd (gX<|F.lo g a) λq h j=>c6 λw=>j<|one q h w
  rwa [c8 rfl]at this
 lia
def Flow.vY(F:Flow L cap f s t k)(nd:L.Nodup){l g:α×α}(m:l∈L)(a:g∈L)(e:l.1=g.2)(ns:g.2≠s)(o:g.2≠t)(one:∀q∈L,q.2=g.2->q=g):f l<=f g:=by
 have n:=F.Kn m;have i:=k8 L f g.2;rw[F.no _ ns o]at i;rw[e]at n;have p:Iq L f g.2<=f g:=by
  have:=iX nd (gX<|F.lo g a) λq h j=>c6 λw=>j<|one q h w
  rwa [c8 rfl]at this
 lia
def Flow.on(F:Flow L cap f s t k){l:α×α}(m:l∈L)(p:0<f l)(ns:l.2≠s)(i:l.2≠t):∃g∈L,g.1=l.2/\0<f g:=by
 apply RR;intro no;have j:=F.Iy m;have h:=k8 L f l.2;rw[F.no _ ns i]at h;have n:ro L f l.2=0:=fO λq a=>by
  by_cases e:q.1=l.2
  ·rw[c8 e]
   have:=F.lo q a;have:¬0<f q:=λz=>no ⟨q,a,e,z⟩;lia
  ·exact c6 e
 lia
def fl(R:α->α->Int):α×α->Int:=λl=>R l.2 l.1
def way(R:α->α->Int)(b a:α):α->α->Int:=λx y=>if x=b/\y=a then R x y-1 else if x=a/\y=b then R x y+1 else R x y
structure Net(L:Xw (α×α)):Prop where
 nd:L.Nodup
 ne:∀l∈L,l.1≠l.2
 one:∀l∈L,(l.2,l.1) ∉ L
def ub{R:α->α->Int}{b a:α}:way R b a b a=R b a-1:=QR ⟨rfl,rfl⟩
def tR{R:α->α->Int}{b a:α}(ne:b≠a):way R b a a b=R a b+1:=by
 unfold way;rw[QO λh=>ne h.1.symm,QR ⟨rfl,rfl⟩]
def nM{R:α->α->Int}{b a x y:α}(e:¬(x=b/\y=a))(f:¬(x=a/\y=b)):way R b a x y=R x y:=by
 unfold way;rw[QO e,QO f]
def HR{L:Xw (α×α)}(N:Net L){R:α->α->Int}{b a:α}(m:(b,a)∈L\/(a,b)∈L)(x:α):js L (fl<|way R b a) x=js L (fl R) x+(ind (b=x) 1-ind (a=x) 1):=by
 obtain m|m:=m
 ·refine En N.nd m (λl e=>?_) x
  by_cases q:l=(b,a)
  ·rw[c8 q,q]
   exact tR<|N.ne _ m
  ·rw[c6 q,WV]
   exact nM (λh=>N.one _ m<|by grind) λh=>q<|Wh h.2 h.1
 ·have:=En (c:= -1) (f:=fl R) (g:=fl<|way R b a) N.nd m (λl e=>?_) x
  ·rw[this]
   by_cases p:b=x
   ·by_cases q:a=x
    ·grind
    ·rw[c8 p,c6 q,c8 p,c6 q];lia
   ·by_cases q:a=x
    ·rw[c6 p,c8 q,c6 p,c8 q];lia
    ·grind
  ·by_cases q:l=(a,b)
   ·rw[c8 q,q]
    exact ub
   ·rw[c6 q,WV]
    exact nM (λh=>q<|Wh h.2 h.1) λh=>N.one _ m (by grind)
structure gP(L:Xw (α×α))(cap:α×α->Int)(R:α->α->Int):Prop where
 all:∀l∈L,R l.1 l.2+R l.2 l.1=cap l
 on:∀l∈L,0<=R l.1 l.2
 off:∀l∈L,0<=R l.2 l.1
def gP.way{L:Xw (α×α)}{f:α×α->Int}{R:α->α->Int}(N:Net L)(h:gP L f R){b a:α}(m:(b,a)∈L\/(a,b)∈L)(p:0<R b a):gP L f (way R b a):=by
 have o:b≠a:=m.elim (λm=>N.ne _ m) λm=>(N.ne _ m).symm;have key:∀l∈L,FL.way R b a l.1 l.2+FL.way R b a l.2 l.1=f l/\0<=FL.way R b a l.1 l.2/\0<=FL.way R b a l.2 l.1:=λl e=>by
  have j:=h.all l e;have i:=h.on l e;have n:=h.off l e;by_cases q:l.1=b/\l.2=a
  ·rw[q.1,q.2]at j i n ⊢
   rw[ub,tR o];lia
  ·by_cases g:l.1=a/\l.2=b
   ·rw[g.1,g.2]at j i n ⊢
    rw[ub,tR o];lia
   ·rw[nM q g,nM (λz=>g ⟨z.2,z.1⟩) λz=>q ⟨z.2,z.1⟩]
    exact⟨j,i,n⟩
 exact⟨λl e=>(key l e).1,λl e=>(key l e).2.1,λl e=>(key l e).2.2⟩
def gP.PM{L:Xw (α×α)}{a:α×α->Int}{R:α->α->Int}{s t:α}{k:Int}(h:gP L a R)(ns:js L (fl R) s=k)(f:js L (fl R) t= -k)(no:∀x,x≠s->x≠t->js L (fl R) x=0):Flow L a (fl R) s t k:=
 ⟨λl e=>h.off l e,λl e=>by
  have:=h.all l e;have:=h.on l e;show R l.2 l.1<=a l;lia,ns,f,no⟩
structure MB(L:Xw (α×α))(R:α->α->Int)(s:α)(S:Xw α)(bf:α->α)(rk:α->Nat):Prop where
 st:s∈S
 bfS:∀x∈S,x≠s->bf x∈S
 low:∀x∈S,x≠s->rk (bf x)<rk x
 room:∀x∈S,x≠s->0<R (bf x) x
 link:∀x∈S,x≠s->(bf x,x)∈L\/(x,bf x)∈L
structure tO(L:Xw (α×α))(cap:α×α->Int)(R R':α->α->Int)(s t:α)(S:Xw α)(bf:α->α)(rk:α->Nat)(p:α):Prop where
 pS:p∈S
 rm:gP L cap R'
 nt:∀x,js L (fl R') x=js L (fl R) x+(ind (p=x) 1-ind (t=x) 1)
 old:∀z∈S,rk z<=rk p->z≠s->R' (bf z) z=R (bf z) z
section
variable {S:Xw α}{bf:α->α}{rk:α->Nat}
def tO.first(h:gP L cap R)(m:t∈S):tO L cap R R s t S bf rk t:=⟨m,h,λx=>by lia,λ_ _ _ _=>rfl⟩
def tO.step(N:Net L)(C:MB L R s S bf rk)(h:tO L cap R R' s t S bf rk p)(ne:p≠s):tO L cap R (way R' (bf p) p) s t S bf rk (bf p):=by
 have i:=C.low p h.pS ne;have e:=C.link p h.pS ne;refine⟨C.bfS p h.pS ne,h.rm.way N e<|by rw[h.old p h.pS (QP _) ne];exact C.room p h.pS ne,λx=>?_,λz f le a=>?_⟩
 ·rw[HR N e,h.nt x]
  lia
 ·have g:=C.low z f a
  rw[nM (λq=>by rw[q.2]at le;lia) λq=>by rw[q.1]at g;lia];exact h.old z f (by lia) a
def tO.last{k:Int}(h:tO L cap R R' s t S bf rk s)(ne:s≠t)(F:Flow L cap (fl R) s t k):Flow L cap (fl R') s t (k+1):=by
 refine h.rm.PM ?_ ?_ λx a e=>?_
 ·rw[h.nt,F.ns,c8 rfl,c6 ne.symm]
  lia
 ·rw[h.nt,F.nt,c6 ne,c8 rfl]
  lia
 ·rw[h.nt,F.no x a e,c6 a.symm,c6 e.symm]
  rfl
end
theorem lH{β:Type}{f g:β->Int}:∀{L:Xw β},(∀l∈L,f l<=g l)->(L.map f).sum<=(L.map g).sum
 |[],_=>UB _
 |x::r,h=>by
  rw[RL,RL,TH,TH];have:=h x<|.head _;have:=lH λl a=>h l<|.tail _ a;lia
def LR{β:Type}{f:β->Int}{L:Xw β}(h:∀l∈L,0<=f l):0<=(L.map f).sum:=by
 have:=lH h
 rwa [fO λ_ _=>rfl]at this
def Flow.bound{L:Xw (α×α)}{a f:α×α->Int}{s t:α}{k:Int}(F:Flow L a f s t k):k<=(L.map λl=>ind (l.1=s)<|a l).sum:=by
 have g:=k8 L f s;rw[F.ns]at g;have h:0<=Iq L f s:=LR λl e=>gX<|F.lo l e;have i:ro L f s<=(L.map λl=>ind (l.1=s)<|a l).sum:=lH λl e=>by
  unfold ind;split
  ·exact F.hi l e
  ·lia
 lia
def Flow.zero{L:Xw (α×α)}{a:α×α->Int}{R:α->α->Int}{s t:α}(h:∀l∈L,R l.2 l.1=0)(c:∀l∈L,0<=a l):Flow L a (fl R) s t 0:=by
 have z:∀x,js L (fl R) x=0:=λx=>fO λl f=>by
  have e:fl R l=0:=h l f;rw[e];unfold ind;split<;>split<;>rfl
 refine⟨λl f=>?_,λl f=>?_,z s,z t,λx _ _=>z x⟩
 ·show 0<=R l.2 l.1
  rw[h l f];exact UB _
 ·show R l.2 l.1<=a l
  rw[h l f];exact c l f
end FL
namespace SW
def Up(xs:Array Nat):Prop:=xs.toList.Pairwise (· < ·)
def AF{xs:Array Nat}(u:Up xs){a b d:Nat}(h:a<b)(e:b<xs.size):xs.getD a d<xs.getD b d:=by
 have:=UO.mp u a b (by rw[QZ];lia) (by rw[QZ];lia) h
 simpa [Array.getD,e,lt_trans h e] using this
theorem E5{xs:Array Nat}{j:Nat}(u:Up xs):∀(f lo g:Nat),g-lo<=f->lo<=g->g<=xs.size->(∀i,i<lo->xs.getD i j<j)->(∀i,g<=i->i<xs.size->j<=xs.getD i j)->
  ∃p,SetTable.below.go xs j f lo g=p/\p<=xs.size/\(∀i,i<p->xs.getD i j<j)/\∀i,p<=i->i<xs.size->j<=xs.getD i j
 |0,lo,g,h0,h1,h2,a,b=>⟨lo,rfl,by lia,a,λi h=>b i<|by lia⟩
 |f+1,lo,g,h0,h1,h2,a,b=>by
  unfold SetTable.below.go;by_cases h:lo<g
  ·rw[QR h]
   dsimp only;have n:(lo+g) / 2<g:=by lia
   have l:lo<=(lo+g) / 2:=by lia
   generalize (lo+g) / 2=m at n l;by_cases q:xs.getD m j<j
   ·rw[QR q]
    refine E5 u f _ _ (by lia) (by lia) h2 (λi g=>?_) b;by_cases e:i=m
    ·rw[e];exact q
    ·exact Vy (AF u (by lia)<|by lia) q
   ·rw[QO q]
    refine E5 u f _ _ (by lia) l (by lia) a λi g o=>?_;by_cases e:m=i
    ·rw[<-e];lia
    ·have:=AF (d:=j) u (show m<i by lia) o
     lia
  ·rw[QO h]
   exact⟨lo,rfl,by lia,a,λi h=>b i<|by lia⟩
def l8{xs:Array Nat}(u:Up xs)(j:Nat):∃p,SetTable.below xs j=p/\p<=xs.size/\(∀i,i<p->xs.getD i j<j)/\∀i,p<=i->i<xs.size->j<=xs.getD i j:=
 E5 u _ _ _ (QP _) (RQ _) (QP _) (λi h=>absurd h<|Wb _) λi e a=>absurd a<|not_lt.mpr e
def getD_at{xs:Array Nat}{k d v:Nat}(h:xs[k]? =some v):xs.getD k d=v:=by
 rw[Array.getD_eq_getD_getElem?,h];rfl
def pK{xs:Array Nat}{k v:Nat}(h:xs[k]? =some v):k<xs.size:=(TM.mp h).1
def below_at{xs:Array Nat}(u:Up xs){k v:Nat}(h:xs[k]? =some v):SetTable.below xs v=k:=by
 obtain⟨p,e,j,g,i⟩:=l8 u v;rw[e];have f:=pK h;obtain q|q|q:=Nat.lt_trichotomy p k
 ·have a:=i p (QP _) (by lia)
  have b:=AF (d:=v) u q f;rw[getD_at h]at b;lia
 ·exact q
 ·have a:=g k q
  rw[getD_at h]at a;lia
def yS{xs:Array Nat}(u:Up xs){k v:Nat}(h:xs[k]? =some v):SetTable.below xs (v+1)=k+1:=by
 obtain⟨p,e,j,g,i⟩:=l8 u<|v+1;rw[e];have f:=pK h;obtain q|q|q:=Nat.lt_trichotomy p (k+1)
 ·have a:=i k (by lia) f
  rw[getD_at h]at a;lia
 ·exact q
 ·have a:=g (k+1) q
  have b:=AF (d:=v+1) u (show k<k+1 by lia) (by lia);rw[getD_at h]at b;lia
def yZ{xs:Array Nat}(u:Up xs):SetTable.below xs 0=0:=by
 obtain⟨p,e,f,a,g⟩:=l8 u 0;rw[e];cases p with
 |zero=>rfl
 |succ p=>exact absurd (a 0<|VF _)<|Wb _
def Bu{xs:Array Nat}(u:Up xs){j:Nat}(n:j ∉ xs.toList):Up (SetTable.insertAt xs (SetTable.below xs j) j):=by
 obtain⟨p,e,v,r,s⟩:=l8 u j;rw[e];unfold Up;rw[SetTable.toList_insertAt];have o:∀y∈xs.toList.drop p,j<y:=λy g=>by
  obtain⟨i,f⟩:=Rg g;rw[TN,Rc]at f;have a:=s (p+i) (UN _ _)<|pK f;rw[getD_at f]at a;have:j≠y:=λq=>n<|q ▸ Uy g;lia
 have lt:∀y∈xs.toList.take p,y<j:=λy g=>by
  obtain⟨i,f⟩:=Rg g;have l:i<p:=by
   have:=(gI0.mp f).1;rw[RU]at this;lia
  rw[Sv l,Rc]at f;have a:=r i l
  rwa [getD_at f]at a
 refine UL.mpr ⟨Tw (VM _ _) u,VY.mpr ⟨o,Tw (List.drop_sublist _ _) u⟩,λa m b h=>?_⟩;obtain rfl|h:=Rq.mp h
 ·exact lt a m
 ·exact Vy (lt a m)<|o b h
def rP{t:SetTable}{j:Nat}(u:Up t.place)(h:∀i,t.slot j≠.live i):j ∉ t.place.toList:=λm=>by
 obtain⟨k,a⟩:=Rg m;rw[Rc]at a;refine h k ?_;unfold SetTable.slot;dsimp only;rw[below_at u a,a,QR<|by simp]
theorem pU{t:SetTable}{g:Nat->Int}{h:Int}:∀(f:Nat) (p:SetTable.Probe),(∀d,p.dummy=some d->∀i,t.slot d≠.live i)->∀j a,SetTable.probe.go t g h f p=some (.empty j a)->(∀i,t.slot j≠.live i)/\∀d,a=some d->∀i,t.slot d≠.live i
 |0,p,hp,j,a,e=>by cases e
 |f+1,p,hp,j,a,e=>by
  have m:∀q:SetTable.Probe,(t.advance q).dummy=q.dummy:=λq=>by
   unfold SetTable.advance;split<;>rfl
  unfold SetTable.probe.go at e;cases l:t.slot p.j with
  |empty=>
   rw[l]at e;cases e;exact⟨λi=>(by rw[l];exact λz=>by cases z),hp⟩
  |dummy=>
   rw[l]at e;refine pU f _ (λd n=>?_) j a e;rw[m]at n;cases n;exact λi=>by rw[l];exact λz=>by cases z
  |live i=>
   rw[l]at e;dsimp only at e;split at e
   ·cases e
   ·exact pU f _ (λd n=>hp d<|by rwa [m]at n) j a e
def FG{t:SetTable}{h:Int}{s:Nat}{b:Bool}(u:Up t.place)(e:t.freeSlot h=some (s,b)):s ∉ t.place.toList:=by
 unfold SetTable.freeSlot at e;split at e
 ·rename_i j a f
  cases e;obtain⟨l,i⟩:=pU _ _ (λd g=>by cases g) j a f;cases a with
  |none=>exact rP u l
  |some d=>exact rP u<|i d rfl
 ·cases e
def l6(n:Nat):Up (Array.range n):=by
 unfold Up;rw[Array.toList_range];exact Va
def ES{t:SetTable}{n:Nat}(u:Up t.place):(t.orStandIn n).led=t.led/\Up (t.orStandIn n).place:=by
 unfold SetTable.orStandIn;split
 ·exact⟨rfl,u⟩
 ·exact⟨rfl,l6 n⟩
def KZ{t:SetTable}{es:Array (Int×Xo)}{h:Int}{x:Xo}(u:Up t.place):(layNew t es h x).2.1.led=t.led/\Up (layNew t es h x).2.1.place:=by
 unfold layNew;cases e:t.freeSlot h with
 |none=>exact⟨rfl,l6 _⟩
 |some a=>
  obtain⟨s,b⟩:=a;exact ES (t:=(t.put s).1)<|Bu u<|FG u e
theorem uA{α:Type}(g:Nat->Xu α):∀l:Xw Nat,((l.filterMap λj=>(g j).map (j,·)).map (·.1))=l.filter λj=>(g j).isSome
 |[]=>rfl
 |a::r=>by
  rw[UY,Sf];cases g a with
  |none=>exact uA g r
  |some v=>exact RP (a::·)<|uA g r
def Fh{t:SetTable}{es:Array (Int×Xo)}{n:Nat}(u:Up t.place):(relayAll t es n).2.1.led=t.led/\Up (relayAll t es n).2.1.place:=by
 unfold relayAll;cases e:t.relaid (es.map (·.1)) n with
 |none=>exact⟨rfl,l6 _⟩
 |some a=>
  obtain⟨f,order⟩:=a;dsimp only;split
  ·unfold SetTable.relaid SetTable.laid at e
   cases q:SetTable.layClean (SetTable.sizeAbove n-1) (es.map (·.1)) with
   |none=>rw[q]at e;cases e
   |some g=>
    rw[q]at e;cases e;refine⟨rfl,?_⟩;show(List.map _ _).Pairwise _;rw[uA];exact Tw Tq Va
  ·exact⟨rfl,l6 _⟩
def fh(w:Xs):Bool:=w.params.followText "set-order"
def L4(es:Array (Int×Xo))(i:Int):Prop:=∃e∈es.toList,e.2.isInt i=true
structure mB(prog:Xr)(w:Xs)(h:Heap)(a:Xp)(es:Array (Int×Xo))(ep:Nat)(t:SetTable):Prop where
 ob:h.get? a=some { cls:=.type "set",dict:=none,data:=.set es ep t }
 el:ElemsOf (intKind prog w) es.toList
 bd:es.size<scanBound
 ft:t.fits es.size=true
 up:Up t.place
 ld:t.led=true\/fh w=true
section
variable {prog:Xr}{w:Xs}{A:Xv}{E:Xy}{s:Xq}
def Dc{h:Heap}{a:Xp}{es e:Array (Int×Xo)}{ep:Nat}{t t':SetTable}(S:mB prog w h a es ep t)(g:ElemsOf (intKind prog w) e.toList)(bd:e.size<scanBound)(f:t'.fits e.size=true)(up:Up t'.place)(ld:t'.led=t.led):mB prog w (h.update a<|Obj.putSet e t') a e (ep+1) t':=
 ⟨Ss (Obj.putSet e t') S.ob rfl,g,bd,f,up,by rw[ld];exact S.ld⟩
def Ju{a:Xp}{es:Array (Int×Xo)}{ep:Nat}{t:SetTable}{x:Xo}{k:Int}{Q:Bool->Xq->Prop}(v:x.isInt k=true)(S:mB prog w s.heap a es ep t)(C:es.size+1<scanBound)
  (q:∀b h' I F t',Heap.SameBut a s.heap h'->mB prog w h' a I F t'->(∀i,L4 I i↔L4 es i\/i=k)->I.size<=es.size+1->Q b { s with heap:=h' }):wpAny (model prog w) A (setAddHashed a x<|hashInt k) Q E s:=by
 unfold setAddHashed setAddHashedIn;refine Rv<|QH<|Sx S.ob rfl S.ft ?_;obtain⟨r,rfl⟩:=Vb v;dsimp only;rw[byScan_of (knd:=intKind prog w) rfl S.bd S.el];simp only[↓reduceIte];unfold setAddByScan;refine QH<|QH<|Sm<|QH<|wpAny_setScan_of (knd:=intKind prog w) v S.ob rfl S.ft S.el ?_;cases hr:List.findIdx? (λe=>(intKind prog w).is k e.2) es.toList with
 |some j=>
  obtain⟨W,H,_⟩:=Ta.mp hr;exact QI<|QI<|q _ s.heap es ep t (Heap.SameBut.refl a s.heap) S (λi=>⟨.inl,λh=>h.elim id λe=>⟨es.toList[j],Tf W,e ▸ H⟩⟩)<|T6 _
 |none=>
  have m:=layNew_perm t es (hashInt k)<|.int k r;have G:=layNew_fits t es (hashInt k)<|.int k r;obtain⟨K,B⟩:=KZ (es:=es) (h:=hashInt k) (x:=.int k r) S.up;generalize layNew t es (hashInt k) (.int k r)=L at m G K B ⊢;obtain⟨f,y,wd,X⟩:=L;dsimp only at m G K B ⊢;rw[VR]at m;have P:∀(b:Bool){o:Xq}{R:Xz},R () o->wpAny (model prog w) A (match b with|true=>rule "set.scan.the-table-gave-way" |false=>pure ()) R E o:=λb _ _ h=>by
   cases b
   ·exact QI h
   ·exact Sm h
  have T:ElemsOf (intKind prog w) f.toList:=(ElemsOf.push (knd:=intKind prog w) (k:=k) (x:=.int k r) S.el v rfl).perm m;have Z:f.size=es.size+1:=by rw[<-QZ,m.length_eq,QK,QZ];rfl
  have J:∀i,L4 f i↔L4 es i\/i=k:=λi=>⟨λ⟨e,l,h⟩=>by
   obtain l|l:=Ro.mp (m.mem_iff.mp l)
   ·exact .inl ⟨e,l,h⟩
   ·rw[QQ.mp l]at h
    exact .inr<|Value.isInt_inj _ _ _ h v,λh=>h.elim (λ⟨e,l,h⟩=>⟨e,m.mem_iff.mpr<|Rj _ l,h⟩) λe=>⟨_,m.mem_iff.mpr<|QV _<|.head _,e ▸ v⟩⟩
  refine QH<|P _ ?_;simp only[show hashByValue 8 (Value.int k r)=pure true from rfl,ite_self];refine QH<|QI ?_;simp only[↓reduceIte];refine QH (wpAny_storeSet_of S.ob rfl ?_ (UC<|by lia));have N:=Dc S T (by lia) G B K;have O:=Rl s.heap a<|Obj.putSet f y;split
  ·have g:=relayAll_perm y f (SetTable.grown f.size)
   have p:=relayAll_fits y f<|SetTable.grown f.size;obtain⟨M,D⟩:=Fh (es:=f) (n:=SetTable.grown f.size) B;generalize relayAll y f (SetTable.grown f.size)=L at g p M D ⊢;obtain⟨z,U,Y⟩:=L;dsimp only at g p M D ⊢;have n2:z.size=f.size:=by rw[<-QZ,g.length_eq,QZ]
   refine QH (P _<|QH<|wpAny_storeSet_of N.ob rfl ?_ (UC<|by lia));exact QI (QI<|q _ _ z _ U (O.trans<|Rl _ a _) (Dc N (T.perm g) (by lia) p D M) (λi=>⟨λ⟨e,l,h⟩=>(J i).mp ⟨e,g.mem_iff.mp l,h⟩,λh=>let ⟨e,l,h⟩:=(J i).mpr h;⟨e,g.mem_iff.mpr l,h⟩⟩)<|by lia)
  ·exact QI (QI<|q _ _ f _ y O N J<|by lia)
end
section
variable {prog:Xr}{w:Xs}{A:Xv}{R:Result->Xq->Prop}{I:Xp}{fp wr:Xw Xp}{G:Array GenState->Array GenState->Prop}{n:Nat}{P:Nat->Xo->Prop}{St:Nat->Xq->Prop}
inductive xi(prog:Xr)(w:Xs)(h:Heap)(S:Xp)(M:Int->Prop)(n:Nat):Prop
 |mk(es:Array (Int×Xo))(ep:Nat)(t:SetTable)(s:mB prog w h S es ep t)(m:∀i,L4 es i↔M i)(l:es.size<=n)
def xi.keep{h h':Heap}{S:Xp}{M:Int->Prop}{n:Nat}(x:xi prog w h S M n)(k:∀o,h.get? S=some o->h'.get? S=some o):xi prog w h' S M n:=
 let ⟨e,a,t,s,m,l⟩:=x
 ⟨e,a,t,⟨k _ s.ob,s.el,s.bd,s.ft,s.up,s.ld⟩,m,l⟩
def Mc(W:WalksS prog w A.in1 I fp wr G n P St)(S:Xp)(M:S ∉ fp)(key:Nat->Int)(m:∀i v,P i v->v.isInt (key i)=true)
  (f:n+1<scanBound):∀(k i:Nat) (s:Xq),n-i=k->i<=n->St i s->xi prog w s.heap S (λc=>∃j,j<i/\c=key j) i->
   (∀s',Moved (S::wr) G s s'->xi prog w s'.heap S (λc=>∃j,j<n/\c=key j) n->R (.ok<|.ret .none) s')->
   codeAny (model prog w) A (.builtin "set.update.loop" ⟨[.ref S,.ref I],[]⟩) R s:=by
 have B:S ∉ wr:=λh=>M<|W.sub _ h;have a:∀b∈wr,b∈S::wr:=λb f=>RK _ f;intro k
 induction k with
 |zero=>
  intro i s Q X F K L;obtain rfl:i=n:=by lia
  refine Sl SO ?_;rw[R7 RT _];show wpAny _ A.in1 (pyNext (.ref I) >>= _) _ _ s;refine QH<|W.done s _ _ F λs' y=>?_;show wpAny _ A.in1 (ret Value.none) _ _ s';exact QI<|L s' (y.mono a)<|K.keep λo e=>y.heap S o B e
 |succ k Y=>
  intro i s Q X F K L;have l:i<n:=by lia
  refine Sl SO ?_;rw[R7 RT _];show wpAny _ A.in1 (pyNext (.ref I) >>= _) _ _ s;refine QH<|W.item i s _ _ l F λv s' Z z y=>?_;have r:=m i v Z;obtain⟨es,ep,t,E,U,l1⟩:=K.keep λo e=>y.heap S o B e;show wpAny _ A.in1 (holding [v] (setAdd S v) >>= _) _ _ s';refine QH<|Rv ?_;unfold setAdd;refine Rv<|QH<|(intKind prog w).pyHash (k:=key i) r ?_;refine Ju (s:={ s' with toks:=s'.toks+1 }) r E (by lia) λb g T C O q H N l2=>?_;refine QI ⟨Tn RT _,Y (i+1) _ (by lia) l (W.frame _ s' _ _ z (T6 _) λb f o e=>?_) ⟨T,C,O,H,λc=>?_,by lia⟩ λD x p=>?_⟩
  ·rw[q.2 b<|by rintro rfl;exact M f]
   exact e
  ·rw[N,U]
   exact⟨λh=>h.elim (λ⟨j,J,e⟩=>⟨j,SX J,e⟩) λe=>⟨i,Tv i,e⟩,λ⟨j,J,e⟩=>(Nat.lt_succ_iff_lt_or_eq.mp J).elim (λh=>.inl ⟨j,h,e⟩) λh=>.inr<|h ▸ e⟩
  ·refine L D (Moved.trans W.gtrans ((y.mono a).then_heap (T6 _) λb o f e=>?_) x) p
   rw[q.2 b<|by rintro rfl;exact f RD];exact e
end
section
variable {prog:Xr}{w:Xs}{A:Xv}{E:Xy}{s:Xq}
def LC (a:Xo){Q₁:Xy}(h:∀e:Bool,e=true\/fh w=true->Q₁ (.ref s.heap.objs.size) { s with heap:=s.heap.push { cls:=.type "set",dict:=none,data:=.set #[] 0 (.fresh 0 0 e) } }):
  codeAny (model prog w) A (.call (.builtin "set.__new__") ⟨[.type "set",a],[]⟩) (wants Q₁ E) s:=by
 refine WI ?_;show wpAny _ A.in1 (do checkBuiltinCall "set.__new__" ⟨[.type "set",a],[]⟩;again (.builtin "set.__new__" ⟨[.type "set",a],[]⟩)) _ _ s;refine QH<|Vc (F.newCall_set_1 a)<|QI ⟨Tn W4 _,Sl PySem.F.entry_set_new ?_⟩;rw[R7 W4 _];unfold Builtin.«set.__new__» Builtin.Frozenset.newClass;have f:=sub_set_self;obtain⟨i,g,d,j,l⟩:=s;dsimp only
 wp_walk
 refine So<|QI ?_;dsimp only;simp only[newObj];refine QH<|wpAny_alloc<|QI<|QI<|h _ ?_;show(!fh w)=true\/fh w=true;cases fh w
 ·exact .inl rfl
 ·exact .inr rfl
def iz{l:Xp}{items:Array Xo}{key:Nat->Int}{Q:Xy}(hh:A.handled=none)(hl:s.heap.IsList l items)(hv:∀(i:Nat)(v:Xo),items[i]? =some v->v.isInt (key i)=true)
  (H:items.size+1<scanBound)
  (h:∀(g:Heap)(I:Nat),xi prog w g s.heap.objs.size (λc=>∃j,j<items.size/\c=key j) items.size->(∀b o,b<s.heap.objs.size->s.heap.get? b=some o->g.get? b=some o)->Q (.ref s.heap.objs.size) { s with heap:=g,toks:=I }):
  wpAny (model prog w) A (call (.type "set") [.ref l]) Q E s:=by
 obtain⟨c,tl,ab⟩:=Sz.mro;have M:=Sz.made;have Y:=Sz.sub;refine V5<|WI ?_;show wpAny _ _ (callAny (.type "set") _) _ _ _;refine QI ⟨Code.quiet_builtin _<|by decide+kernel,Sl Wv ?_⟩;rw[Around.under_plain (weight_type_call_type "set" [.ref l] []) rfl];have f1:=Sz.notType;have f2:=Sz.canCreate;have f3:=WJ<|.ref l
 repeat (any_goals (first|assumption|wp_step))
 refine Ti (LC (.ref l) (E:=E) (Q₁:=λB u=>∃a:Bool,(a=true\/fh w=true)/\B=.ref s.heap.objs.size/\u={ s with heap:=s.heap.push { cls:=.type "set",dict:=none,data:=.set #[] 0 (.fresh 0 0 a) } }) λa q=>⟨a,q,rfl,rfl⟩) λr u hr=>?_;cases r with
 |error e=>exact hr
 |ok fl=>
  cases fl with
  |ret B=>
   obtain⟨a,z,rfl,rfl⟩:=hr;have Z:(s.heap.push { cls:=.type "set",dict:=none,data:=.set #[] 0 (.fresh 0 0 a) }).get? s.heap.objs.size=some { cls:=.type "set",dict:=none,data:=.set #[] 0 (.fresh 0 0 a) }:=QX _ rfl;have hT:Shared.TypeIs { s with heap:=s.heap.push { cls:=.type "set",dict:=none,data:=.set #[] 0 (.fresh 0 0 a) } } (.ref s.heap.objs.size) "set" :=⟨_,Z,rfl⟩;have ad:=Sz.init.lookup;have ac:=Sz.init.bind<|.ref s.heap.objs.size
   repeat (any_goals (first|assumption|wp_step))
   refine Ti (codeAny_call_builtin (R:=wants (λr u=>r=.none/\∃g I,u={ s with heap:=g,toks:=I }/\xi prog w g s.heap.objs.size (λc=>∃j,j<items.size/\c=key j) items.size/\(∀b o,b<s.heap.objs.size->s.heap.get? b=some o->g.get? b=some o)) E)
    Sz.init.plain WK (check_set_init_1 hT ?_)) λr2 u m=>?_
   ·obtain⟨⟨U,n,N,f⟩,X,F,W,C⟩:=hl
    simp only at F C;subst F;subst C;have D:(s.heap.push { cls:=.type "set",dict:=none,data:=.set #[] 0 (.fresh 0 0 a) }).get? l=some { cls:=.type "list",dict:=n,data:=.seq items W,slots:=f }:=QL _ X;have k1:=Xc;have k2:=We;have k3:(Value.type "list" == Value.type "dict")=false:=by decide
    have G:(s.heap.push { cls:=.type "set",dict:=none,data:=.set #[] 0 (.fresh 0 0 a) }).IsList l items:=⟨_,D,rfl,W,rfl⟩;unfold Builtin.«set.__init__» noKeywords Builtin.Frozenset.updateFrom;generalize O:pyIter=PI
    wp_walk
    subst O;refine TX G ?_;refine QH<|Xd ?_;have x:l<s.heap.objs.size:=Ri X;have y:l≠(s.heap.push { cls:=.type "set",dict:=none,data:=.set #[] 0 (.fresh 0 0 a) }).objs.size:=by
     rw[Ui];exact Rb<|SX x
    have Yz:s.heap.objs.size ∉ [(s.heap.push { cls:=.type "set",dict:=none,data:=.set #[] 0 (.fresh 0 0 a) }).objs.size,l]:=by
     rw[Ui];simp only[mem_cons,not_mem_nil,or_false,not_or];exact⟨Rb<|Tv _,UH x⟩
    refine Mc ((V6 (show A.in1.in1.in1.handled=none by simp[hh]) _ l y items).toS) s.heap.objs.size Yz key hv H (items.size-0) 0 _ (by lia) (RQ _) ⟨⟨_,QX _ rfl,rfl,rfl⟩,G.push _⟩ ?_ ?_
    ·exact⟨#[],0,_,⟨QL _ Z,(λe T=>nomatch T),by decide,rfl,List.Pairwise.nil,z⟩,λi=>⟨(λ⟨e,T,_⟩=>nomatch T),λ⟨j,hj,_⟩=>absurd hj<|Wb _⟩,QP _⟩
    ·intro s' J p
     obtain⟨g,g',d',P,L⟩:=s';have eg:g'=s.gens:=J.gens;have ed:d'=s.drawn:=J.drawn;have eo:L=s.os:=J.os;subst eg ed eo;show wpAny _ _ _ _ _ _;refine QI ?_;show wpAny _ _ (ret Value.none) _ _ _;refine QI ⟨rfl,g,P,rfl,p,λb o H e=>?_⟩;have S:b≠(s.heap.push { cls:=.type "set",dict:=none,data:=.set #[] 0 (.fresh 0 0 a) }).objs.size:=by
      rw[Ui];exact Rb<|SX H
     exact J.heap b o (by simp only[mem_cons,not_mem_nil,or_false,not_or];exact⟨Rb H,S⟩)<|QL _<|QL _ e
   ·cases r2 with
    |error e=>exact m
    |ok K=>
     cases K with
     |ret r=>
      obtain⟨rfl,g,I,rfl,p,Yu⟩:=m
      repeat (any_goals (first|assumption|wp_step))
      exact h _ _ p Yu
     |_=>exact m.elim
  |_=>exact hr.elim
end
def iG:Slot "set_iterator" "__next__" "set_iterator.__next__" :=.of (owner:= "set_iterator") (n:= "__next__") (by rw[UM,TU];kernel_rfl) (by decide+kernel) (by decide+kernel) (by decide+kernel) (by first|exact .inl (by decide+kernel)|exact .inr<|by decide+kernel) (by rw[VO];kernel_rfl)
def zg:entryFor table "set_iterator.__next__" =some Builtin.«set_iterator.__next__» :=entryFor_of_tree (by kernel_rfl)
def Az(a:Xo):argsOk "set_iterator.__next__" ⟨[a],[]⟩:=by
 unfold argsOk;kernel_rfl
def HU:entryFor table "set.__iter__" =some Builtin.«frozenset.__iter__» :=Xh (id':= "frozenset.__iter__") (by kernel_rfl) rfl (by decide+kernel) (by kernel_rfl)
def Jg(f:Xo)(k:Nat)(S:Xo)(n ep:Nat):Obj:={ cls:=.type "set_iterator",data:=.fields #[f,.int k 0,S,.int n 0,.int ep 0] }
inductive qI(w:Xs)(h:Heap)(I S T:Xp)(es:Array (Int×Xo))(ep:Nat)(t:SetTable)(vs:Xw Xo)(k:Nat):Prop
 |plain (nb:fh w=false)(nd:t.plain=true\/es.size<=1)(f:vs=es.toList.map (·.2))(j:Nat)(o:h.get? I=some (Jg (.int j 0) k (.ref S) es.size ep))(l:SetTable.below t.place j=k)
 |text (g:fh w=true)(f:vs=(pickOrder (w.params.setOrder S ep) es).toList.map (·.2))(o:h.get? I=some (Jg (.int 0 0) k (.ref S) es.size ep))
 |drawn (nb:fh w=false) (a:Xw Nat) (m:h.get? T=some (seqObj "tuple" (a.map λi=>rawInt (i:Nat)).toArray 0)) (f:∀k i:Nat,a[k]? =some i->∃e:Int×Xo,es[i]? =some e/\vs[k]? =some e.2) (ol:a.length=es.size) (n:vs.length=a.length) (o:h.get? I=some (Jg (.ref T) k (.ref S) es.size ep))
section
variable {prog:Xr}{w:Xs}{A:Xv}{E:Xy}{s:Xq}{I S T:Xp}{es:Array (Int×Xo)}{ep:Nat}{t:SetTable}{vs:Xw Xo}{k:Nat}
def qI.ob{h:Heap}(x:qI w h I S T es ep t vs k):∃f,h.get? I=some (Jg f k (.ref S) es.size ep):=by
 cases x with
 |plain _ _ _ j o _=>exact⟨_,o⟩
 |text _ _ o=>exact⟨_,o⟩
 |drawn _ _ _ _ _ _ o=>exact⟨_,o⟩
end
section
variable {prog:Xr}{w:Xs}{A:Xv}{E:Xy}{s:Xq}{I S T:Xp}{es:Array (Int×Xo)}{ep:Nat}{t:SetTable}{vs:Xw Xo}{k:Nat}
def CU{h:Heap}{f g:Xo}{k n ep:Nat}{S:Xo}(a:h.get? I=some (Jg f k S n ep)):(h.update I<|Obj.mapFields (·.setIfInBounds 0 g)).get? I=some (Jg g k S n ep):=(Ss _ a<|VE<|U7 rfl _).trans rfl
def KG{h:Heap}{f:Xo}{k n ep:Nat}{S:Xo}(a:h.get? I=some (Jg f k S n ep)):(h.update I<|Obj.mapFields (·.setIfInBounds 1 (rawInt<|(k:Int)+1))).get? I=some (Jg f (k+1) S n ep):=(Ss _ a<|VE<|U7 rfl _).trans rfl
def Ia{Q:Xu Xo->Xq->Prop}{v:Xo}(G:qI w s.heap I S T es ep t vs k)(g:mB prog w s.heap S es ep t)(K:T≠I)(P:S≠I)(n:vs[k]? =some v)
  (q:∀h',qI w h' I S T es ep t vs (k+1)->Heap.SameBut I s.heap h'->Q (some v) { s with heap:=h' }):wpAny (model prog w) A (pyNext<|.ref I) Q E s:=by
 obtain⟨f,a⟩:=G.ob;unfold pyNext;refine QH<|TQ<|R3 (name:=Str.ofString "__next__") ⟨_,a,rfl⟩ iG<|Rt iG ⟨_,a,rfl⟩ zg ?_ (Az _);unfold Builtin.«set_iterator.__next__» slotArgs;refine QH<|QI<|QH<|SQ a rfl ?_;refine QH<|V2 g.ob rfl g.ft ?_;rw[QO<|by simp];cases G with
 |plain r nd p j o N=>
  rw[a]at o;cases o;subst p;rw[QY]at n;obtain⟨⟨J,x⟩,m,rfl⟩:=RC.mp n;rw[Rc]at m;unfold setNext setsByText;refine QH<|QH<|Sx g.ob rfl g.ft<|QH<|QH<|So<|QI ?_;rw[QO<|by rw[show(model prog w).w.params.followText "set-order" =false from r];decide];refine Rk (λh=>?_) λ_=>?_
  ·have h:(!t.plain&&decide (es.size > 1))=true:=h
   obtain nd|nd:=nd
   ·rw[nd]at h
    cases h
   ·rw[QU<|by lia,SF]at h
    cases h
  refine QH ?_;show wpAny _ _ (if(!t.led && !es.isEmpty)=true then _ else pure ()) _ _ _;rw[QO<|by rw[g.ld.resolve_right<|by rw[r];decide];exact bF0];have L:((j:Int)).toNat=j:=rfl;rw[L,N];dsimp only;rw[m];have z:k<t.place.size:=by
   have:=(TM.mp m).1;have:=g.ft;simp only[SetTable.fits,and_eq_true,beq_iff_eq]at this;lia
  have F:t.place[k]? =some t.place[k]:=RB z;rw[F];refine QI<|QI ?_;show wpAny _ _ (setField (.ref I) 0 (rawInt ((t.place[k]+1:Nat):Int)) >>= λ_=>setField (.ref I) 1 (rawInt<|(k:Int)+1) >>= λ_=>ret x) _ _ s;refine QH (Sj a rfl (by simp)<|QH<|Sj (CU a) rfl (by simp)<|QI ⟨x,rfl,QI<|q _ (.plain r nd rfl (t.place[k]+1) (KG<|CU a)<|yS g.up F)<|(Rl ..).trans<|Rl ..⟩)
 |text y p o=>
  rw[a]at o;cases o;subst p;rw[QY]at n;obtain⟨⟨J,x⟩,m,rfl⟩:=RC.mp n;rw[Rc]at m;show wpAny _ _ (setNext S (0:Int).toNat (k:Int).toNat (ep:Int).toNat >>= _) _ _ s;unfold setNext setsByText setWalk;refine QH<|QH<|Sx g.ob rfl g.ft<|QH<|QH<|So<|QI ?_;rw[QR<|show(model prog w).w.params.followText "set-order" =true from y,QO<|by simp];refine QH<|QH<|Sx g.ob rfl g.ft<|QH ?_;unfold setsByText;refine QH<|So<|QI ?_;rw[QR<|show(model prog w).w.params.followText "set-order" =true from y];refine QH<|So<|QI<|QI ?_;show wpAny _ _ (match Option.map (λe:Int×Xo=>(e.2,0)) (pickOrder (w.params.setOrder S ep) es)[k]? with|some (x,next)=>_|none=>_) _ _ s;rw[m];show wpAny _ _ (setField (.ref I) 0 (rawInt ((0:Nat):Int)) >>= λ_=>setField (.ref I) 1 (rawInt<|(k:Int)+1) >>= λ_=>ret x) _ _ s;refine QH (Sj a rfl (by simp)<|QH<|Sj (CU a) rfl (by simp)<|QI ⟨x,rfl,QI<|q _ (.text y rfl<|KG<|CU a)<|(Rl ..).trans<|Rl ..⟩)
 |drawn r l C p O H o=>
  rw[a]at o;cases o;have z:k<l.length:=H ▸ (gI0.mp n).1;have B:l[k]? =some l[k]:=QJ z;obtain⟨⟨J,x⟩,m,D⟩:=p k _ B;rw[n]at D;cases D;show wpAny _ _ (seqItems? (.ref T) >>= _) _ _ s;refine QH<|U4 C rfl ?_;have M:(l.map λi=>rawInt (i:Nat)).toArray[((k:Int)).toNat]? =some (.int (l[k]:Nat) 0):=by
   rw[Vf,QY,show((k:Int)).toNat=k from rfl,B];rfl
  show wpAny _ _ (match (l.map λi=>rawInt (i:Nat)).toArray[((k:Int)).toNat]? with|some (.int place _)=>_|some _=>_|none=>_) _ _ s;rw[M];show wpAny _ _ (setNextDrawn S (l[k]:Int).toNat (ep:Int).toNat >>= _) _ _ s;unfold setNextDrawn;refine QH<|QH<|Sx g.ob rfl g.ft ?_;dsimp only;rw[QO<|by simp];show wpAny _ _ (match es[((l[k]:Nat):Int).toNat]? with|some (_,x)=>_|_=>_) _ _ s;rw[show((l[k]:Nat):Int).toNat=l[k] from rfl,m];refine QI ?_;refine QH (Sj a rfl (by simp)<|QI ⟨_,rfl,QI<|q _ (.drawn r l (by rw[(Rl ..).2 T K];exact C) p O H<|KG a)<|Rl ..⟩)
end
section
variable {prog:Xr}{w:Xs}{A:Xv}{E:Xy}{s:Xq}{I S T:Xp}{es:Array (Int×Xo)}{ep:Nat}{t:SetTable}{vs:Xw Xo}{k:Nat}
def xH {Q:Fin->Xq->Prop}(f:A.handled=none) (q:∀h' e,(∀b o,s.heap.get? b=some o->h'.get? b=some o)->Shared.TypeIs { s with heap:=h' } e "StopIteration" ->E e { s with heap:=h' }):wpAny (model prog w) A (newExc (.type "StopIteration") [] >>= λe=>raiseNew e) Q E s:=by
 refine QH ?_;simp only[newExc,newTuple];refine QH (RS ?_ (by size_fits));refine QH (m:=firstArgMember _ _) (Vc (a:=Value.none) (by first|rfl| (simp only[firstArgMember];rfl))<|RS ?_ (by size_fits));simp only[raiseNew];refine QH<|wpAny_handled ?_;rw[f];refine QH<|QI<|wpAny_throw<|q _ (.ref _) (λb o e=>QL _<|QL _ e) ⟨_,QX _ rfl,rfl⟩
theorem tT{α:Type}:∀{l:Xw α}{i:Nat}(h:i<l.length),(l[i]::l.eraseIdx i).Perm l
 |a::l,0,h=>.refl _
 |a::l,i+1,h=>(List.Perm.swap ..).trans<|(tT (l:=l)<|WQ h).cons a
theorem rT{α:Type}(next:Nat->Nat):∀(f k:Nat) (left:Xw α) (out:Array α),left.length=f->(pickOrder.go next f k left out).toList.Perm (out.toList++left)
 |0,k,left,out,h=>by
  rw[Rm h,Ry];exact .refl _
 |f+1,k,left,out,h=>by
  unfold pickOrder.go;have a:next k%left.length<left.length:=Nat.mod_lt _ (by lia);rw[QJ a];refine(rT next f _ _ _ (by rw[Wi a];lia)).trans ?_;rw[VR,QS];refine List.Perm.append_left _ ?_;exact(tT a)
def uU{α:Type}{next:Nat->Nat}{xs:Array α}:(pickOrder next xs).toList.Perm xs.toList:=by
 have:=rT next xs.size 0 xs.toList #[] rfl;exact this
def qI.len{h:Heap}(x:qI w h I S T es ep t vs k):vs.length=es.size:=by
 cases x with
 |plain _ _ a j o _=>rw[a,QM,QZ]
 |text _ a o=>rw[a,QM,uU.length_eq,QZ]
 |drawn _ _ _ _ f e o=>exact e.trans f
def Ih{Q:Xu Xo->Xq->Prop}(D:A.handled=none)(n:qI w s.heap I S T es ep t vs es.size)(g:mB prog w s.heap S es ep t)
  (q:∀h',Heap.ExtBut I s.heap h'->Q none { s with heap:=h' }):wpAny (model prog w) A (pyNext<|.ref I) Q E s:=by
 obtain⟨f,a⟩:=n.ob;have G:=n.len;unfold pyNext;refine QH<|TQ<|R3 (name:=Str.ofString "__next__") ⟨_,a,rfl⟩ iG<|Rt iG ⟨_,a,rfl⟩ zg ?_ (Az _);unfold Builtin.«set_iterator.__next__» slotArgs;refine QH<|QI<|QH<|SQ a rfl ?_;refine QH<|V2 g.ob rfl g.ft ?_;rw[QO<|by simp];have l:∀{r:Heap}{K:Fin->Xq->Prop},Heap.ExtBut I s.heap r->wpAny (model prog w) A.in1 (newExc (.type "StopIteration") [] >>= λe=>raiseNew e) K (λe z=>wpAny (model prog w) A (isInstance e (.type "StopIteration") >>= λb=>if b=true then pure none else throw e) Q E z) { s with heap:=r }:=λx=>xH D λh' e B ty=>
  QH (Ts (T:= "StopIteration") (b:=true) ty Xg<|QI<|q _ λb o m F=>B b o<|x b o m F)
 have H:es[es.size]? =none:=Vm<|QP _;cases n with
 |plain m nd y j o L=>
  rw[a]at o;cases o;unfold setNext setsByText;refine QH<|QH<|Sx g.ob rfl g.ft<|QH<|QH<|So<|QI ?_;rw[QO<|by rw[show(model prog w).w.params.followText "set-order" =false from m];decide];refine Rk (λh=>?_) λ_=>?_
  ·have h:(!t.plain&&decide (es.size > 1))=true:=h
   obtain nd|nd:=nd
   ·rw[nd]at h
    cases h
   ·rw[QU<|by lia,SF]at h
    cases h
  refine QH ?_;show wpAny _ _ (if(!t.led && !es.isEmpty)=true then _ else pure ()) _ _ _;rw[QO<|by rw[g.ld.resolve_right<|by rw[m];decide];exact bF0,show((j:Int)).toNat=j from rfl,L];dsimp only;rw[H];refine QI<|QI ?_;show wpAny _ _ (setField (.ref I) 2 .none >>= λ_=>newExc (.type "StopIteration") [] >>= λe=>raiseNew e) _ _ s;exact QH (Sj a rfl (by simp)<|l (Rl ..).extBut)
 |text p y o=>
  rw[a]at o;cases o;show wpAny _ _ (setNext S (0:Int).toNat (es.size:Int).toNat (ep:Int).toNat >>= _) _ _ s;unfold setNext setsByText setWalk;refine QH<|QH<|Sx g.ob rfl g.ft<|QH<|QH<|So<|QI ?_;rw[QR<|show(model prog w).w.params.followText "set-order" =true from p,QO<|by simp];refine QH<|QH<|Sx g.ob rfl g.ft<|QH ?_;unfold setsByText;refine QH<|So<|QI ?_;rw[QR<|show(model prog w).w.params.followText "set-order" =true from p];refine QH<|So<|QI<|QI ?_;show wpAny _ _ (match Option.map (λe:Int×Xo=>(e.2,0)) (pickOrder (w.params.setOrder S ep) es)[es.size]? with|some (x,next)=>_|none=>_) _ _ s;rw[Vm<|by rw[<-QZ,uU.length_eq,QZ];exact QP _];show wpAny _ _ (setField (.ref I) 2 .none >>= λ_=>newExc (.type "StopIteration") [] >>= λe=>raiseNew e) _ _ s;exact QH (Sj a rfl (by simp)<|l (Rl ..).extBut)
 |drawn m v C y M G o=>
  rw[a]at o;cases o;show wpAny _ _ (seqItems? (.ref T) >>= _) _ _ s;refine QH<|U4 C rfl ?_;have J:(v.map λi=>rawInt (i:Nat)).toArray[((es.size:Int)).toNat]? =none:=by
   rw[Vf,QY,show((es.size:Int)).toNat=es.size from rfl,Tx<|by lia];rfl
  show wpAny _ _ (match (v.map λi=>rawInt (i:Nat)).toArray[((es.size:Int)).toNat]? with|some (.int place _)=>_|some _=>_|none=>_) _ _ s;rw[J];show wpAny _ _ (setField (.ref I) 0 (rawInt 0) >>= λ_=>setField (.ref I) 2 .none >>= λ_=>newExc (.type "StopIteration") [] >>= λe=>raiseNew e) _ _ s;exact QH (Sj a rfl (by simp)<|QH<|Sj (CU a) rfl (by simp)<|l ((Rl ..).trans<|Rl ..).extBut)
end
def Je:Slot "set_iterator" "__iter__" "set_iterator.__iter__" :=.of (owner:= "set_iterator") (n:= "__iter__") (by rw[UM,TU];kernel_rfl) (by decide+kernel) (by decide+kernel) (by decide+kernel) (by first|exact .inl (by decide+kernel)|exact .inr<|by decide+kernel) (by rw[VO];kernel_rfl)
def Oe:entryFor table "set_iterator.__iter__" =some Builtin.«dict_keyiterator.__iter__» :=Xh (id':= "dict_keyiterator.__iter__") (by kernel_rfl) rfl (by decide+kernel) (by kernel_rfl)
def MY(a:Xo):argsOk "set_iterator.__iter__" ⟨[a],[]⟩:=by
 unfold argsOk;kernel_rfl
section
variable {prog:Xr}{w:Xs}{A:Xv}{E:Xy}{s:Xq}{I S T:Xp}{es:Array (Int×Xo)}{ep:Nat}{t:SetTable}{vs:Xw Xo}{k:Nat}
def mB.keep{h h':Heap}(x:mB prog w h S es ep t)(k:∀o,h.get? S=some o->h'.get? S=some o):mB prog w h' S es ep t:=⟨k _ x.ob,x.el,x.bd,x.ft,x.up,x.ld⟩
def qI.keep{h h':Heap}(x:qI w h I S T es ep t vs k)(e:∀o,h.get? I=some o->h'.get? I=some o)(g:∀o,h.get? T=some o->h'.get? T=some o):qI w h' I S T es ep t vs k:=by
 cases x with
 |plain f nd a j o l=>exact .plain f nd a j (e _ o) l
 |text i a o=>exact .text i a<|e _ o
 |drawn f p m a q n o=>exact .drawn f p (g _ m) a q n<|e _ o
def walks(D:A.handled=none)(B:T≠I)(n:S≠I):WalksS prog w A I [I,S,T] [I] (λa b=>b=a) vs.length (λk v=>vs[k]? =some v) (λk s=>qI w s.heap I S T es ep t vs k/\mB prog w s.heap S es ep t) where
 sub:=λb h=>by
  rw[QQ.mp h];exact .head _
 grefl:=λ_=>rfl
 gtrans:=λ_ _ _ C y=>y.trans C
 frame:=λi s l G g _ j=>⟨g.1.keep (j _<|.head _)<|j _<|.tail _<|.tail _<|.head _,g.2.keep<|j _<|.tail _<|.head _⟩
 item:=λi s Q E p g q=>Ia g.1 g.2 B n (QJ p) λl F r=>q _ _ (QJ p) ⟨F,g.2.keep λo e=>by rw[r.2 S n];exact e⟩ ⟨λb o h e=>by rw[show l.get? b=_ from r.2 b λz=>h<|z ▸ .head _];exact e,rfl,rfl,rfl,QP _⟩
 done:=λs Q E g q=>Ih D (by have:=g.1;rwa [g.1.len]at this) g.2 λl x=>q _ ⟨λb o h e=>x b o (λz=>h<|z ▸ .head _) e,rfl,rfl,rfl,QP _⟩
 self:=λi s Q E g q=>by
  obtain⟨f,m⟩:=g.1.ob;refine Uz ⟨_,m,rfl⟩ Je<|Rt Je ⟨_,m,rfl⟩ Oe ?_ (MY _);exact QI ⟨_,rfl,"set_iterator",_,⟨_,m,rfl⟩,iG.lookup,q⟩
theorem Aq{α:Type}{Q:Xw α->Xq->Prop}:∀(n:Nat) (xs:Xw α) (s:Xq),xs.length=n->(∀ys d,ys.Perm xs->Q ys { s with drawn:=d })->wpAny (model prog w) A (drawOrder n xs) Q E s
 |0,xs,s,h,q=>by
  rw[Rm h]at q ⊢;exact QI<|q [] s.drawn<|.refl _
 |n+1,[],s,h,q=>by cases h
 |n+1,a::r,s,h,q=>by
  unfold drawOrder;refine QH ?_;intro Γ p g;refine⟨by rw[h];lia,?_⟩;have e:(model prog w).w.draws .order (s.drawn.get .order)%(a::r).length<(a::r).length:=Nat.mod_lt _ (by rw[h];lia);generalize (model prog w).w.draws .order (s.drawn.get .order)%(a::r).length=i at e;show wpAny (model prog w) A _ Q E { s with drawn:=s.drawn.bump .order };rw[QJ e];exact QH (Aq n _ _ (by rw[Wi e,h];rfl) λys d f=>QI<|q _ d<|(f.cons _).trans<|tT e)
def GL{Q:Xy}(a:mB prog w s.heap S es ep t)(q:∀(I T:Xp)(h':Heap)(d:Drawn)(vs:Xw Xo),qI w h' I S T es ep t vs 0->vs.Perm (es.toList.map (·.2))->(∀b o,s.heap.get? b=some o->h'.get? b=some o)->s.heap.objs.size<=I->T≠I->T=S\/s.heap.objs.size<=T->Q (.ref I) { s with heap:=h',drawn:=d }):wpAny (model prog w) A (pyIter<|.ref S) Q E s:=by
 have n:s.TypeIs (.ref S) "set" :=⟨_,a.ob,rfl⟩;refine Uz n W5<|Rt W5 n HU ?_ (PySem.F.args_set_iter_1 _);unfold Builtin.«frozenset.__iter__» Builtin.Frozenset.slot0 slotArgs Builtin.Frozenset.addrOf Builtin.Frozenset.sizeOf setDrawn setsByText;refine QH<|QH<|QI<|QI<|QH<|QH<|V2 a.ob rfl a.ft<|QI ?_;refine QH<|QH<|Sx a.ob rfl a.ft<|QH<|QH<|So<|QI<|QI ?_;refine Rk (λh=>?_) λh=>?_
 ·have h:(!fh w&&(!t.plain&&decide (es.size > 1)))=true:=h
  have v:fh w=false:=by
   cases g:fh w with
   |false=>rfl
   |true=>rw[g]at h;cases h
  have D:=UC a.bd;refine QH (Aq es.size (List.range es.size) s SI λl d j=>QH<|VT ?_ (by rw[QM,j.length_eq,SI];exact D));have r:=a.keep (h':=s.heap.push { cls:=.type "tuple",data:=.seq (l.map λi=>rawInt (i:Nat)).toArray }) λo e=>QL _ e;refine QH<|wpAny_setEpoch_of r.ob rfl r.ft<|QH<|RS<|QI ⟨_,rfl,"set_iterator",_,⟨_,QX _ rfl,rfl⟩,iG.lookup,?_⟩;have x:∀i∈l,i<es.size:=λi B=>Su.mp<|j.mem_iff.mp B;refine q _ s.heap.objs.size _ d (l.map λi=>(es[i]?.getD (0,.none)).2) (.drawn v l ?_ (λk i m=>?_) (j.length_eq.trans SI) (QM _) (QX _ rfl)) ?_ (λb o e=>QL _<|QL _ e) ?_ ?_ (.inr<|QP _)
  ·exact QL _<|QX _ rfl
  ·have f:=x i (QN m)
   refine⟨es[i],RB f,?_⟩;rw[QY,m,Xj,RB f];rfl
  ·refine(j.map _).trans (.of_eq ?_)
   refine UU λi=>?_;have C:es.toList[i]? =es[i]? :=by rw[Rc]
   rw[QY,QY,C];by_cases f:i<es.size
   ·rw[List.getElem?_range f,Xj,RB f]
    rfl
   ·rw[Tx<|by rw[SI];lia,Vm<|by lia]
    rfl
  ·rw[Ui]
   exact T6 _
  ·rw[Ui]
   exact Rb<|Tv _
 ·have h:¬(!fh w&&(!t.plain&&decide (es.size > 1)))=true:=h
  refine QH<|QI<|QH<|wpAny_setEpoch_of a.ob rfl a.ft<|QH<|RS<|QI ⟨_,rfl,"set_iterator",_,⟨_,QX _ rfl,rfl⟩,iG.lookup,?_⟩;have p:S≠s.heap.objs.size:=Rb<|Ri a.ob;cases g:fh w with
  |true=>exact q _ S _ s.drawn _ (.text g rfl<|QX _ rfl) (uU.map _) (λb o e=>QL _ e) (QP _) p<|.inl rfl
  |false=>
   rw[g]at h;refine q _ S _ s.drawn _ (.plain g ?_ rfl 0 (QX _ rfl) (yZ a.up)) (.refl _) (λb o e=>QL _ e) (QP _) p<|.inl rfl;cases y:t.plain with
   |true=>exact .inl rfl
   |false=>
    rw[y]at h;refine .inr<|not_lt.mp λz=>h ?_;rw[dT0 z];rfl
end
section
variable {prog:Xr}{w:Xs}{A:Xv}{E:Xy}{s:Xq}{I S T:Xp}{es:Array (Int×Xo)}{ep:Nat}{t:SetTable}{vs:Xw Xo}{k:Nat}
def D1 {Q:Bool->Xq->Prop}(f:s.TypeIs (.ref S) "set") (h:Q false s):wpAny (model prog w) A (Builtin.List.listLengthHint<|.ref S) Q E s:=by
 unfold Builtin.List.listLengthHint;refine QH<|Te f PySem.F.slot_set_len.lookup ?_;generalize e:("set.__len__" :String)=g
 wp_delta
 rw[show splitId g=some ("set","__len__") from by subst e;decide+kernel];subst e;refine QH (Ts (T:= "set") (b:=true) f (by rw[VO];kernel_rfl) ?_);refine Rk (λa=>absurd a<|by decide) (λ_=>Rk (λ_=>QH<|Vq f<|QI h) λa=>absurd (by decide+kernel) a)
def Em{vs:Xw Xo}{a:Array Xo}(h:ItemsOf (λk v=>vs[k]? =some v) a vs.length):a.toList=vs:=by
 refine UU λi=>?_;have f:a.toList[i]? =a[i]? :=by rw[Rc]
 rw[f];by_cases e:i<a.size
 ·rw[RB e,h.2 i _<|RB e]
 ·rw[Vm<|by lia,Tx<|by rw[<-h.1];lia]
def vX{Q:Xw Xo->Xq->Prop}(hh:A.handled=none)(hS:mB prog w s.heap S es ep t)(q:∀h' d f (vs:Xw Xo),vs.Perm (es.toList.map (·.2))->(∀b o,s.heap.get? b=some o->h'.get? b=some o)->Q vs { s with heap:=h',drawn:=d,toks:=f }):wpAny (model prog w) A (collect<|.ref S) Q E s:=by
 unfold collect;refine QH<|Xd<|Sl entry_proto_collect' ?_;rw[R7 PySem.F.plain_proto_collect _];refine QH<|RS ?_;refine QI ⟨Tn WB _,Sl entry_list_iadd' ?_⟩;rw[R7 WB _];have P:(s.heap.push { cls:=.type "list",data:=.seq ([]:Xw Xo).toArray }).get? s.heap.objs.size=some { cls:=.type "list",data:=.seq #[] }:=QX _ rfl;have D:=hS.keep (h':=s.heap.push { cls:=.type "list",data:=.seq ([]:Xw Xo).toArray }) λo e=>QL _ e;have x:∀b o,s.heap.get? b=some o->(s.heap.push { cls:=.type "list",data:=.seq ([]:Xw Xo).toArray }).get? b=some o:=λb o e=>QL _ e;have p:s.heap.objs.size<(s.heap.push { cls:=.type "list",data:=.seq ([]:Xw Xo).toArray }).objs.size:=Ri P;have j:S≠s.heap.objs.size:=Rb<|Ri hS.ob;show wpAny _ A.in1 (Builtin.List.listExtendWith (.ref s.heap.objs.size) (.ref S)<|.ref s.heap.objs.size) _ _ { s with heap:=s.heap.push { cls:=.type "list",data:=.seq ([]:Xw Xo).toArray } };generalize s.heap.push { cls:=.type "list",data:=.seq ([]:Xw Xo).toArray }=h1 at P D x p;unfold Builtin.List.listExtendWith;refine QH<|Vq (T:= "set") ⟨_,D.ob,rfl⟩ ?_;have e1:Builtin.List.listSameRef (.ref s.heap.objs.size) (.ref S)=false:=by simp[Builtin.List.listSameRef,j.symm]
 simp only[e1,show(Value.type "set" == Value.type "list")=false from by decide,show(Value.type "set" == Value.type "tuple")=false from by decide,Bool.or_false,Xm,if_false];refine QH<|GL (s:={ s with heap:=h1 }) D λI T K d vs it pm M G nT hT=>?_;have U:∀b o,s.heap.get? b=some o->K.get? b=some o:=λb o e=>M b o<|x b o e;have v:=M _ _ P;have W:=D.keep<|M S;have G:h1.objs.size<=I:=G;have Z:S≠I:=Rb<|Rp (Ri D.ob) G;have H:s.heap.objs.size≠I:=Rb<|Rp p G;have y:s.heap.objs.size≠T:=hT.elim (λe=>e ▸ j.symm) λe=>Rb<|Rp p e;have hf:s.heap.objs.size ∉ [I,S,T]:=λm=>by
  obtain e|m:=Rq.mp m
  ·exact H e
  obtain e|m:=Rq.mp m
  ·exact j e.symm
  ·exact y<|QQ.mp m
 have vl:vs.length<=sizeLine:=by rw[it.len];exact UC W.bd
 refine QH<|Rv<|D1 ⟨_,W.ob,rfl⟩ ?_;have key:∀(i:Heap) (c:Nat),(∀b o,b≠s.heap.objs.size->K.get? b=some o->i.get? b=some o)->i.get? s.heap.objs.size=some { cls:=.type "list",data:=.seq #[] c }->
   codeAny (model prog w) A (.builtin "list.extend.loop" ⟨[.ref s.heap.objs.size,.ref I,.ref s.heap.objs.size],[]⟩) (λr J=>∃h' f h,r=.ok (.ret<|.ref s.heap.objs.size)/\J={ s with heap:=h',drawn:=d,toks:=f }/\(∀b o,s.heap.get? b=some o->h'.get? b=some o)/\h'.get? s.heap.objs.size=some { cls:=.type "list",dict:=none,data:=.seq vs.toArray h,slots:= #[] }) { s with heap:=i,drawn:=d }:=λi c l n=>by
  refine codeAny_extend_loopS (walks (es:=es) (ep:=ep) (t:=t) (vs:=vs) hh nT Z) vl _ hf _ vs.length 0 _ #[] c rfl (RQ _) ⟨it.keep (λo=>l I o H.symm) λo=>l T o y.symm,W.keep λo=>l S o j⟩ n (ItemsOf.nil _) λJ XM h L ab C=>?_;obtain⟨g,g',d',X,O⟩:=J;have eg:g'=s.gens:=L.gens;have ed:d'=d:=L.drawn;have eo:O=s.os:=L.os;subst eg ed eo;refine⟨g,X,h,rfl,rfl,λb o e=>L.heap b o (λm=>?_)<|l b o (Rb<|Ri e)<|U b o e,?_⟩
  ·obtain z|m:=Rq.mp m
   ·exact Rb (Ri e) z
   ·exact absurd (Rp (Ri<|x b o e) G) (by rw[QQ.mp m];exact UD _)
  ·rw[show vs.toArray=XM from by rw[<-Em C]]
   exact ab
 have last:∀(i:Heap) (c:Nat),(∀b o,b≠s.heap.objs.size->K.get? b=some o->i.get? b=some o)->i.get? s.heap.objs.size=some { cls:=.type "list",data:=.seq #[] c }->∀{R:Result->Xq->Prop},(∀h' f h,(∀b o,s.heap.get? b=some o->h'.get? b=some o)->h'.get? s.heap.objs.size=some { cls:=.type "list",dict:=none,data:=.seq vs.toArray h,slots:= #[] }->R (.ok<|.ret<|.ref s.heap.objs.size) { s with heap:=h',drawn:=d,toks:=f })->codeAny (model prog w) A (.builtin "list.extend.loop" ⟨[.ref s.heap.objs.size,.ref I,.ref s.heap.objs.size],[]⟩) R { s with heap:=i,drawn:=d }:=λi c k1 k2 R r=>Ti (key i c k1 k2) λa J ⟨h',f,h,e1,e2,e3,e4⟩=>by
  subst e1 e2;exact r h' f h e3 e4
 have B:∀h' f h,(∀b o,s.heap.get? b=some o->h'.get? b=some o)->h'.get? s.heap.objs.size=some { cls:=.type "list",dict:=none,data:=.seq vs.toArray h,slots:= #[] }->wpAny (model prog w) A (load s.heap.objs.size >>= λo=>match o.data with|.seq xs _=>pure xs.toList|_=>unsupported "internal:collect") Q E { s with heap:=h',drawn:=d,toks:=f }:=λh' f h N hd=>QH<|wpAny_load hd<|QI<|q h' d f vs pm N;refine Rk (λ_=>?_) λ_=>QI ⟨Tn Wq _,last K _ (λb o _ e=>e) v B⟩;refine QH<|Sm ?_;refine QH ?_;refine QH<|WL v rfl ?_;have n:=Ss (Obj.mapSeq (·.push Value.none)) v rfl;refine WL (hz:=by seq_fits) n rfl ?_;have Y:=Ss (Obj.mapSeq (·.pop)) n rfl;refine QI ⟨Tn Wq _,last _ _ (λb o hb e=>?_) Y B⟩;exact(Uw _ _<|To hb).trans ((Uw _ _<|To hb).trans e)
end
open TS
section
variable {prog:Xr}{w:Xs}{A:Xv}{E:Xy}{s:Xq}
def AY {a:Xp}{vs:Xw Xo}{n:Nat}{P:Fin->Xq->Prop}(m:s.heap.get? a=some (seqObj "list" vs.toArray n)) (H:∀v∈vs,∃i t,v=.int i t) (o:vs.length<=sizeLine)
  (fin:∀ys:Xw Xo,ys.Perm vs->ys.Pairwise (λa b=>numOf a<=numOf b)->P (.done<|.ret .none) { s with heap:=sortedHeap s.heap a vs ys.toArray }):wpAny (model prog w) A (Builtin.«list.sort» ⟨[.ref a],[]⟩) P E s:=by
 have R:a<s.heap.objs.size:=Ri m;obtain⟨q,j⟩:∃q,(s.heap.update a<|Obj.mapSeq λ_=>(#[]:Array Xo)).get? a=some (seqObj "list" #[] q):=⟨_,V8 m λ_=> #[]⟩;have S:(s.heap.update a<|Obj.mapSeq λ_=>(#[]:Array Xo)).objs.size=s.heap.objs.size:=size_update _ _ _;have h:(((s.heap.update a<|Obj.mapSeq λ_=> #[]).push<|seqObj "tuple" vs.toArray 0).push<|seqObj "list" #[] 0).get? a=some (seqObj "list" #[] q):=by
  rw[TY _ _ _<|by rw[W2,S];exact Rb<|SX R,TY _ _ _<|by rw[S];exact Rb R];exact j
 have sz:vs.toArray.size=vs.length:=Rw;rw[list_sort_plain];refine QH<|listItems_at m rfl ?_;refine QH (Ud m rfl ?_ (by rw[sz];exact o) (RQ _));refine QH<|Wl j rfl ?_;refine QH<|VT ?_ o;refine QH<|V4 ?_ (RQ _);refine Rv ?_;show wpAny (model prog w) A _ P E { s with heap:=((s.heap.update a<|Obj.mapSeq λ_=> #[]).push<|seqObj "tuple" vs.toArray 0).push (seqObj "list" #[] 0) };dsimp only;have r:(vs.toArray.zip vs.toArray).toList=vs.zip vs:=by rw[toList_zip]
 have ends:∀(f:SortSt),failedOf f=none->dC TS.intKind (arrOf f).toList->cQ TS.intKind (arrOf f).toList (vs.zip vs)->
   wpAny (model prog w) A (do
    let touched:=(<-seqEpoch a) != q
    Builtin.List.listUpdate (.ref a) λ_=>(arrOf f).map (·.2)
    if let some e:=failedOf f then rule "list.sort.comparison-raised";throw e
    if touched then rule "list.sort.modified";raiseError "ValueError" "list modified during sort"
    ret .none) P E { s with heap:=((s.heap.update a<|Obj.mapSeq λ_=> #[]).push<|seqObj "tuple" vs.toArray 0).push (seqObj "list" #[] 0) }:=λf W X O=>by
  have z:=O.perm.map λp:Keyed=>p.2;rw[List.map_snd_zip<|QP _]at z;have I:(arrOf f).map (·.2)=((arrOf f).toList.map (·.2)).toArray:=by
   apply Array.toList_inj.mp;rw[Array.toList_map]
  refine QH<|Wl h rfl ?_;rw[I];refine QH (Ud h rfl ?_ (RQ _) (by rw[Rw,z.length_eq];first|exact o|exact Nat.le_succ_of_le o));rw[W];simp only[bne_self_eq_false,false_eq_true,if_false];refine QI<|fin _ z ?_;rw[Vo];have M:∀p∈(arrOf f).toList,TS.key TS.intKind p=numOf p.2:=λp F=>by
   obtain⟨q1,Z⟩:=mem_zip_self<|O.mem.mp F;obtain⟨i,t,e⟩:=H _ Z;unfold TS.key;rw[<-q1,e];rfl
  refine UX (λ{x y} Y I G=>?_) X;have l:TS.intKind.blt (TS.key TS.intKind y) (TS.key TS.intKind x)=false:=G;rw[M x Y,M y I]at l;have l:decide (numOf y.2<numOf x.2)=false:=l;have:=of_decide_eq_false l;lia
 by_cases g:vs.toArray.size<2
 ·rw[QR g]
  refine QH<|QI ?_;rw[QR g,StateT.run_pure];refine QH<|QI ?_;refine ends _ rfl ?_ ?_
  ·show dC _ (vs.toArray.zip vs.toArray).toList
   rw[r];exact rN (by rw[W3,min_self,<-sz];exact g)
  ·show cQ _ (vs.toArray.zip vs.toArray).toList _
   rw[r];exact cQ.refl _
 ·rw[QO g]
  have B:rR vs.toArray=pure oneType':=by
   obtain⟨L,N,rest,e⟩:=Ee (vs:=vs) (by rw[<-sz];exact g);have:=intsAre_map vs H;rw[e]at this ⊢;exact keyKind_ints this
  refine QH<|Vc B ?_;rw[QO g];refine QH (RW (jV (κ:=TS.intKind) vK (zt:=SortSt.mk' oneType' (vs.toArray.zip vs.toArray) #[] 7 none)
   (Q:=λ_ f=>failedOf f=none/\dC TS.intKind (arrOf f).toList/\cQ TS.intKind (arrOf f).toList (vs.zip vs)) rfl rfl rfl (λp F=>?_) λf D J K=>⟨D,J,by rw[<-r];exact K⟩) ?_ λ_ _ e=>e)
  ·have C:p∈vs.zip vs:=by rw[<-r];exact F
   obtain⟨T,t',U⟩:=H _ (mem_zip_self C).2;exact⟨T,by rw[U];rfl⟩
  ·rintro⟨⟨⟩,f⟩ s2 ⟨rfl,D,J,K⟩
   exact ends f D J K
end
end SW
namespace L2
def y6(P:Xr)(w:Xs)(a:Xp)(ns:Xw Int):HO:=.ext λh=>SW.xi P w h a (λi=>i∈ns) ns.length
section
variable {X:Cx}
def iz(S:X.calm=true):eG X (.type "set") (λxs H Q=>∃(p:Xp) (ns:Xw Int),xs=[.ref p]/\cN X.K H p (ns.map V.int)/\ns.length<1000/\∀q,H q=none->Q (.ref q) (upd H q<|y6 X.prog X.w q ns)):=by
 intro Z s σ H xs Y Q I r h;obtain⟨p,ns,rfl,G,W,q⟩:=h;obtain⟨u,rfl,M⟩:=vals1 r;cases M;obtain⟨C,y,L,_⟩:=I.list G;have z:=y.length;rw[QM]at z;have f:C.toArray.size=ns.length:=by rw[Rw,z]
 refine SW.iz (key:=λi=>ns.getD i 0) (I.ok.hd S) L.isList (λi v e=>?_) (by rw[f];unfold scanBound;lia) λg F R D=>?_
 ·have n:C[i]? =some v:=by simpa using e
  have B:i<ns.length:=by
   have:=(gI0.mp n).1;lia
  obtain⟨u,P,t,rfl⟩:=y.get (show(ns.map V.int)[i]? =some (V.int ns[i]) by simp[B]);rw[P]at n;cases n;have J:ns.getD i 0=ns[i]:=by simp[List.getD,B]
  rw[J];simp[Value.isInt]
 ·have N:H s.heap.objs.size=none:=I.hok.fresh (QP _)
  obtain⟨A,O,t,x,m,l⟩:=R;rw[f]at l;have E:∀i,SW.L4 A i↔i∈ns:=λi=>by
   rw[m i,f];refine⟨λ⟨j,a,e⟩=>?_,λh=>?_⟩
   ·rw[e,show ns.getD j 0=ns[j] by simp[List.getD,a]]
    exact Tf a
   ·obtain⟨j,a,e⟩:=VL h
    exact⟨j,a,by simp[List.getD,a,e]⟩
  refine⟨.ref s.heap.objs.size,_,I.laid (t':=F) (o:=y6 X.prog X.w s.heap.objs.size ns) (λb o e=>D b o (Ri e) e) (QP _) ⟨⟨A,O,t,x,E,l⟩,⟨_,x.ob⟩,λU T p k=>p.keep k⟩,rfl,q _ N⟩
inductive Mq(P:Xr)(w:Xs)(xs:Xw V)(H:Hp)(Q:VK):Prop
 |mk(p:Xp)(ns:Xw Int)(e:xs=[.ref p])(h:H p=some (y6 P w p ns))(q:∀(l:Xp)(ms:Xw Int),H l=none->ms.Pairwise (· <=·)->(∀i,i∈ms↔i∈ns)->ms.length<=ns.length->Q (.ref l) (upd H l (.lst (ms.map V.int))))
def iJ(P:X.calm=true):eG X (.builtin "sorted") (λxs H Q=>Mq X.prog X.w xs H Q):=by
 intro R s σ H xs W Q I r h;obtain⟨p,S,rfl,N,q⟩:=h;obtain⟨u,rfl,O⟩:=vals1 r;cases O;obtain⟨⟨L,U,t,C,m,l⟩,_,_⟩:=I.hok p _ N;refine WR kind_sorted plain_sorted entry_sorted (args_sorted1 _) ?_;unfold Builtin.«sorted»;refine QH (m:=checkCount "sorted" 1 1 _)<|QI ?_;refine QH<|SW.vX (I.ok.hd P) C λn d B x y G=>?_;have D:∀v∈x,∃e∈L.toList,e.2=v/\∃i t,v=.int i t:=λv f=>by
  obtain⟨e,a,rfl⟩:=Ru.mp<|y.mem_iff.mp f;obtain⟨⟨k,A,_⟩,_⟩:=C.el e a;obtain⟨t,M⟩:=Vb A;exact⟨e,a,rfl,k,t,M⟩
 have T:x.length=L.size:=by rw[y.length_eq,QM,QZ]
 have Y:=UC C.bd;have E:(n.push<|seqObj "list" x.toArray 0).get? n.objs.size=some (seqObj "list" x.toArray 0):=QX _ rfl;refine QH (V4 ?_ (by lia));refine QH (Rv<|Rt slot_list_sort ⟨_,E,rfl⟩ entry_list_sort (SW.AY E (λv f=>let ⟨_,_,_,h⟩:=D v f;h) (by lia) λj g F=>?_)<|args_list_sort _);obtain⟨e,a⟩:=sortedHeap_at (out:=j.toArray) E;have K:Inv X R σ H { s with heap:=n,drawn:=d,toks:=B }:=I.call (g':=s.gens) (t':=B) (d':=d) (ch:=[]) (Un.kept G) (I.hok.kept G) I.bare λb z=>nomatch z;refine⟨_,rfl,QI ⟨_,rfl,.ref n.objs.size,_,K.laid (t':=B) (o:=.lst<|(j.map numOf).map V.int) (λb u J=>?_) (QP _) ⟨by rw[QM,QM,g.length_eq];lia,j,e,mD (intsAre_map j λv f=>let ⟨_,_,_,h⟩:=D v<|g.mem_iff.mp f;h),a⟩,rfl,q _ (j.map numOf) (K.hok.fresh<|QP _) (Vo.mpr F) (λi=>?_)<|by rw[QM,g.length_eq];lia⟩⟩
 ·have lt:=Ri J
  exact(sortedHeap_old (Rb lt)<|by rw[W2];exact SX lt).trans ((TY _ _ _<|Rb lt).trans J)
 ·rw[<-m i]
  refine⟨λh=>?_,λ⟨e,a,A⟩=>?_⟩
  ·obtain⟨v,f,rfl⟩:=Ru.mp h
   obtain⟨e,a,rfl,i,t,q⟩:=D v<|g.mem_iff.mp f;exact⟨e,a,by rw[q];simp[Value.isInt,numOf]⟩
  ·obtain⟨t,q⟩:=Vb A
   exact Ru.mpr ⟨e.2,g.mem_iff.mpr<|y.mem_iff.mpr<|UZ a,by rw[q];rfl⟩
end
end L2
namespace J
def iz{X:Cx}(a:X.calm=true):JF X (.type "set") (λxs H Q=>∃(p:Xp) (ns:Xw Int),xs=[.ref p]/\cN X.K H p (ns.map V.int)/\ns.length<1000/\∀q,H q=none->Q (.ref q) (upd H q<|y6 X.prog X.w q ns)):=⟨L2.iz a⟩
def iJ{X:Cx}(a:X.calm=true):JF X (.builtin "sorted") (λxs H Q=>Mq X.prog X.w xs H Q):=⟨L2.iJ a⟩
end J
namespace L2
def y8{X:Cx}:eG X (.type "dict") (λxs H Q=>∃(a:Xp) (XD:Xw (Key×V)),xs=[.ref a]/\Rd H a (.dK XD)/\∀p,H p=none->Q (.ref p) (upd H p<|.dK XD)):=by
 intro l s σ H xs j Q I r h;obtain⟨a,XD,rfl,e,q⟩:=h;obtain⟨u,rfl,g⟩:=vals1 r;cases g;exact E6 I e λp i n f=>⟨.ref p,_,f,rfl,q p n⟩
end L2
def J.Fb{X:Cx}:J.JF X (.type "dict") (λxs H Q=>∃(a:PySem.Addr) (XD:Xw (Key×V)),xs=[.ref a]/\Rd H a (.dK XD)/\∀p,H p=none->Q (.ref p) (upd H p<|.dK XD)):=⟨y8⟩
namespace L2
def nx{H H1:Hp}{p:Xp}{o:HO}(n:H p=none)(e:upd H p o=H1):cH H H1/\H1 p=some o:=e ▸ ⟨cH.upd n,cE⟩
def Hi:0<=sizeLine:=by decide
def L7:1<=sizeLine:=by decide
def tf:2<=sizeLine:=by decide
def uB:3<=sizeLine:=by decide
def MR:4<=sizeLine:=by decide
def kI {K:Frag}{T n:String}(e:T∈tys:=by decide) (a:n∈["int","bool","str","list","tuple"]:=by decide):kitOne K (.type T) (.type n)=some (DJ T n):=fI e a
def iP{c A B:Prop} [Decidable c] (h:A)(a:c:=by decide+kernel):if c then A else B:=fE a h
def iN{c A B:Prop} [Decidable c] (h:B)(a:¬c:=by decide+kernel):if c then A else B:=gM a h
end L2
end
open L2
namespace K43
variable {P:Xr}{w:Xs}{K:Frag}{mg:XB}{base:Heap}{kw C:Xp}{f:Xp}{fd:FuncData}
def kept:Xw Xx:=["person","talk","saw","knew","heard","told","not","nobody","never","by","from","to"]
def v5:V->Bool
 |.int i=>decide (0<=i)&&decide (i<=10^Int.toNat 18)
 |_=>false
def jE:V->Bool
 |.str w=> !decide (w.cps.toList<("a" :Xx).cps.toList) && !decide (("z" :Xx).cps.toList<w.cps.toList)
 |_=>false
def dX(z:Xx):Bool:=decide (1<=(z.length:Int))&&(decide ((z.length:Int)<=12)&&(((signs z).map jE).all id && !IT (.str z) (kept.map V.str)))
def zM:V->Bool
 |.str z=>dX z
 |_=>false
def zz(K:Frag):Sp:=λa H Q _=>∃x T,a=[x]/\gN K H x (.type T)/\T∈tys/\Q (.bl<|T == "int") H
def mY(K:Frag):Sp:=λa H Q _=>∃x T,a=[x]/\gN K H x (.type T)/\T∈tys/\Q (.bl<|v5 x) H
def qw(K:Frag):Sp:=λe H Q _=>∃x T,e=[x]/\gN K H x (.type T)/\T∈tys/\(∀z,x=.str z->z.length<=sizeLine)/\∀a,cH H a->Q (.bl<|zM x) a
def iI(a b:Xx):(a++b).cps.toList=a.cps.toList++b.cps.toList:=by
 show(a.cps++b.cps).toList=_;grind
def vh(a b:Xx):(a++b).length=a.length+b.length:=Array.size_append
def lY(a:Xx):a.cps.toList.length=a.length:=QZ
def GF{a b:Xx}(h:a.cps.toList=b.cps.toList):a=b:=by
 obtain⟨x⟩:=a;obtain⟨y⟩:=b;have:x=y:=Array.ext' h;rw[this]
def K4{k:Nat}(a:k<=z.length):(mN z none<|some (k:Int)).cps.toList=z.cps.toList.take k:=by
 show((z.cps.toList.drop<|HT.ik z.length 0 none).take<|HT.ik z.length z.length (some (k:Int))-HT.ik z.length 0 none)=_;rw[HT.jK,HT.lT,Uj,WW,UI a]
def Lo{k:Nat}(a:k<=z.length):(mN z (some (k:Int)) none).cps.toList=z.cps.toList.drop k:=by
 show((z.cps.toList.drop<|HT.ik z.length 0<|some (k:Int)).take<|HT.ik z.length z.length none-HT.ik z.length 0 (some (k:Int)))=_;rw[HT.jK,HT.lT,UI a];refine Se ?_;rw[Sy,lY];lia
def su(us:Xw Xx)(lo a:Xu Int):d4 (us.map V.str) lo a=(((us.drop<|HT.ik us.length 0 lo).take<|HT.ik us.length us.length a-HT.ik us.length 0 lo)).map V.str:=by
 unfold d4;rw[QM,List.map_take,List.map_drop]
def du(h:Int):Prop:=0<=h/\h<=10^Int.toNat 18
def iq(k:du h):v5 (.int h)=true:=by
 show(decide (0<=h)&&decide (h<=10^Int.toNat 18))=true;rw[dT0 k.1,dT0 k.2];rfl
def EX(h:dX z=true):z.length<=12:=by
 unfold dX at h;grind
def Be(h:dX z=true):z.length<=sizeLine:=by
 have a:=EX h;have:sizeLine=16777216:=Rh;lia
def mM{z:Xx}(h:dX z=true):∀y,V.str z=V.str y->y.length<=sizeLine:=λy e=>by
 cases e;exact Be h
structure fP(ps:Xw Xx):Prop where
 lo:1<=ps.length
 hi:ps.length<=24
 nd:ps.Nodup
 nm:∀z∈ps,dX z=true
inductive dP  (ps:Xw Xx)(H:Hp)(v:V):Prop
 |mk(a:Xp)(z:Xx)(h:Int)(ta:Xp)(ws:Xw Xx)(h0:v=.ref a)(i:H a=some (.tup [.str z,.int h,.ref ta]))(f:z∈ps)(m:du h)(g:H ta=some (.tup (ws.map V.str)))(l:1<=ws.length)(e:ws.length<=6)(j:∀x∈ws,dX x=true)
inductive eT  (ps:Xw Xx)(H:Hp)(v:V):Prop
 |mk (a:Xp) (h:Int) (p q w:Xx) (h0:v=.ref a) (i:H a=some (.tup [.int h,.str p,.str q,.str w])) (f:du h) (l:p∈ps) (g:q∈ps) (j:p≠q) (e:(w= "both" \/w= "one"))
inductive jo  (ps:Xw Xx)(H:Hp)(v:V):Prop
 |mk (a:Xp) (h0:v=.ref a) (e:((∃(p:Xx) (h:Int),H a=some (.tup [.str "knew",.str p,.int h])/\p∈ps/\du h)\/    (∃(p:Xx) (b:V),H a=some (.tup [.str "unheard",.str p,b])/\p∈ps/\(b=.non\/∃h:Int,b=.int h/\du h))\/    (∃(p:Xx) (h k:Int),H a=some (.tup [.str "silent",.str p,.int h,.int k])/\p∈ps/\du h/\du k/\h<=k)\/    (∃p q:Xx,H a=some (.tup [.str "barred",.str p,.str q])/\p∈ps/\q∈ps/\p≠q)))
def Tk(H H':Hp):Prop:=∀b a,H b=some (.tup a)->H' b=some (.tup a)
def Tk.of(s:cH H H'):Tk H H':=λb _ e=>s b _ e
def Tk.trans(a:Tk H H1)(b:Tk H1 H2):Tk H H2:=λc f e=>b c f<|a c f e
def Tk.upd(h:H l=some (.lst xs)):Tk H (upd H l<|.lst ys):=λb a e=>by
 rw[cG<|pG e h<|by intro z;cases z];exact e
def dP.mono(s:Tk H H')(h:dP ps H v):dP ps H' v:=by
 obtain⟨a,z,h,n,g,e,j,p,l,o,m,f,i⟩:=h;exact⟨a,z,h,n,g,e,s _ _ j,p,l,s _ _ o,m,f,i⟩
def eT.mono(s:Tk H H')(h:eT ps H v):eT ps H' v:=by
 obtain⟨a,h,p,q,w,e,j,l,f,i,g,m⟩:=h;exact⟨a,h,p,q,w,e,s _ _ j,l,f,i,g,m⟩
def jo.mono(s:Tk H H')(h:jo ps H v):jo ps H' v:=by
 obtain⟨a,e,h⟩:=h;refine⟨a,e,?_⟩;obtain ⟨p,h,f,r⟩|⟨p,b,f,r⟩|⟨p,h,k,f,r⟩|⟨p,q,f,r⟩:=h
 ·exact .inl ⟨p,h,s _ _ f,r⟩
 ·exact .inr<|.inl ⟨p,b,s _ _ f,r⟩
 ·exact .inr<|.inr<|.inl ⟨p,h,k,s _ _ f,r⟩
 ·exact .inr<|.inr<|.inr ⟨p,q,s _ _ f,r⟩
def DO{ps:Xw Xx}(h:z∈ps):IT (.str z) (ps.map V.str)=true:=by
 show(ps.map V.str).any (λy=>vR y<|.str z)=true;rw[any_map,U9];exact⟨z,h,by exact R4 z⟩
def AX(ps:Xw Xx):(ps.map V.str).all dN=true:=by
 rw[all_map,Sn];intro z _;rfl
def all_true{f:α->Bool}{xs:Xw α}(h:∀x∈xs,f x=true):(xs.map f).all id=true:=by grind
def lp{xs:Xw V}(h:xs.length=n)(hm:(n:Int)≠m):¬decide (V.int (xs.length:Nat)=V.int m)=true:=by grind
def tL{xs:Xw V}(h:xs.length=n)(hm:(n:Int)=m):decide (V.int (xs.length:Nat)=V.int m)=true:=by grind
inductive BP  (vs:Xw V)(H:Hp)(Q:VK):Prop
 |mk(p:Xp)(xs:Xw V)(m:Int)(h0:vs=[.ref p,.int m])(a:H p=some (.lst xs))(e:(xs.length:Int)<=m)(f:Q (.bl true) H)
def ir  :Sp:=λa H Q _=>BP  a H Q
inductive CQ  (vs:Xw V)(H:Hp)(Q:VK):Prop
 |mk(p:Xp)(xs:Xw V)(m:Int)(h0:vs=[.ref p,.int m])(a:H p=some (.tup xs))(e:(xs.length:Int)=m)(f:Q (.bl true) H)
def oK  :Sp:=λa H Q _=>CQ  a H Q
inductive Bh  (vs:Xw V)(H:Hp)(Q:VK):Prop
 |mk(p:Xp)(ps:Xw Xx)(z:Xx)(h0:vs=[.ref p,.str z])(f:H p=some (.lst (ps.map V.str)))(a:fP ps)(g:z∈ps)(e:∀H',cH H H'->Q (.bl true) H')
def jB  :Sp:=λa H Q _=>Bh  a H Q
inductive BN  (vs:Xw V)(H:Hp)(Q:VK):Prop
 |mk(p:Xp)(ps:Xw Xx)(y z:Xx)(h0:vs=[.ref p,.str y,.str z])(g:H p=some (.lst (ps.map V.str)))(e:fP ps)(i:y∈ps)(f:z∈ps)(h:y≠z)(a:∀H',cH H H'->Q (.bl true) H')
def pI  :Sp:=λa H Q _=>BN  a H Q
inductive Gu  (vs:Xw V)(H:Hp)(Q:VK):Prop
 |mk(t:Xp)(ws:Xw Xx)(h0:vs=[.ref t])(f:H t=some (.tup (ws.map V.str)))(a:1<=ws.length)(h:ws.length<=6)(e:(∀x∈ws,dX x=true))(g:∀H',cH H H'->Q (.bl true) H')
def DZ  :Sp:=λa H Q _=>Gu  a H Q
inductive E8  (vs:Xw V)(H:Hp)(Q:VK):Prop
 |mk(p:Xp)(ps:Xw Xx)(v:V)(h0:vs=[.ref p,v])(f:H p=some (.lst (ps.map V.str)))(a:fP ps)(g:dP ps H v)(e:∀H',cH H H'->Q (.bl true) H')
def zL  :Sp:=λa H Q _=>E8  a H Q
inductive KD  (vs:Xw V)(H:Hp)(Q:VK):Prop
 |mk (w:Xx) (h0:vs=[.str w]) (a:(w= "both" \/w= "one")) (e:∀H',cH H H'->Q (.bl true) H')
def Eb  :Sp:=λa H Q _=>KD  a H Q
inductive GJ  (vs:Xw V)(H:Hp)(Q:VK):Prop
 |mk(p:Xp)(ps:Xw Xx)(v:V)(h0:vs=[.ref p,v])(f:H p=some (.lst (ps.map V.str)))(a:fP ps)(g:eT ps H v)(e:∀H',cH H H'->Q (.bl true) H')
def CP  :Sp:=λa H Q _=>GJ  a H Q
inductive Ga  (vs:Xw V)(H:Hp)(Q:VK):Prop
 |mk(h k:Int)(h0:vs=[.int h,.int k])(f:du h)(a:du k)(g:h<=k)(e:Q (.bl true) H)
def CN  :Sp:=λa H Q _=>Ga  a H Q
inductive Ed  (vs:Xw V)(H:Hp)(Q:VK):Prop
 |mk (p:Xp) (ps:Xw Xx) (a y:Xx) (b:V) (h0:vs=[.ref p,.str a,.str y,b]) (g:H p=some (.lst (ps.map V.str))) (e:fP ps) (j:y∈ps) (f:((a= "barred" /\∃z,b=.str z/\z∈ps/\y≠z)\/(a= "unheard" /\(b=.non\/∃h:Int,b=.int h/\du h))\/(a= "knew" /\∃h:Int,b=.int h/\du h))) (i:∀H',cH H H'->Q (.bl true) H')
def AO  :Sp:=λa H Q _=>Ed  a H Q
inductive BI  (vs:Xw V)(H:Hp)(Q:VK):Prop
 |mk(p:Xp)(ps:Xw Xx)(v:V)(h0:vs=[.ref p,v])(f:H p=some (.lst (ps.map V.str)))(a:fP ps)(g:jo ps H v)(e:∀H',cH H H'->Q (.bl true) H')
def xq  :Sp:=λa H Q _=>BI  a H Q
inductive yA  (vs:Xw V)(H:Hp)(Q:VK):Prop
 |mk(p:Xp)(ps:Xw Xx)(h0:vs=[.ref p])(e:H p=some (.lst (ps.map V.str)))(a:fP ps)(f:∀H',cH H H'->Q (.bl true) H')
def sU  :Sp:=λa H Q _=>yA  a H Q
inductive FK  (M:Xw Xx->Hp->V->Prop)(n:Nat)(vs:Xw V)(H:Hp)(Q:VK):Prop
 |mk(p q:Xp)(ps:Xw Xx)(xs:Xw V)(h0:vs=[.ref p,.ref q])(g:H p=some (.lst (ps.map V.str)))(e:fP ps)(i:H q=some (.lst xs))(f:xs.length<=n)(h:(∀v∈xs,M ps H v))(a:∀H',cH H H'->Q (.bl true) H')
def mz  (M:Xw Xx->Hp->V->Prop)(n:Nat):Sp:=λa H Q _=>FK M n a H Q
def oy(p s t y:Xp):Xw (Xx×V):=gj "kept_sayings" (.ref y) (gj "kept_talks" (.ref t) (gj "kept_sights" (.ref s) (gj "kept_persons" (.ref p) [])))
def Mr(p s t y:Xp):(oy p s t y).lookup ("kept_persons" :Xx)=some (.ref p):=by
 unfold oy;rw[cR,QO<|by decide+kernel,cR,QO<|by decide+kernel,cR,QO<|by decide+kernel,cR,QR rfl]
def M8(p s t y:Xp):(oy p s t y).lookup ("kept_sights" :Xx)=some (.ref s):=by
 unfold oy;rw[cR,QO<|by decide+kernel,cR,QO<|by decide+kernel,cR,QR rfl]
def Jb(p s t y:Xp):(oy p s t y).lookup ("kept_talks" :Xx)=some (.ref t):=by
 unfold oy;rw[cR,QO<|by decide+kernel,cR,QR rfl]
def MM(p s t y:Xp):(oy p s t y).lookup ("kept_sayings" :Xx)=some (.ref y):=by
 unfold oy;rw[cR,QR rfl]
def fU (p s t y:Xp){m:Xx}(a:¬m= "kept_sayings") (e:¬m= "kept_talks") (g:¬m= "kept_sights") (f:¬m= "kept_persons"):(oy p s t y).lookup m=none:=by
 unfold oy;rw[cR,QO a,cR,QO e,cR,QO g,cR,QO f];rfl
structure Parts(H:Hp)(ps:Xw Xx)(ss ts ys:Xw V):Prop where
 ok:fP ps
 sl:ss.length<=24
 sg:∀v∈ss,dP ps H v
 tl:ts.length<=120
 tg:∀v∈ts,eT ps H v
 yl:ys.length<=60
 yg:∀v∈ys,jo ps H v
def Parts.mono(s:Tk H H')(g:Parts H ps ss ts ys):Parts H' ps ss ts ys:=
 ⟨g.ok,g.sl,λv h=>(g.sg v h).mono s,g.tl,λv h=>(g.tg v h).mono s,g.yl,λv h=>(g.yg v h).mono s⟩
structure Bk(C:Xp)(H:Hp)(x p s t y:Xp)(ps:Xw Xx)(ss ts ys:Xw V):Prop where
 ob:∃dx,H x=some (.ins C dx (oy p s t y))
 hp:H p=some (.lst (ps.map V.str))
 hs:H s=some (.lst ss)
 ht:H t=some (.lst ts)
 hy:H y=some (.lst ys)
def Bk.mono(m:cH H H')(b:Bk C H x p s t y ps ss ts ys):Bk C H' x p s t y ps ss ts ys:=by
 obtain⟨⟨h,e⟩,g,a,i,f⟩:=b;exact⟨⟨h,m _ _ e⟩,m _ _ g,m _ _ a,m _ _ i,m _ _ f⟩
inductive GY  (C:Xp)(vs:Xw V)(H:Hp)(Q:VK):Prop
 |mk(x h p a b c:Xp)(ps:Xw Xx)(ss e ys:Xw V)(h0:vs=[.ref x,.ref p,.ref a,.ref b,.ref c])(l:H x=some (.ins C h []))(i:H p=some (.lst (ps.map V.str)))(q:H a=some (.lst ss))(j:H b=some (.lst e))(n:H c=some (.lst ys))(r:Parts H ps ss e ys)(m:∀(g s' t' f:Xp)(H':Hp),H g=none->H s'=none->H t'=none->H f=none->Bk C H' x g s' t' f ps ss e ys->(∀d o,H d=some o->d≠x->H' d=some o)->Q .non H')
def C0  (C:Xp):Sp:=λa H Q _=>GY C a H Q
structure Txt(K:Frag)(mg:XB)(kw C:Xp):Prop where
 b_isinstance:mg "isinstance" =none
 b_int:mg "int" =none
 b_bool:mg "bool" =none
 b_str:mg "str" =none
 b_len:mg "len" =none
 b_all:mg "all" =none
 b_range:mg "range" =none
 b_list:mg "list" =none
 b_tuple:mg "tuple" =none
 b_set:mg "set" =none
 b_zip:mg "zip" =none
 b_enumerate:mg "enumerate" =none
 b_min:mg "min" =none
 b_max:mg "max" =none
 b_any:mg "any" =none
 b_sorted:mg "sorted" =none
 b_dict:mg "dict" =none
 b_sum:mg "sum" =none
 b_reversed:mg "reversed" =none
 kwm:mg "KEPT_WORDS" =some (.ref kw)
 kwt:∃(o:Obj) (XF:Array Xo) (n:Nat),K.lookup kw=some o/\o.cls=.type "tuple" /\o.data=.seq XF n/\XF.size<=sizeLine/\Vals (kept.map V.str) XF.toList
 g_MOST_PERSONS:∃u,mg "MOST_PERSONS" =some u/\RelV (.int 24) u
 g_MOST_SIGHTS:∃u,mg "MOST_SIGHTS" =some u/\RelV (.int 24) u
 g_MOST_TALKS:∃u,mg "MOST_TALKS" =some u/\RelV (.int 120) u
 g_MOST_SAYINGS:∃u,mg "MOST_SAYINGS" =some u/\RelV (.int 60) u
 g_MOST_WORDS:∃u,mg "MOST_WORDS" =some u/\RelV (.int 6) u
 cl:Ah K C
 nP:ie K C "kept_persons"
 nS:ie K C "kept_sights"
 nT:ie K C "kept_talks"
 nY:ie K C "kept_sayings"
def QA:cK ["thing"] ["thing"] (cI iW):={}
def DK (F:qT K "is_whole" "is_whole" iW f fd) (T:Txt K mg kw C):fg P w K mg base oE 1 f fd ["thing"] (zz K):=by
 refine F.ok QA (λi H Q E h=>?_) λj A outer s H i Q E hr h=>?_
 ·obtain⟨x,t,rfl,_⟩:=h
  rfl
 ·obtain⟨x,t,rfl,ty,a,k⟩:=h
  refine⟨_,lO (pW (tI (iC lK rfl T.b_isinstance c9<|fH (pv 0)<|fH (oS (v:=.ty "int") rfl T.b_int DL rfl) kZ)
   (uf<|LA<|iC lK rfl T.b_isinstance c9<|fH (pv 0)<|fH (oS (v:=.ty "bool") rfl T.b_bool Gw rfl) kZ))),?_⟩
  refine⟨_,rfl,_,_,_,_,rfl,ty,fI a<|by decide,_,rfl,dD (λg=>?_) λg=>?_⟩
  ·refine⟨_,rfl,_,_,_,_,rfl,ty,fI a<|by decide,_,rfl,?_⟩
   have e:(!DJ t "bool")=(t == "int"):=by
    simp only[tys,mem_cons,not_mem_nil,or_false]at a;rcases a with rfl|rfl|rfl|rfl|rfl|rfl|rfl<;>first|rfl| (exfalso;revert g;decide)
   rw[e];exact k
  ·have e:(t == "int")=false:=by
    simp only[tys,mem_cons,not_mem_nil,or_false]at a;rcases a with rfl|rfl|rfl|rfl|rfl|rfl|rfl<;>first|rfl| (exfalso;revert g;decide)
   rw[<-e];exact k
def Qx:cK ["thing"] ["thing"] (cI mC):={}
def FU {f n:Xp}{fd g:FuncData}(F:qT K "is_hour" "is_hour" mC f fd) (j:Df K mg "is_whole" iW ["thing"] n g) (T:Txt K mg kw C):fg P w K mg base oE 2 f fd ["thing"] (mY K):=by
 have q:fg P w K mg base oE 1 n g ["thing"] (zz K):=DK j.fn T;refine F.ok Qx (λp H Q E h=>?_) λr A outer s H p Q E hr h=>?_
 ·obtain⟨x,t,rfl,_⟩:=h
  rfl
 ·obtain⟨x,t,rfl,ty,o,k⟩:=h
  refine⟨_,lO (pW (tI (zJ q hr rfl j.nm j.fn.kp j.bi .nil Af<|fH (pv 0) kZ)
   (uf<|jT vx vx nN (pv 0)<|Ip nG nN nN))),?_⟩
  refine⟨_,rfl,x,t,rfl,ty,o,_,rfl,?_⟩;refine dD (λm=>?_) λm=>?_
  ·have e:t= "int" :=eq_of_beq m
   subst e;obtain⟨i,rfl⟩:=ty_int ty
   ·refine⟨_,rfl,_,_,rfl,rfl,_,rfl,?_⟩
    refine dD (λl=>?_) λl=>?_
    ·refine⟨_,_,rfl,rfl,⟨by decide,by decide,by decide⟩,_,_,rfl,rfl,?_⟩
     have a:v5 (.int i)=decide (i<=10^Int.toNat 18):=by
      show(decide (0<=i)&&decide (i<=10^Int.toNat 18))=_;rw[l,Sd]
     rw[a]at k;exact k
    ·have a:v5 (.int i)=false:=by
      show(decide (0<=i)&&decide (i<=10^Int.toNat 18))=_;rw[RH.mpr l,SU]
     rw[a]at k;exact k
  ·have a:v5 x=false:=by
    cases x with
    |int i=>exact absurd (Vx.mpr<|B3 ty) m
    |_=>rfl
   rw[a]at k;exact k
def Ql:cK ["thing"] ["thing"] (cI kq):={}
def GK (F:qT K "is_name" "is_name" kq f fd) (T:Txt K mg kw C):fg P w K mg base oE 1 f fd ["thing"] (qw K):=by
 refine F.ok Ql (λq H Q E h=>?_) λJ A outer s H q Q E hr h=>?_
 ·obtain⟨x,t,rfl,_⟩:=h
  rfl
 ·obtain⟨x,t,rfl,ty,n,B,k⟩:=h
  refine⟨_,vC (Jo (PW.pt (Jc (xP<|yK<|iC lK rfl T.b_isinstance c9<|fH (pv 0)<|fH (oS (v:=.ty "str") rfl T.b_str yf rfl) kZ)
    (DU<|xP<|jW vx vx nN (iC gf rfl T.b_len dh<|fH (pv 0) kZ) nN))) (lO<|pW I0) zA)
   (lO (pW (tI (iC (sQ rfl) rfl T.b_all mw (fH (Dp (sc:=cI kq) (N:=["thing"]) (is:=[]) (ns:=[]) rfl (LB<|pv 0)
     {} (λ_ _ _ _ _=>jT sZ sZ yi (pv 0) yi)) kZ))
    (uf<|Au gb (pv 0) (oY (v:=.ref kw) rfl T.kwm rfl)<|by with_unfolding_all rfl)))),?_⟩
  refine⟨_,rfl,_,_,_,_,rfl,ty,fI n<|by decide,_,rfl,?_⟩;by_cases m:t= "str"
  ·subst m
   obtain⟨z,rfl⟩:=ty_str ty
   ·have g:=B z rfl
    refine dG ?_;refine⟨_,rfl,z,rfl,g,_,_,rfl,rfl,_,rfl,?_⟩;by_cases j:1<=(z.length:Int)
    ·rw[dT0 j]
     refine fL ⟨_,_,rfl,rfl,_,rfl,?_⟩;by_cases i:(z.length:Int)<=12
     ·rw[dT0 i]
      refine dG ?_;refine⟨_,rfl,z,rfl,LV (λv=>.bl<|jE v) g (λv M L G I l=>?_) λD p=>?_⟩
      ·obtain⟨c,_,rfl⟩:=Ru.mp G
       refine⟨_,rfl,_,_,rfl,rfl,_,rfl,dD (λh=>⟨_,_,rfl,rfl,?_⟩) λh=>?_⟩
       ·have e:jE (.str ⟨#[c]⟩)= !decide (("z" :Xx).cps.toList<(⟨#[c]⟩:Xx).cps.toList):=by
         show(!decide ((⟨#[c]⟩:Xx).cps.toList<("a" :Xx).cps.toList)&&_)=_;rw[h,Sd]
        rw[e]at l;exact l
       ·have e:jE (.str ⟨#[c]⟩)=false:=by
         show(!decide ((⟨#[c]⟩:Xx).cps.toList<("a" :Xx).cps.toList)&&_)=_;rw[RH.mpr h,SU]
        rw[e]at l;exact l
      ·refine⟨D,(signs z).map jE,rfl,cN.of<|cE.trans<|by rw[Th];rfl,_,rfl,?_⟩
       have e:dX z=(((signs z).map jE).all id && !IT (.str z) (kept.map V.str)):=by
        unfold dX;rw[dT0 j,dT0 i,Sd,Sd]
       have r:=k _<|cH.upd (o:=.lst<|((signs z).map λv=>V.bl<|jE v)) p;have a:Q (.bl<|dX z) _:=r;rw[e]at a;refine dD (λh=>?_) λh=>?_
       ·rw[h,Sd]at a
        refine⟨_,rfl,kw,_,rfl,.inr<|.inr T.kwt,rfl,?_,a⟩
        decide+kernel
       ·rw[RH.mpr h,SU]at a
        exact a
     ·rw[QU i]
      refine fL ?_;have e:dX z=false:=by
       unfold dX;rw[QU i,SU,SF]
      have a:Q (.bl<|dX z) H:=k H<|cH.refl H;rw[e]at a;exact a
    ·rw[QU j]
     refine dG ⟨_,rfl,fL ?_⟩;have e:dX z=false:=by
      unfold dX;rw[QU j,SU]
     have a:Q (.bl<|dX z) H:=k H<|cH.refl H;rw[e]at a;exact a
  ·have e:DJ t "str" =false:=by
    unfold DJ;rw[R9.mpr m,Bool.false_or];exact SF _
   rw[e];refine fL<|fL ?_;have y:zM x=false:=by
    cases x with
    |str z=>exact absurd (Ci ty) m
    |_=>rfl
   have a:=k H<|cH.refl H;rw[y]at a;exact a
def rJ(h0:0<=i)(e:i<xs.length):∃v,qR xs i=some v/\v∈xs:=by
 have a:i.toNat<xs.length:=by lia
 refine⟨xs[i.toNat],?_,Tf a⟩;have:=dj (xs:=xs) (j:=i.toNat) (v:=xs[i.toNat]) (by simp[a]);grind
def nE:cK ["thing","most"] ["thing","most"] (cI fX):={}
def xJ (D:Df K mg "is_list_up_to" fX ["thing","most"] f fd) (T:Txt K mg kw C):Gd P w K mg base 1 "is_list_up_to" ir:=by
 refine aG D nE λX H n Q E a h=>?_;obtain⟨p,j,m,rfl,e,l,k⟩:=h;obtain⟨g,i,_⟩:=a.fc [0,1];refine⟨_,ag<|aw<|aV (aJ (a.b T.b_isinstance) bZ c9<|aB (aa g)<|J.ty (a.b T.b_list) eC)<|a8<|ba bG (aJ (a.b T.b_len) aY dh<|aj<|aa g) (aa i)<|cL _,_,rfl,_,_,_,_,rfl,.lst e,kI,_,rfl,iP ?_⟩;refine⟨_,rfl,p,j,rfl,.inl<|cN.of e,_,rfl,_,_,rfl,rfl,?_⟩;grind
def pM:cK ["thing","length"] ["thing","length"] (cI ig):={}
def Bq (D:Df K mg "is_tuple_of" ig ["thing","length"] f fd) (T:Txt K mg kw C):Gd P w K mg base 1 "is_tuple_of" oK:=by
 refine aG D pM λX H n Q E a h=>?_;obtain⟨p,j,m,rfl,e,l,k⟩:=h;obtain⟨g,i,_⟩:=a.fc [0,1];refine⟨_,ag<|aw<|aV (aJ (a.b T.b_isinstance) bZ c9<|aB (aa g)<|J.ty (a.b T.b_tuple) p8)<|a8<|ba aO (aJ (a.b T.b_len) aY dh<|aj<|aa g) (aa i)<|cL _,_,rfl,_,_,_,_,rfl,.tup e,kI,_,rfl,iP ?_⟩;refine⟨_,rfl,p,j,rfl,.inr<|fe.of e,_,rfl,rfl,?_⟩;grind
def u7:cK ["persons","thing"] ["persons","thing"] (cI jJ):={}
def BR {fd:FuncData}(D:Df K mg "is_person" jJ ["persons","thing"] f fd) (a:Gd P w K mg base 1 "is_name" (qw K)):Gd P w K mg base 2 "is_person" jB:=by
 refine aG D u7 λX H r Q E e h=>?_;obtain⟨p,n,z,rfl,m,o,l,k⟩:=h;have j:=o.nm z l;obtain⟨q,g,_⟩:=e.fc [0,1];refine⟨_,ag<|aw<|aV (ak (e.gK a rfl (by lia)<|by decide)<|aj<|aa g)<|a8<|ba J.iA (aa g) (aa q) b6,_,rfl,.str z,"str",rfl,.str z,by decide,mM j,λH1 i=>⟨_,rfl,fE j ?_⟩⟩;refine⟨_,rfl,_,rfl,p,_,rfl,.inl<|cN.of<|i _ _ m,rfl,AX n,?_⟩;rw[DO l];exact k H1 i
def jq:cK ["persons","one","other"] ["persons","one","other"] (cI d6):={}
def AS (D:Df K mg "are_unlike_persons" d6 ["persons","one","other"] f fd) (e:Gd P w K mg base 2 "is_person" jB):Gd P w K mg base 3 "are_unlike_persons" pI:=by
 refine aG D jq λX H B Q E m h=>?_;obtain⟨p,i,y,z,rfl,l,o,v,s,A,k⟩:=h;have a:=m.gK e rfl (by lia) (by decide);obtain⟨g,q,j,_⟩:=m.fc [0,1,2];refine⟨_,ag<|aw<|aV (ak a<|aB (aa g)<|aa q)<|aV (ak a<|aB (aa g)<|aa j)<|a8<|ba b9 (aa q) (aa j)<|cL _,_,rfl,_,rfl,p,i,y,rfl,l,o,v,λH1 n=>⟨_,rfl,fL ?_⟩⟩;refine⟨_,rfl,_,rfl,p,i,z,rfl,n _ _ l,o,s,λx r=>⟨_,rfl,fL ?_⟩⟩;refine⟨_,rfl,_,rfl,rfl,?_⟩;rw[QU<|by grind];exact k x<|n.trans r
def yj:cK ["thing"] ["thing"] (cI nF):={}
def Ig {fd:FuncData}(D:Df K mg "is_tale" nF ["thing"] f fd) (T:Txt K mg kw C) (j:Gd P w K mg base 1 "is_name" (qw K)):Gd P w K mg base 2 "is_tale" DZ:=by
 refine aG D yj λX H I Q E a h=>?_;obtain⟨t,e,rfl,g,B,F,n,k⟩:=h;have L:(e.map V.str).length=e.length:=QM ..;have p:(e.map V.str).length<=sizeLine:=by
  have:sizeLine=16777216:=Rh;lia
 obtain⟨i,_⟩:=a.fc [0];refine⟨_,(af (aH (a7<|bS (bu<|bh<|aJ (a.b T.b_isinstance) bZ c9<|aB (aa i)<|J.ty (a.b T.b_tuple) p8)<|b5<|bu<|J.jW bG bG ae (aJ (a.b T.b_len) aY dh<|aj<|aa i) (cC a T.g_MOST_WORDS rfl<|by decide) kP)
 (ag<|aw bj)
 aI)
 (ag<|aw<|aJ (a.b T.b_all) (cu a.calm) mw<|aj<|cz (is:=[]) (ns:=[]) a.calm (J.x5<|aa i) {} (λ_ _ _ _ _=>ak ((a.wj j (by lia)<|by decide).lc rfl)<|aj<|cj rfl (by decide)<|by decide) a.hsc a.hN)),?_⟩
 refine⟨_,rfl,_,_,_,_,rfl,.tup g,kI,_,rfl,iN ?_⟩;refine⟨_,rfl,t,_,rfl,.inr<|fe.of g,_,_,rfl,rfl,_,rfl,fE (dT0<|by lia) ⟨_,_,rfl,rfl,_,rfl,?_⟩⟩;rw[dT0<|show((e.map V.str).length:Int)<=6 by lia];refine dG ⟨_,rfl,t,rfl,⟨_,fe.of g⟩,HL (λv=>.bl<|zM v) (fe.of g) p (λv N M y m A=>?_) λq z G m l=>?_⟩
 ·obtain⟨x,r,rfl⟩:=Ru.mp y
  exact⟨_,rfl,.str x,"str",rfl,.str x,by decide,mM<|n x r,λo s=>A o s⟩
 ·refine⟨q,e.map dX,rfl,cN.of<|l.trans<|by rw[Th,Th];rfl,?_⟩
  rw[all_true n];exact k z m
def xo:cK ["persons","thing"] ["persons","thing"] (cI lF):={}
def EO (D:Df K mg "is_sight" lF ["persons","thing"] f fd) (n:Gd P w K mg base 1 "is_tuple_of" oK) (r:Gd P w K mg base 2 "is_person" jB)
  (l:Gd P w K mg base 2 "is_hour" (mY K)) (q:Gd P w K mg base 2 "is_tale" DZ):Gd P w K mg base 3 "is_sight" zL:=by
 refine aG D xo λX H N Q E e h=>?_;obtain⟨p,A,v,rfl,I,M,⟨a,z,hr,C,F,rfl,i,G,m,o,s,y,J⟩,k⟩:=h;obtain⟨x,j,_⟩:=e.fc [0,1];refine⟨_,(af (aH (bu<|bh<|ak (e.gK n rfl (by lia)<|by decide)<|aB (aa j) ae)
 (ag<|aw bj)
 aI)
 (ag<|aw<|aV (ak (e.gK r rfl (by lia)<|by decide)<|aB (aa x)<|ai aE (aa j) ae ah)<|aV (ak (e.gK l rfl (by lia)<|by decide)<|aj<|ai aE (aa j) ae ah)<|a8<|ak (e.gK q rfl (by lia)<|by decide)<|aj<|ai aE (aa j) ae ah)),?_⟩
 refine⟨_,rfl,a,_,3,rfl,i,rfl,_,rfl,dG ?_⟩;refine⟨_,rfl,_,rfl,xT i rfl ⟨p,A,z,rfl,I,M,G,λH1 g=>⟨_,rfl,fL ?_⟩⟩⟩;refine⟨_,rfl,xT (g _ _ i) rfl ⟨.int hr,"int",rfl,.int hr,by decide,_,rfl,fE (iq m) ?_⟩⟩;exact⟨_,rfl,xT (g _ _ i) rfl ⟨C,F,rfl,g _ _ o,s,y,J,λL B=>k L<|g.trans B⟩⟩
def Cj:cK ["thing"] ["thing"] (cI pE):={}
def LS (D:Df K mg "is_way" pE ["thing"] f fd) (T:Txt K mg kw C):Gd P w K mg base 1 "is_way" Eb:=by
 refine aG D Cj λX H l Q E a h=>?_;obtain⟨z,rfl,j,k⟩:=h;obtain⟨g,_⟩:=a.fc [0];refine⟨_,ag<|aw<|aV (aJ (a.b T.b_isinstance) bZ c9<|aB (aa g)<|J.ty (a.b T.b_str) yf)<|a8<|ba J.iA (aa g) (aL<|aB ao ao) J.Du,_,rfl,_,_,_,_,rfl,.str z,kI,_,rfl,iP ?_⟩;refine⟨_,rfl,by decide,λq i=>⟨q,_,rfl,.inr<|fe.of cE,rfl,by decide+kernel,?_⟩⟩;have e:IT (.str z) [.str "both",.str "one"]=true:=by
  rcases j with rfl|rfl<;>decide+kernel
 rw[e];exact k _<|cH.upd i
def xY:cK ["persons","thing"] ["persons","thing"] (cI mh):={}
def FJ (D:Df K mg "is_talk" mh ["persons","thing"] f fd) (o:Gd P w K mg base 1 "is_tuple_of" oK) (n:Gd P w K mg base 3 "are_unlike_persons" pI)
  (j:Gd P w K mg base 2 "is_hour" (mY K)) (l:Gd P w K mg base 1 "is_way" Eb):Gd P w K mg base 4 "is_talk" CP:=by
 refine aG D xY λX H M Q E e h=>?_;obtain⟨p,A,v,rfl,F,L,⟨a,hr,y,z,r,rfl,g,m,I,C,x,G⟩,k⟩:=h;obtain⟨s,i,_⟩:=e.fc [0,1];refine⟨_,(af (aH (bu<|bh<|ak (e.gK o rfl (by lia)<|by decide)<|aB (aa i) ae)
 (ag<|aw bj)
 aI)
 (ag<|aw<|aV (ak (e.gK j rfl (by lia)<|by decide)<|aj<|ai aE (aa i) ae ah)<|aV (ak (e.gK n rfl (by lia)<|by decide)<|aP (aa s) (ai aE (aa i) ae ah)<|ai aE (aa i) ae ah)<|a8<|ak (e.gK l rfl (by lia)<|by decide)<|aj<|ai aE (aa i) ae ah)),?_⟩
 refine⟨_,rfl,a,_,4,rfl,g,rfl,_,rfl,dG ?_⟩;refine⟨_,rfl,xT g rfl ⟨.int hr,"int",rfl,.int hr,by decide,_,rfl,fE (iq m) ?_⟩⟩;refine⟨_,rfl,_,rfl,xT g rfl ⟨_,rfl,xT g rfl ⟨p,A,y,z,rfl,F,L,I,C,x,λH1 q=>⟨_,rfl,fL ?_⟩⟩⟩⟩;exact⟨_,rfl,xT (q _ _ g) rfl ⟨r,rfl,G,λJ B=>k J<|q.trans B⟩⟩
def yC:cK ["begin","end"] ["begin","end"] (cI nB):={}
def FC (D:Df K mg "is_span" nB ["begin","end"] f fd) (g:Gd P w K mg base 2 "is_hour" (mY K)):Gd P w K mg base 3 "is_span" CN:=by
 refine aG D yC λX H o Q E i h=>?_;obtain⟨a,b,rfl,n,m,p,k⟩:=h;have e:=i.gK g rfl (by lia) (by decide);obtain⟨l,j,_⟩:=i.fc [0,1];refine⟨_,ag<|aw<|aV (ak e<|aj<|aa l)<|aV (ak e<|aj<|aa j)<|a8<|ba bG (aa l) (aa j)<|cL _,_,rfl,.int a,"int",rfl,.int a,by decide,_,rfl,fE (iq n) ?_⟩;refine⟨_,rfl,.int b,"int",rfl,.int b,by decide,_,rfl,fE (iq m) ?_⟩;refine⟨_,rfl,_,rfl,_,_,rfl,rfl,?_⟩;grind
def kT:cK ["persons","kind","person","behind"] ["persons","kind","person","behind"] (cI ff):={}
def Fg (D:Df K mg "is_short_saying" ff ["persons","kind","person","behind"] f fd) (n:Gd P w K mg base 3 "are_unlike_persons" pI)
  (v:Gd P w K mg base 2 "is_person" jB) (l:Gd P w K mg base 2 "is_hour" (mY K)):Gd P w K mg base 4 "is_short_saying" AO:=by
 refine aG D kT λX H L Q E g h=>?_;obtain⟨p,m,I,y,b,rfl,o,r,q,F,k⟩:=h;have e:=g.gK l rfl (by lia) (by decide);obtain⟨x,s,A,j,_⟩:=g.fc [0,1,2,3];refine⟨_,(af (aH (aF aO (aa s) ao<|cL _)
 (ag<|aw<|ak (g.gK n rfl (by lia)<|by decide)<|aP (aa x) (aa A)<|aa j)
 aI)
 (af (aH (bu<|bh<|ak (g.gK v rfl (by lia)<|by decide)<|aB (aa x)<|aa A)
 (ag<|aw bj)
 aI)
 (af (aH (aF aO (aa s) ao<|cL _)
 (ag<|aw<|J.Ak (ba J.pf (aa j) bL<|cL _)<|a8<|ak e<|aj<|aa j)
 aI)
 (ag<|aw<|aV (ba aO (aa s) ao<|cL _)<|a8<|ak e<|aj<|aa j)))),?_⟩
 refine⟨_,rfl,rfl,_,rfl,?_⟩;obtain ⟨rfl,z,rfl,G,C⟩|⟨rfl,B⟩|⟨rfl,h,rfl,a⟩:=F
 ·exact fE (dT0 rfl) ⟨_,rfl,_,rfl,_,rfl,p,m,y,z,rfl,o,r,q,G,C,k⟩
 ·refine iN ⟨_,rfl,_,rfl,p,m,y,rfl,o,r,q,λH1 i=>⟨_,rfl,dG ?_⟩⟩
  refine⟨_,rfl,rfl,_,rfl,fE (dT0 rfl) ?_⟩;obtain rfl|⟨h,rfl,a⟩:=B
  ·exact⟨_,rfl,rfl,_,rfl,fE (dT0 rfl)<|k H1 i⟩
  ·refine⟨_,rfl,rfl,_,rfl,gM (by grind) ?_⟩
   refine⟨_,rfl,.int h,"int",rfl,.int h,by decide,?_⟩;rw[iq a];exact k H1 i
 ·refine iN ⟨_,rfl,_,rfl,p,m,y,rfl,o,r,q,λH1 i=>⟨_,rfl,dG ?_⟩⟩
  refine⟨_,rfl,rfl,_,rfl,iN ?_⟩;refine⟨_,rfl,rfl,_,rfl,fE (dT0 rfl) ?_⟩;refine⟨_,rfl,.int h,"int",rfl,.int h,by decide,?_⟩;rw[iq a];exact k H1 i
def uY:cK ["persons","thing"] ["persons","thing"] (cI jN):={}
def BZ {f:Xp}(D:Df K mg "is_saying" jN ["persons","thing"] f fd) (T:Txt K mg kw C) (G:Gd P w K mg base 2 "is_person" jB) (B:Gd P w K mg base 3 "is_span" CN)
  (A:Gd P w K mg base 4 "is_short_saying" AO):Gd P w K mg base 5 "is_saying" xq:=by
 refine aG D uY λX H U Q E i h=>?_;obtain⟨p,r,v,rfl,s,x,⟨a,rfl,R⟩,k⟩:=h;obtain⟨L,g,_⟩:=i.fc [0,1];have o:=i.b T.b_isinstance;have l:=i.b T.b_len;refine⟨_,(af (aH (a7<|bS (bu<|bh<|aJ o bZ c9<|aB (aa g)<|J.ty (i.b T.b_tuple) p8)<|bS (aF aO (aJ l aY dh<|aj<|aa g) ae<|cL _)<|b5<|bu<|bh<|aJ o bZ c9<|aB (ai aE (aa g) ae ah)<|J.ty (i.b T.b_str) yf)
 (ag<|aw bj)
 aI)
 (af (aH (aF aO (aJ l aY dh<|aj<|aa g) ae<|cL _)
 (ag<|aw<|aV (ba aO (ai aE (aa g) ae ah) ao<|cL _)<|aV (ak (i.gK G rfl (by lia)<|by decide)<|aB (aa L)<|ai aE (aa g) ae ah)<|a8<|ak (i.gK B rfl (by lia)<|by decide)<|aB (ai aE (aa g) ae ah)<|ai aE (aa g) ae ah)
 aI)
 (ag<|aw<|aV (ba aO (aJ l aY dh<|aj<|aa g) ae<|cL _)<|a8<|ak (i.gK A rfl (by lia)<|by decide)<|bQ (aa L) (ai aE (aa g) ae ah) (ai aE (aa g) ae ah)<|ai aE (aa g) ae ah))),?_⟩
 obtain ⟨y,h,e,m,j⟩|⟨y,b,e,m,N⟩|⟨y,h,M,e,m,j,q,I⟩|⟨y,z,e,m,S,O⟩:=R
 ·refine⟨_,rfl,_,_,_,_,rfl,.tup e,kI,_,rfl,iN ?_⟩
  refine⟨_,rfl,a,_,rfl,.inr<|fe.of e,rfl,_,rfl,gM (lp (n:=3) rfl<|by decide) ?_⟩;refine⟨_,rfl,xT e rfl ⟨_,_,_,_,rfl,.str _,kI,_,rfl,iN ?_⟩⟩;refine⟨_,rfl,a,_,rfl,.inr<|fe.of e,rfl,_,rfl,gM (lp (n:=3) rfl<|by decide) ?_⟩;refine⟨_,rfl,a,_,rfl,.inr<|fe.of e,rfl,_,rfl,fE (tL (n:=3) rfl<|by decide) ?_⟩;exact⟨_,rfl,_,rfl,xT e rfl ⟨_,rfl,xT e rfl ⟨_,rfl,xT e rfl ⟨p,r,_,y,_,rfl,s,x,m,.inr<|.inr ⟨rfl,h,rfl,j⟩,k⟩⟩⟩⟩
 ·refine⟨_,rfl,_,_,_,_,rfl,.tup e,fI (T:= "tuple") (by decide)<|by decide,_,rfl,iN ?_⟩
  refine⟨_,rfl,a,_,rfl,.inr<|fe.of e,rfl,_,rfl,gM (lp (n:=3) rfl<|by decide) ?_⟩;refine⟨_,rfl,xT e rfl ⟨_,_,_,_,rfl,.str _,fI (T:= "str") (by decide)<|by decide,_,rfl,iN ?_⟩⟩;refine⟨_,rfl,a,_,rfl,.inr<|fe.of e,rfl,_,rfl,gM (lp (n:=3) rfl<|by decide) ?_⟩;refine⟨_,rfl,a,_,rfl,.inr<|fe.of e,rfl,_,rfl,fE (tL (n:=3) rfl<|by decide) ?_⟩;exact⟨_,rfl,_,rfl,xT e rfl ⟨_,rfl,xT e rfl ⟨_,rfl,xT e rfl ⟨p,r,_,y,_,rfl,s,x,m,.inr<|.inl ⟨rfl,N⟩,k⟩⟩⟩⟩
 ·refine⟨_,rfl,_,_,_,_,rfl,.tup e,fI (T:= "tuple") (by decide)<|by decide,_,rfl,iN ?_⟩
  refine⟨_,rfl,a,_,rfl,.inr<|fe.of e,rfl,_,rfl,gM (lp (n:=4) rfl<|by decide) ?_⟩;refine⟨_,rfl,xT e rfl ⟨_,_,_,_,rfl,.str _,fI (T:= "str") (by decide)<|by decide,_,rfl,iN ?_⟩⟩;refine⟨_,rfl,a,_,rfl,.inr<|fe.of e,rfl,_,rfl,fE (tL (n:=4) rfl<|by decide) ?_⟩;refine⟨_,rfl,xT e rfl ⟨rfl,_,rfl,iP ?_⟩⟩;refine⟨_,rfl,_,rfl,xT e rfl ⟨p,r,y,rfl,s,x,m,λH1 F=>⟨_,rfl,fL ?_⟩⟩⟩;exact⟨_,rfl,xT (F _ _ e) rfl ⟨_,rfl,xT (F _ _ e) rfl ⟨h,M,rfl,j,q,I,k H1 F⟩⟩⟩
 ·refine⟨_,rfl,_,_,_,_,rfl,.tup e,fI (T:= "tuple") (by decide)<|by decide,_,rfl,iN ?_⟩
  refine⟨_,rfl,a,_,rfl,.inr<|fe.of e,rfl,_,rfl,gM (lp (n:=3) rfl<|by decide) ?_⟩;refine⟨_,rfl,xT e rfl ⟨_,_,_,_,rfl,.str _,fI (T:= "str") (by decide)<|by decide,_,rfl,iN ?_⟩⟩;refine⟨_,rfl,a,_,rfl,.inr<|fe.of e,rfl,_,rfl,gM (lp (n:=3) rfl<|by decide) ?_⟩;refine⟨_,rfl,a,_,rfl,.inr<|fe.of e,rfl,_,rfl,fE (tL (n:=3) rfl<|by decide) ?_⟩;exact⟨_,rfl,_,rfl,xT e rfl ⟨_,rfl,xT e rfl ⟨_,rfl,xT e rfl ⟨p,r,_,y,_,rfl,s,x,m,.inl ⟨rfl,z,rfl,S,O⟩,k⟩⟩⟩⟩
def ql:cK ["thing"] ["thing"] (cI hZ):={}
def y9 {fd:FuncData}(D:Df K mg "are_persons" hZ ["thing"] f fd) (T:Txt K mg kw C) (r:Gd P w K mg base 1 "is_list_up_to" ir) (o:Gd P w K mg base 1 "is_name" (qw K)):Gd P w K mg base 2 "are_persons" sU:=by
 refine aG D ql λX H R Q E a h=>?_;obtain⟨p,i,rfl,j,m,k⟩:=h;have B:(i.map V.str).length=i.length:=QM ..;have F:=m.hi;have S:=m.lo;have A:(i.map V.str).length<=sizeLine:=by
  have:sizeLine=16777216:=Rh;lia
 obtain⟨l,_⟩:=a.fc [0];have g:=a.b T.b_len;refine⟨_,(af (aH (a7<|bS (bu<|bh<|ak (a.gK r rfl (by lia)<|by decide)<|aB (aa l)<|cC a T.g_MOST_PERSONS rfl<|by decide)<|b5<|aF aO (aJ g aY dh<|aj<|aa l) ae<|cL _)
 (ag<|aw bj)
 aI)
 (ag<|aw<|aV (aJ (a.b T.b_all) (cu a.calm) mw<|aj<|cz (is:=[]) (ns:=[]) a.calm (aQ<|aa l) {} (λ_ _ _ _ _=>ak ((a.wj o (by lia)<|by decide).lc rfl)<|aj<|cj rfl (by decide)<|by decide) a.hsc a.hN)<|a8<|ba aO (aJ g J.hJ dh<|aj<|bo (a.b T.b_set) (J.mX a.calm) CK<|aj<|aa l) (aJ g aY dh<|aj<|aa l)<|cL _)),?_⟩
 refine⟨_,rfl,p,_,24,rfl,j,by lia,_,rfl,dG ?_⟩;refine⟨_,rfl,p,_,rfl,.inl<|cN.of j,rfl,_,rfl,gM ?_ ?_⟩
 ·rw[Rz]
  intro e;injection e with e
  lia
 ·refine⟨_,rfl,p,rfl,⟨_,cN.of j⟩,lG (λv=>.bl<|zM v) (cN.of j) A (λv W U M n N=>?_) λG Y O n s=>?_⟩
  ·obtain⟨x,I,rfl⟩:=Ru.mp M
   exact⟨_,rfl,.str x,"str",rfl,.str x,by decide,mM<|m.nm x I,λz L=>N z L⟩
  ·refine⟨G,i.map dX,rfl,cN.of<|s.trans<|by rw[Th,Th];rfl,_,rfl,fE (all_true m.nm) ?_⟩
   refine⟨_,rfl,p,i,rfl,cN.of<|n _ _ j,m.nd,by lia,λq y=>?_⟩;refine⟨q,i.length,rfl,cE,_,rfl,p,_,rfl,.inl<|cN.of<|(cH.upd y) _ _<|n _ _ j,rfl,?_⟩;rw[B,dT0 rfl];exact k _<|n.trans<|cH.upd y
def rb:cK ["persons","thing"] ["persons","thing"] (cI iH):={}
def qW (D:Df K mg "are_sights" iH ["persons","thing"] f fd) (T:Txt K mg kw C) (l:Gd P w K mg base 1 "is_list_up_to" ir) (j:Gd P w K mg base 3 "is_sight" zL):Gd P w K mg base 4 "are_sights" (mz dP 24):=by
 refine aG D rb λX H N Q E a h=>?_;obtain⟨p,q,x,n,rfl,z,G,g,O,r,k⟩:=h;have y:n.length<=sizeLine:=by
  have:sizeLine=16777216:=Rh;lia
 obtain⟨L,o,_⟩:=a.fc [0,1];refine⟨_,ag<|aw<|aV (ak (a.gK l rfl (by lia)<|by decide)<|aB (aa o)<|cC a T.g_MOST_SIGHTS rfl<|by decide)<|a8<|aJ (a.b T.b_all) (cu a.calm) mw<|aj<|cz (is:=[0]) (ns:=["persons"]) a.calm (aQ<|aa o) {} (λ_ _ _ _ _=>ak ((a.wj j (by lia)<|by decide).lc rfl)<|aB (J.Pk (i:=0) rfl rfl (by decide)<|by decide)<|cj rfl (by decide)<|by decide) a.hsc a.hN,?_⟩;refine⟨_,rfl,q,_,24,rfl,g,by lia,_,rfl,fL ?_⟩;refine⟨_,rfl,q,rfl,⟨_,cN.of g⟩,lG (λ_=>.bl true) (cN.of g) y (λv S R F e I=>?_) λA U M e m=>?_⟩
 ·exact⟨_,rfl,_,rfl,p,x,v,rfl,e _ _ z,G,(r v F).mono<|Tk.of e,λs B=>I s B⟩
 ·refine⟨A,n.map λ_=>true,rfl,cN.of<|m.trans<|by simp_all,?_⟩
  grind
def uP:cK ["persons","thing"] ["persons","thing"] (cI jU):={}
def uO (D:Df K mg "are_talks" jU ["persons","thing"] f fd) (T:Txt K mg kw C) (l:Gd P w K mg base 1 "is_list_up_to" ir) (j:Gd P w K mg base 4 "is_talk" CP):Gd P w K mg base 5 "are_talks" (mz eT 120):=by
 refine aG D uP λX H N Q E a h=>?_;obtain⟨p,q,x,n,rfl,z,G,g,O,r,k⟩:=h;have y:n.length<=sizeLine:=by
  have:sizeLine=16777216:=Rh;lia
 obtain⟨L,o,_⟩:=a.fc [0,1];refine⟨_,ag<|aw<|aV (ak (a.gK l rfl (by lia)<|by decide)<|aB (aa o)<|cC a T.g_MOST_TALKS rfl<|by decide)<|a8<|aJ (a.b T.b_all) (cu a.calm) mw<|aj<|cz (is:=[0]) (ns:=["persons"]) a.calm (aQ<|aa o) {} (λ_ _ _ _ _=>ak ((a.wj j (by lia)<|by decide).lc rfl)<|aB (J.Pk (i:=0) rfl rfl (by decide)<|by decide)<|cj rfl (by decide)<|by decide) a.hsc a.hN,?_⟩;refine⟨_,rfl,q,_,120,rfl,g,by lia,_,rfl,fL ?_⟩;refine⟨_,rfl,q,rfl,⟨_,cN.of g⟩,lG (λ_=>.bl true) (cN.of g) y (λv S R F e I=>?_) λA U M e m=>?_⟩
 ·exact⟨_,rfl,_,rfl,p,x,v,rfl,e _ _ z,G,(r v F).mono<|Tk.of e,λs B=>I s B⟩
 ·refine⟨A,n.map λ_=>true,rfl,cN.of<|m.trans<|by simp_all,?_⟩
  grind
def qi:cK ["persons","thing"] ["persons","thing"] (cI hU):={}
def p0 (D:Df K mg "are_sayings" hU ["persons","thing"] f fd) (T:Txt K mg kw C) (l:Gd P w K mg base 1 "is_list_up_to" ir) (j:Gd P w K mg base 5 "is_saying" xq):Gd P w K mg base 6 "are_sayings" (mz jo 60):=by
 refine aG D qi λX H N Q E a h=>?_;obtain⟨p,q,x,n,rfl,z,G,g,O,r,k⟩:=h;have y:n.length<=sizeLine:=by
  have:sizeLine=16777216:=Rh;lia
 obtain⟨L,o,_⟩:=a.fc [0,1];refine⟨_,ag<|aw<|aV (ak (a.gK l rfl (by lia)<|by decide)<|aB (aa o)<|cC a T.g_MOST_SAYINGS rfl<|by decide)<|a8<|aJ (a.b T.b_all) (cu a.calm) mw<|aj<|cz (is:=[0]) (ns:=["persons"]) a.calm (aQ<|aa o) {} (λ_ _ _ _ _=>ak ((a.wj j (by lia)<|by decide).lc rfl)<|aB (J.Pk (i:=0) rfl rfl (by decide)<|by decide)<|cj rfl (by decide)<|by decide) a.hsc a.hN,?_⟩;refine⟨_,rfl,q,_,60,rfl,g,by lia,_,rfl,fL ?_⟩;refine⟨_,rfl,q,rfl,⟨_,cN.of g⟩,lG (λ_=>.bl true) (cN.of g) y (λv S R F e I=>?_) λA U M e m=>?_⟩
 ·exact⟨_,rfl,_,rfl,p,x,v,rfl,e _ _ z,G,(r v F).mono<|Tk.of e,λs B=>I s B⟩
 ·refine⟨A,n.map λ_=>true,rfl,cN.of<|m.trans<|by simp_all,?_⟩
  grind
def Ck:cK ["self","persons","sights","talks","sayings"] ["self","persons","sights","talks","sayings"] (cI iD):={}
def Fs (F:qT K "__init__" "Book.__init__" iD f fd) (mk:Mk K C f) (bi:Binds K fd ["self","persons","sights","talks","sayings"] []) (nm:mg "Book" =some (.ref C)) (T:Txt K mg kw C)
  (ar:Gd P w K mg base 2 "are_persons" sU) (aq:Gd P w K mg base 4 "are_sights" (mz dP 24)) (ap:Gd P w K mg base 5 "are_talks" (mz eT 120)) (an:Gd P w K mg base 6 "are_sayings" (mz jo 60)):
  Kd P w K mg base 7 "Book" C (C0 C):=by
 refine J.HZ F mk bi nm Ck (λvs H Q E h=>?_) λX H vs Q E B h=>?_
 ·obtain⟨x,q,p,a,b,c,A,ss,ts,ys,rfl,_⟩:=h
  rfl
 ·obtain⟨x,q,p,a,b,c,A,ss,ts,ys,rfl,N,hp,ha,hb,hc,g,k⟩:=h
  obtain⟨hP,sl,sg,tl,tg,yl,yg⟩:=id g;obtain⟨S0,S1,S2,S3,S4,_⟩:=B.fc [0,1,2,3,4];have l:=B.b T.b_list;obtain rfl:=B.fK;refine⟨_,(af (aH (bu<|bh<|ak (B.gK ar rfl (by lia)<|by decide)<|aj<|aa S1)
 cB
 aI)
 (af (aH (bu<|bh<|ak (B.gK aq rfl (by lia)<|by decide)<|aB (aa S1)<|aa S2)
 cB
 aI)
 (af (aH (bu<|bh<|ak (B.gK ap rfl (by lia)<|by decide)<|aB (aa S1)<|aa S3)
 cB
 aI)
 (af (aH (bu<|bh<|ak (B.gK an rfl (by lia)<|by decide)<|aB (aa S1)<|aa S4)
 cB
 aI)
 (af (J.mG (aa S0)<|bo l bD eC<|aj<|aa S1)
 (af (J.mG (aa S0)<|bo l bD eC<|aj<|aa S2)
 (af (J.mG (aa S0)<|bo l bD eC<|aj<|aa S3)
 (ag<|J.mG (aa S0)<|bo l bD eC<|aj<|aa S4)))))))),?_⟩
  refine⟨_,rfl,p,A,rfl,hp,hP,λH1 s1=>⟨_,rfl,dG ?_⟩⟩;refine⟨_,rfl,_,rfl,p,a,A,ss,rfl,s1 _ _ hp,hP,s1 _ _ ha,sl,λv Z=>(sg v Z).mono<|Tk.of s1,λH2 am=>⟨_,rfl,dG ?_⟩⟩;have s2:=s1.trans am;refine⟨_,rfl,_,rfl,p,b,A,ts,rfl,s2 _ _ hp,hP,s2 _ _ hb,tl,λv Z=>(tg v Z).mono<|Tk.of s2,λH3 al=>⟨_,rfl,dG ?_⟩⟩;have s3:=s2.trans al;refine⟨_,rfl,_,rfl,p,c,A,ys,rfl,s3 _ _ hp,hP,s3 _ _ hc,yl,λv Z=>(yg v Z).mono<|Tk.of s3,λy as=>⟨_,rfl,dG ?_⟩⟩;have i:=s3.trans as;refine⟨_,rfl,p,_,rfl,.inl<|cN.of<|i _ _ hp,λm np=>⟨_,rfl,x,C,q,[],rfl,by rw[cG<|cF (i _ _ N) np];exact i _ _ N,T.cl,T.nP,by decide,?_⟩⟩;have j:=cF (i _ _ N) np;have k1:∀d o,y d=some o->d≠x->upd (upd y m<|.lst<|A.map V.str) x (.ins C q<|gj "kept_persons" (.ref m) []) d=some o:=λd o e n=>by
   rw[cG n,cG<|cF e np];exact e
  have ax:=pG (i _ _ ha) (i _ _ N) (by intro z;cases z);have bx:=pG (i _ _ hb) (i _ _ N) (by intro z;cases z);have cx:c≠x:=pG (i _ _ hc) (i _ _ N) (by intro z;cases z);refine⟨_,rfl,a,_,rfl,.inl<|cN.of<|k1 _ _ (i _ _ ha) ax,λs S=>⟨_,rfl,x,C,q,_,rfl,by rw[cG<|cF cE S];exact cE,T.cl,T.nS,by show 1<1000;decide,?_⟩⟩;have D:x≠s:=cF cE S;have r:m≠s:=cF (by rw[cG j.symm];exact cE) S;have U:y s=none:=by
   rw[cG D.symm,cG r.symm]at S;exact S
  have k2:∀d o,y d=some o->d≠x->upd (upd (upd (upd y m<|.lst<|A.map V.str) x<|.ins C q<|gj "kept_persons" (.ref m) []) s<|.lst ss) x (.ins C q<|gj "kept_sights" (.ref s) (gj "kept_persons" (.ref m) [])) d=some o:=λd o e n=>by
   rw[cG n,cG<|cF e U];exact k1 d o e n
  refine⟨_,rfl,b,_,rfl,.inl<|cN.of<|k2 _ _ (i _ _ hb) bx,λM O=>⟨_,rfl,x,C,q,_,rfl,by rw[cG<|cF cE O];exact cE,T.cl,T.nT,by show 2<1000;decide,?_⟩⟩;have W:x≠M:=cF cE O;have XE:s≠M:=cF (by rw[cG D.symm];exact cE) O;have I:m≠M:=cF (by rw[cG j.symm,cG r,cG j.symm];exact cE) O;have G:y M=none:=by
   rw[cG W.symm,cG XE.symm,cG W.symm,cG I.symm]at O;exact O
  refine⟨_,rfl,c,_,rfl,.inl<|cN.of<|by rw[cG cx,cG<|cF (i _ _ hc) G];exact k2 _ _ (i _ _ hc) cx,λR L=>⟨_,rfl,x,C,q,_,rfl,by rw[cG<|cF cE L];exact cE,T.cl,T.nY,by show 3<1000;decide,?_⟩⟩;have xy:x≠R:=cF cE L;have ac:M≠R:=cF (by rw[cG W.symm];exact cE) L;have Y:s≠R:=cF (by rw[cG D.symm,cG XE,cG D.symm];exact cE) L;have ad:m≠R:=cF (by rw[cG j.symm,cG I,cG j.symm,cG r,cG j.symm];exact cE) L;have ab:y R=none:=by
   rw[cG xy.symm,cG ac.symm,cG xy.symm,cG Y.symm,cG xy.symm,cG ad.symm]at L;exact L
  refine k m s M R _ (i.free np) (i.free U) (i.free G) (i.free ab) ⟨⟨q,cE⟩,?_,?_,?_,?_⟩ λd o e n=>?_
  ·rw[cG j.symm,cG ad,cG j.symm,cG I,cG j.symm,cG r,cG j.symm]
   exact cE
  ·rw[cG D.symm,cG Y,cG D.symm,cG XE,cG D.symm]
   exact cE
  ·rw[cG W.symm,cG ac,cG W.symm]
   exact cE
  ·rw[cG xy.symm]
   exact cE
  ·rw[cG n,cG<|cF (i _ _ e) ab,cG n,cG<|cF (i _ _ e) G]
   exact k2 d o (i _ _ e) n
end K43
namespace K43
variable {P:Xr}{w:Xs}{K:Frag}{mg:XB}{base:Heap}{kw C:Xp}{f:Xp}{fd:FuncData}
abbrev TD:=Xx×Xx×Xx
def dQ(k:Nat)(d:TD):Xw (Nat×Xx×Xx):=if d.2.2= "both" then [(k,d.1,d.2.1),(k,d.2.1,d.1)] else [(k,d.1,d.2.1)]
def fu(k:Nat):Xw TD->Xw (Nat×Xx×Xx)
 |[]=>[]
 |d::r=>dQ k d++fu (k+1) r
theorem p7(d:TD):∀(l:Xw TD) (k:Nat),fu k (l++[d])=fu k l++dQ (k+l.length) d
 |[],k=>by
  show dQ k d++[]=[]++dQ (k+0) d;grind
 |e::r,k=>by
  show dQ k e++fu (k+1) (r++[d])=(dQ k e++fu (k+1) r)++dQ (k+(r.length+1)) d;rw[p7 d r<|k+1,QS,show k+1+r.length=k+(r.length+1) by lia]
def xZ(k:Nat)(d:TD):(dQ k d).length<=2:=by
 unfold dQ;split
 ·exact QP 2
 ·exact T6 1
theorem iY:∀(l:Xw TD) (k:Nat),(fu k l).length<=2*l.length
 |[],_=>QP 0
 |d::r,k=>by
  show(dQ k d++fu (k+1) r).length<=2*(r.length+1);rw[QK];have:=xZ k d;have:=iY r<|k+1;lia
inductive NN  (H:Hp)(v:V)(d:TD):Prop
 |mk(a:Xp)(h:Int)(h0:v=.ref a)(e:H a=some (.tup [.int h,.str d.1,.str d.2.1,.str d.2.2]))
def M7(H:Hp)(a:Xw V)(e:Xw TD):Prop:=a.length=e.length/\∀(i:Nat) v d,a[i]? =some v->e[i]? =some d->NN H v d
def M7.mono(s:Tk H H')(h:M7 H ts td):M7 H' ts td:=⟨h.1,λi v d g f=>by
 obtain⟨a,t,e,j⟩:=h.2 i v d g f;exact⟨a,t,e,s _ _ j⟩⟩
inductive rg  (H:Hp)(v:V)(t:Nat×Xx×Xx):Prop
 |mk(a:Xp)(h0:v=.ref a)(e:H a=some (.tup [.int t.1,.str t.2.1,.str t.2.2]))
def dU(H:Hp)(us:Xw V)(a:Xw (Nat×Xx×Xx)):Prop:=us.length=a.length/\∀(i:Nat) u t,us[i]? =some u->a[i]? =some t->rg H u t
def rg.mono(s:Tk H H')(h:rg H v t):rg H' v t:=by
 obtain⟨a,e,f⟩:=h;exact⟨a,e,s _ _ f⟩
def dU.mono(s:Tk H H')(h:dU H us ks):dU H' us ks:=⟨h.1,λi u t a e=>(h.2 i u t a e).mono s⟩
def dU.nil:dU H [] []:=⟨rfl,λi u t a=>by cases a⟩
def dU.snoc{H:Hp}{us:Xw V}{l:Xw (Nat×Xx×Xx)}{u:V}{t:Nat×Xx×Xx}(h:dU H us l)(n:rg H u t):dU H (us++[u]) (l++[t]):=by
 refine⟨by rw[QK,QK,h.1];rfl,λi x e a f=>?_⟩;by_cases m:i<us.length
 ·rw[Rf m]at a
  rw[Rf<|by rw[<-h.1];exact m]at f;exact h.2 i x e a f
 ·rw[QW<|by lia]at a
  rw[QW<|by rw[<-h.1];lia,<-h.1]at f;cases g:i-us.length with
  |zero=>
   rw[g]at a f;cases a;cases f;exact n
  |succ j=>
   rw[g]at a;cases a
inductive xj  (C:Xp)(vs:Xw V)(H:Hp)(Q:VK):Prop
 |mk(x p s t y:Xp)(ps:Xw Xx)(ss a ys:Xw V)(e:Xw TD)(h0:vs=[.ref x])(h:Bk C H x p s t y ps ss a ys)(f:M7 H a e)(i:a.length<=120)(g:∀(l:Xp)(us:Xw V)(H':Hp),cH H H'->H l=none->H' l=some (.lst us)->dU H' us (fu 0 e)->Q (.ref l) H')
def iZ  (C:Xp):Sp:=λa H Q _=>xj C a H Q
inductive Nm(x l:Xp)(H:Hp)(f:Xw TD)(i:Nat)(σ:St)(a:Hp):Prop
 |mk(us:Xw V)(g h:Xu V)(e:σ=[some (.ref x),some (.ref l),g,h])(s:cH H a)(m:a l=some (.lst us))(j:dU a us (fu 0 (f.take i)))
def zm{a:Xw TD}{i:Nat}{d:TD}(hd:a[i]? =some d)(t:dU H us (fu 0<|a.take i)):
  (d.2.2= "both" ->∀u v,rg H u (i,d.1,d.2.1)->rg H v (i,d.2.1,d.1)->dU H ((us++[u])++[v]) (fu 0<|a.take<|i+1))/\(d.2.2≠ "both" ->∀u,rg H u (i,d.1,d.2.1)->dU H (us++[u]) (fu 0<|a.take<|i+1)):=by
 have j:=(gI0.mp hd).1;have e:fu 0 (a.take<|i+1)=fu 0 (a.take i)++dQ i d:=by
  rw[RN,hd];show fu 0 (a.take i++[d])=_;rw[p7,RU,Td,UI<|Us j]
 rw[e];refine⟨λg u v f h=>?_,λg u f=>?_⟩
 ·rw[show dQ i d=[(i,d.1,d.2.1)]++[(i,d.2.1,d.1)] by unfold dQ;rw[QR g];rfl,<-QS]
  exact(t.snoc f).snoc h
 ·rw[show dQ i d=[(i,d.1,d.2.1)] by unfold dQ;rw[QO g]]
  exact t.snoc f
def qP:cK ["self","told","k","talk"] ["self"] (cI eE):={}
def wJ {fd:FuncData}(F:qT K "tellings" "Book.tellings" eE f fd) (me:Meth K C "tellings" f) (bi:Binds K fd ["self"] []) (T:Txt K mg kw C):Md P w K mg base 1 C "tellings" (iZ C):=by
 refine cq F me bi T.cl qP (λvs H Q E h=>?_) λX H vs Q E B h=>?_
 ·obtain⟨x,p,s,t,y,ps,ss,ts,ys,S,rfl,_⟩:=h
  rfl
 ·obtain⟨x,p,s,t,y,ps,ss,ts,ys,S,rfl,bk,D,aq,k⟩:=h
  obtain⟨S0,S1,S2,O,_⟩:=B.fc [0,1,2,3];obtain rfl:=B.fK;have XO:=Rh;obtain⟨⟨dx,hx⟩,_,_,ht,_⟩:=id bk;refine⟨_,(af (au S1 B.nd<|a5 bz)
 (af (aZ B.own B.calm (J.oR (B.b T.b_enumerate)<|aj<|cb<|aa S0) (bO B.calm<|aT (aN S2 B.nd)<|aT (aN O B.nd) bH)
 (af (br<|bw RZ RA RE bF (aa S1)<|aj<|aL<|aP (aa S2) (ai aE (aa O) ae ah)<|ai aE (aa O) ae ah)
 (ag (aH (aF aO (ai aE (aa O) ae ah) ao<|cL _)
 (ag<|br<|bw RZ RA RE bF (aa S1)<|aj<|aL<|aP (aa S2) (ai aE (aa O) ae ah)<|ai aE (aa O) ae ah)
 aI))))
 (ag<|aw<|aa S1))),?_⟩
  refine⟨by decide,λl hl=>?_⟩;have s1:=cH.upd (o:=.lst []) hl;refine⟨_,rfl,x,C,dx,_,_,rfl,s1 _ _ hx,T.cl,T.nT,Jb _ _ _ _,t,rfl,⟨_,cN.of<|s1 _ _ ht⟩,Dm (xs:=ts) (Nm x l H S)
   ⟨[],none,none,rfl,s1,cE,dU.nil⟩ ?_ ?_ ?_⟩
  ·rintro i σ H2 ⟨_,_,_,_,R,_⟩
   exact cN.of<|R _ _ ht
  ·rintro i v q σ H2 hv hq ⟨j,e1,e2,rfl,R,M,tl⟩
   have hi:=(gI0.mp hv).1;have hd:S[i]? =some (S[i]'(by rw[<-D.1];exact hi)):=QJ _;generalize (S[i]'(by grind))=d at hd;obtain⟨a,h,rfl,ha⟩:=D.2 i v d hv hd;have ul:j.length<=240:=by
    have:=iY (S.take i) 0;rw[RU]at this;have:=tl.1;have:=D.1;lia
   refine⟨q,_,rfl,fe.of cE,rfl,_,_,rfl,_,_,rfl,rfl,?_⟩;have s3:=cH.upd (o:=.tup [.int i,.ref a]) hq;have r:=s3 _ _<|R _ _ ha;have m:=s3 _ _ M;have Z:=tl.mono<|Tk.of s3;have ad:=R.trans s3;generalize upd H2 q (.tup [.int i,.ref a])=Y at r m Z ad;refine⟨_,rfl,.inl ⟨rfl,_,cN.of m⟩,_,rfl,_,rfl,xT r rfl ⟨_,rfl,xT r rfl ⟨uB,λg ab=>?_⟩⟩⟩;have W:=cH.upd (o:=.tup [.int i,.str d.1,.str d.2.1]) ab;refine⟨l,j,.ref g,rfl,rfl,W _ _ m,by lia,?_⟩;have al:=pG r m (by intro z;cases z);have am:=(cF m ab).symm;have A:upd (upd Y g<|.tup [.int i,.str d.1,.str d.2.1]) l (.lst<|j++[.ref g]) a=some (.tup [.int h,.str d.1,.str d.2.1,.str d.2.2]):=by
    rw[cG al];exact W _ _ r
   have G:rg (upd (upd Y g<|.tup [.int i,.str d.1,.str d.2.1]) l<|.lst<|j++[.ref g]) (.ref g) (i,d.1,d.2.1):=⟨g,rfl,by rw[cG am];exact cE⟩;have an:=(Tk.of W).trans<|Tk.upd (W _ _ m) (ys:=j++[.ref g]);have N:=Z.mono an;have n:upd (upd Y g<|.tup [.int i,.str d.1,.str d.2.1]) l (.lst<|j++[.ref g]) l=some (.lst<|j++[.ref g]):=cE;have L:cH H (upd (upd Y g<|.tup [.int i,.str d.1,.str d.2.1]) l<|.lst<|j++[.ref g]):=λb o e=>by
    rw[cG<|cF e hl];exact W _ _<|ad _ _ e
   generalize upd (upd Y g<|.tup [.int i,.str d.1,.str d.2.1]) l (.lst<|j++[.ref g])=H5 at A G N n L;refine⟨_,rfl,xT A rfl ⟨rfl,_,rfl,dD (λhb=>?_) λhb=>?_⟩⟩
   ·have I:d.2.2= "both" :=V.str.inj (QT hb)
    refine⟨_,rfl,.inl ⟨rfl,_,cN.of n⟩,_,rfl,_,rfl,xT A rfl ⟨_,rfl,xT A rfl ⟨uB,λt2 ac=>?_⟩⟩⟩;have s6:=cH.upd (o:=.tup [.int i,.str d.2.1,.str d.1]) ac;refine⟨l,_,.ref t2,rfl,rfl,s6 _ _ n,by rw[QK];show j.length+1<_;lia,?_⟩;have ap:t2≠l:=(cF n ac).symm;have U:=(Tk.of s6).trans<|Tk.upd (s6 _ _ n) (ys:=(j++[.ref g])++[.ref t2]);refine⟨_,_,_,rfl,λb o e=>?_,cE,(zm hd<|N.mono U).1 I _ _ (G.mono U) ⟨t2,rfl,?_⟩⟩
    ·rw[cG<|cF e hl]
     exact s6 _ _<|L _ _ e
    ·rw[cG ap]
     exact cE
   ·have I:d.2.2≠ "both" :=λe=>hb (dT0<|RP V.str e)
    exact⟨_,_,_,rfl,L,n,(zm hd N).2 I _ G⟩
  ·rintro σ H2 ⟨j,e1,e2,rfl,R,M,tl⟩
   rw[D.1,RX]at tl;exact⟨_,rfl,k l j H2 R hl M tl⟩
inductive SD where
 |knew (p:Xx)(h:Int)
 |unh (p:Xx)(h:Xu Int)
 |sil (p:Xx)(b e:Int)
 |bar (p q:Xx)
def oV:Xu Int->V
 |none=>.non
 |some h=>.int h
def SD.tup:SD->Xw V
 |.knew p h=>[.str "knew",.str p,.int h]
 |.unh p h=>[.str "unheard",.str p,oV h]
 |.sil p b e=>[.str "silent",.str p,.int b,.int e]
 |.bar p q=>[.str "barred",.str p,.str q]
def HS(ps:Xw Xx):SD->Prop
 |.knew p h=>p∈ps/\du h
 |.unh p h=>p∈ps/\∀i,h=some i->du i
 |.sil p b e=>p∈ps/\du b/\du e/\b<=e
 |.bar p q=>p∈ps/\q∈ps/\p≠q
inductive BD  (H:Hp)(v:V)(d:SD):Prop
 |mk(a:Xp)(h0:v=.ref a)(e:H a=some (.tup d.tup))
def Sys(H:Hp)(ys:Xw V)(sd:Xw SD):Prop:=ys.length=sd.length/\∀(i:Nat) v d,ys[i]? =some v->sd[i]? =some d->BD H v d
def Sys.mono(s:Tk H H')(h:Sys H ys sd):Sys H' ys sd:=⟨h.1,λi v d g f=>by
 obtain⟨a,e,j⟩:=h.2 i v d g f;exact⟨a,e,s _ _ j⟩⟩
def Sys.nil:Sys H [] []:=⟨rfl,λi v d a=>by cases a⟩
def Sys.at{H:Hp}{ys:Xw V}{sd:Xw SD}{i:Nat}{v:V}(h:Sys H ys sd)(f:ys[i]? =some v):∃d a,sd[i]? =some d/\v=.ref a/\H a=some (.tup d.tup):=by
 have g:i<sd.length:=by
  rw[<-h.1];exact(gI0.mp f).1
 obtain⟨a,e,j⟩:=h.2 i v sd[i] f (QJ g);exact⟨sd[i],a,QJ g,e,j⟩
def Ff(h:jo ps H v):∃d,BD H v d/\HS ps d:=by
 obtain⟨a,e,h⟩:=h;obtain ⟨p,h,g,j,f⟩|⟨p,b,g,j,f⟩|⟨p,h,k,g,j,f,l,m⟩|⟨p,q,g,j,f,l⟩:=h
 ·exact⟨.knew p h,⟨a,e,g⟩,j,f⟩
 ·obtain rfl|⟨h,rfl,f⟩:=f
  ·exact⟨.unh p none,⟨a,e,g⟩,j,λi z=>by cases z⟩
  ·exact⟨.unh p<|some h,⟨a,e,g⟩,j,λi z=>by cases z;exact f⟩
 ·exact⟨.sil p h k,⟨a,e,g⟩,j,f,l,m⟩
 ·exact⟨.bar p q,⟨a,e,g⟩,j,f,l⟩
theorem sr{ps:Xw Xx}{H:Hp}:∀{ys:Xw V},(∀v∈ys,jo ps H v)->∃sd,Sys H ys sd/\∀d∈sd,HS ps d
 |[],_=>⟨[],Sys.nil,λd m=>by cases m⟩
 |v::r,h=>by
  obtain⟨sd,⟨l,g⟩,k⟩:=sr λu f=>h u<|RK _ f;obtain⟨d,m,n⟩:=Ff<|h v<|RD ..;refine⟨d::sd,⟨by rw[RG,RG,l],λi u e f a=>?_⟩,λe a=>?_⟩
  ·cases i with
   |zero=>
    cases f;cases a;exact m
   |succ j=>exact g j u e f a
  ·obtain rfl|a:=Rq.mp a
   ·exact n
   ·exact k e a
def gh{l:Xw α}{i:Nat}{d:α}(h:l[i]? =some d):l.drop i=d::l.drop (i+1):=by
 obtain⟨a,rfl⟩:=gI0.mp h;exact UP a
def n9{α:Type}(l:Xw α)(p:α->Bool)(i:Nat):Bool:=match l[i]? with
 |some d=>p d
 |none=>false
def Jk{α:Type}(l:Xw α)(f:α->V)(i:Nat):V:=match l[i]? with
 |some d=>f d
 |none=>.non
def qE(h:l[i]? =some d):n9 l p i=p d:=by
 unfold n9;rw[h]
def EV{f:α->V}(h:l[i]? =some d):Jk l f i=f d:=by
 unfold Jk;rw[h]
theorem pV{α:Type}(p:α->Bool)(f:α->V):∀l:Xw α,((List.range l.length).filter<|n9 l p).map (Jk l f)=(l.filter p).map f
 |[]=>rfl
 |d::r=>by
  have g:=pV p f r;have a:(n9 (d::r) p ∘ Nat.succ)=n9 r p:=rfl;have h:(Jk (d::r) f ∘ Nat.succ)=Jk r f:=rfl;rw[RG,U8,Sf,V9,a];have e:n9 (d::r) p 0=p d:=rfl;rw[e,Sf];cases p d with
  |true=>
   rw[QR rfl,QR rfl,RL,RL,Th,h,g];rfl
  |false=>grind
def wI(z:Xx):SD->Bool
 |.unh q _=>decide<|q=z
 |_=>false
def SD.hr:SD->Xu Int
 |.unh _ h=>h
 |_=>none
def ui(z:Xx)(sd:Xw SD):Xw (Xu Int):=(sd.filter<|wI z).map SD.hr
def MJ(a:Int):Xw (Xu Int)->Xu Int
 |[]=>some a
 |none::_=>none
 |some h::r=>MJ (if h > a then h else a) r
def floorOf(z:Xx)(sd:Xw SD):Xu Int:=MJ (-1)<|ui z sd
def gO(h:wI z d=false):ui z (d::r)=ui z r:=by
 unfold ui;grind
def vy:ui z (.unh z h::r)=h::ui z r:=by
 unfold ui;rw[Sf,QR<|show wI z (.unh z h)=true from dT0 rfl];rfl
inductive EF  (C:Xp)(M:Xp->Xp->Xp->Xp->Xp)(vs:Xw V)(H:Hp)(Q:VK):Prop
 |mk(x p s t y:Xp)(xs:Xw V)(h0:vs=[.ref x])(f:(∃a,H x=some (.ins C a (oy p s t y))))(e:H (M p s t y)=some (.lst xs))(g:∀l,H l=none->Q (.ref l) (upd H l (.lst xs)))
def dB  (C:Xp)(M:Xp->Xp->Xp->Xp->Xp):Sp:=λa H Q _=>EF C M a H Q
inductive J6(C:Xp)(vs:Xw V)(H:Hp)(Q:VK):Prop
 |mk(x p s t y:Xp)(ps:Xw Xx)(ss a ys:Xw V)(z:Xx)(sd:Xw SD)(e:vs=[.ref x,.str z])(bk:Bk C H x p s t y ps ss a ys)(f:Sys H ys sd)(l:ys.length<=60)(k:∀H',cH H H'->Q (oV (floorOf z sd)) H')
def AE(C:Xp):Sp:=λa H Q _=>J6 C a H Q
def uJ:cK ["self"] ["self"] (cI eX):={}
def uF (F:qT K "sayings" "Book.sayings" eX f fd) (m:Meth K C "sayings" f) (bi:Binds K fd ["self"] []) (T:Txt K mg kw C):Md P w K mg base 1 C "sayings" (dB C λ_ _ _ y=>y):=by
 refine cq F m bi T.cl uJ (λe H Q E h=>?_) λX H e Q E a h=>?_
 ·obtain⟨x,p,s,t,y,i,rfl,_⟩:=h
  rfl
 ·obtain⟨x,p,s,t,y,i,rfl,⟨l,n⟩,g,k⟩:=h
  obtain⟨j,_⟩:=a.fc [0];obtain rfl:=a.fK;exact⟨_,ag<|aw<|bo (a.b T.b_list) bD eC<|aj<|cb<|aa j,_,rfl,x,C,l,_,_,rfl,n,T.cl,T.nY,MM _ _ _ _,_,_,rfl,.inl<|cN.of g,k⟩
def wU:cK ["book","person","floor","saying"] ["book","person"] (cI lq):={}
def xu (D:Df K mg "floor_of" lq ["book","person"] f fd) (T:Txt K mg kw C) (R:Md P w K mg base 1 C "sayings" (dB C λ_ _ _ y=>y)):Gd P w K mg base 2 "floor_of" (AE C):=by
 refine aG D wU λX H vs Q E r h=>?_;obtain⟨x,p,s,t,y,ps,ss,ts,I,z,sd,rfl,bk,S,XZ,k⟩:=h;obtain⟨⟨W,U⟩,hp,hs,ht,hy⟩:=id bk;obtain⟨Z,S1,M,L,_⟩:=r.fc [0,1,2,3];refine⟨_,(af (au M r.nd<|J.EM J.xX ae)
 (af (aZ r.own r.calm (aQ<|bE (r.met R<|by decide) (aa Z) rfl) (aN L r.nd)
 (ag (aH (a7<|bg (aF aO (ai aE (aa L) ae ah) ao<|cL _)<|bq<|aF aO (ai aE (aa L) ae ah) (aa S1)<|cL _)
 (af (aH (aF J.pf (ai aE (aa L) ae ah) bL<|cL _)
 (ag<|aw bL)
 aI)
 (ag<|au M r.nd<|aJ (r.b T.b_max) (J.mZ r.calm) J0<|aB (aa M)<|ai aE (aa L) ae ah))
 aI)))
 (ag<|aw<|aa M))),?_⟩
 refine⟨_,rfl,_,rfl,x,W,_,rfl,U,fU _ _ _ _ (by decide+kernel) (by decide+kernel) (by decide+kernel)<|by decide+kernel,x,p,s,t,y,I,rfl,⟨W,U⟩,hy,λl hl=>?_⟩;have N:=cH.upd (o:=.lst I) hl;have F:upd H l (.lst I) l=some (.lst I):=cE;generalize upd H l (.lst I)=H1 at N F;refine⟨l,rfl,⟨_,cN.of F⟩,c4 (xs:=I) (λi σ G=>∃(n:Int) (e:Xu V),σ=[some<|.ref x,some<|.str z,some<|.int n,e]/\cH H1 G/\MJ n (ui z<|sd.drop i)=floorOf z sd)
  ⟨_,none,rfl,cH.refl _,rfl⟩ ?_ ?_ ?_⟩
 ·rintro i σ G hi ⟨n,e,rfl,m,j⟩
  exact cN.of<|m _ _ F
 ·rintro i v σ G hv ⟨n,e,rfl,m,j⟩
  obtain⟨d,a,Y,rfl,ha⟩:=S.at hv;have g:=m _ _<|N _ _ ha;rw[gh Y]at j;cases d with
  |knew q h=>
   rw[gO rfl]at j;exact⟨_,rfl,xT g rfl ⟨rfl,_,rfl,iN<|dG ⟨n,_,rfl,m,j⟩⟩⟩
  |sil q b e'=>
   rw[gO rfl]at j;exact⟨_,rfl,xT g rfl ⟨rfl,_,rfl,iN<|dG ⟨n,_,rfl,m,j⟩⟩⟩
  |bar q q'=>
   rw[gO rfl]at j;exact⟨_,rfl,xT g rfl ⟨rfl,_,rfl,iN<|dG ⟨n,_,rfl,m,j⟩⟩⟩
  |unh q h=>
   refine⟨_,rfl,xT g rfl ⟨rfl,_,rfl,iP ⟨_,rfl,xT g rfl ⟨_,rfl,rfl,_,rfl,dD (λO=>?_) λO=>?_⟩⟩⟩⟩
   ·have B:=V.str.inj (QT O)
    subst B;rw[vy]at j;cases h with
    |none=>
     refine⟨_,rfl,xT g rfl ⟨rfl,_,rfl,fE (dT0 rfl) ?_⟩⟩;have A:=j;have:=k G<|N.trans m
     rwa [<-A]at this
    |some h=>
     refine⟨_,rfl,xT g rfl ⟨rfl,_,rfl,gM (by rw[Rz];intro e;cases e) ?_⟩⟩;exact⟨_,rfl,_,rfl,xT g rfl ⟨n,h,rfl,_,_,rfl,m,j⟩⟩
   ·have B:wI z (.unh q h)=false:=QU λe=>O (dT0<|RP V.str e)
    rw[gO B]at j;exact⟨n,_,rfl,m,j⟩
 ·rintro σ G ⟨n,e,rfl,m,j⟩
  rw[S.1,List.drop_length]at j;have A:=j;have:=k G<|N.trans m;rw[<-A]at this;exact⟨_,rfl,this⟩
def eO(h:Int):Xu Int->Bool
 |none=>false
 |some m=>decide<|m<h
inductive Kx(vs:Xw V)(H:Hp)(Q:VK):Prop
 |mk(h:Int)(f:Xu Int)(e:vs=[.int h,oV f])(k:Q (.bl (eO h f)) H)
def o3:Sp:=λa H Q _=>Kx a H Q
def Ou(H:Hp)(d:Xp)(ps:Xw Xx)(sd:Xw SD):Prop:=∃a:Xw (Key×V),H d=some (.dK a)/\∀z∈ps,dR a (Sum.inr z)=some (oV<|floorOf z sd)
def Ou.mono(s:cH H H')(h:Ou H d ps sd):Ou H' d ps sd:=by
 obtain⟨a,e,k⟩:=h;exact⟨a,s _ _ e,k⟩
inductive FE(C:Xp)(vs:Xw V)(H:Hp)(Q:VK):Prop
 |mk(x p s t y:Xp)(ps:Xw Xx)(ss a ys:Xw V)(sd:Xw SD)(e:vs=[.ref x])(bk:Bk C H x p s t y ps ss a ys)(f:ps.length<=24)(g:Sys H ys sd)(l:ys.length<=60)(k:∀d H',cH H H'->H d=none->Ou H' d ps sd->Q (.ref d) H')
def pX(C:Xp):Sp:=λa H Q _=>FE C a H Q
def tU:cK ["self"] ["self"] (cI fb):={}
def uD (F:qT K "persons" "Book.persons" fb f fd) (m:Meth K C "persons" f) (bi:Binds K fd ["self"] []) (T:Txt K mg kw C):Md P w K mg base 1 C "persons" (dB C λp _ _ _=>p):=by
 refine cq F m bi T.cl tU (λe H Q E h=>?_) λX H e Q E a h=>?_
 ·obtain⟨x,p,s,t,y,i,rfl,_⟩:=h
  rfl
 ·obtain⟨x,p,s,t,y,i,rfl,⟨l,n⟩,g,k⟩:=h
  obtain⟨j,_⟩:=a.fc [0];obtain rfl:=a.fK;exact⟨_,ag<|aw<|bo (a.b T.b_list) bD eC<|aj<|cb<|aa j,_,rfl,x,C,l,_,_,rfl,n,T.cl,T.nP,Mr _ _ _ _,_,_,rfl,.inl<|cN.of g,k⟩
def vF:cK ["hour","floor"] ["hour","floor"] (cI kO):={}
def xv (D:Df K mg "is_above" kO ["hour","floor"] f fd):Gd P w K mg base 1 "is_above" o3:=by
 refine aG D vF λX H j Q E g h=>?_;obtain⟨h,f,rfl,k⟩:=h;obtain⟨i,a,_⟩:=g.fc [0,1];refine⟨_,ag<|aw<|aV (ba J.oQ (aa a) bL<|cL _)<|a8<|ba bR (aa i) (aa a)<|cL _,?_⟩;cases f with
 |none=>exact⟨_,rfl,rfl,_,rfl,iN k⟩
 |some m=>exact⟨_,rfl,rfl,_,rfl,fE (by rw[UR,Wy];intro e;cases e) ⟨_,rfl,_,rfl,_,_,rfl,rfl,k⟩⟩
def nK:cK ["book","floors","person"] ["book"] (cI fV):={}
def AV (D:Df K mg "floors_of_all" fV ["book"] f fd) (T:Txt K mg kw C) (R:Md P w K mg base 1 C "persons" (dB C λp _ _ _=>p)) (O:Gd P w K mg base 2 "floor_of" (AE C)):Gd P w K mg base 3 "floors_of_all" (pX C):=by
 refine aG D nK λX H vs Q E j h=>?_;obtain⟨x,p,s,t,y,A,ss,ts,ys,sd,rfl,bk,pl,sy,XZ,k⟩:=h;have XO:=Rh;obtain⟨⟨dx,Z⟩,hp,hs,ht,hy⟩:=id bk;obtain⟨W,S,N,_⟩:=j.fc [0,1,2];refine⟨_,(af (au S j.nd J.kj)
 (af (aZ j.own j.calm (aQ<|bE (j.met R<|by decide) (aa W) rfl) (aN N j.nd)
 (ag<|bN (dZ j.room) (aa S) (aa N)<|ak (j.gK O rfl (by lia)<|by decide)<|aB (aa W)<|aa N))
 (ag<|aw<|aa S))),?_⟩
 refine λd q=>?_;have I:=cH.upd (o:=.dK []) q;have B:upd H d (.dK []) d=some (.dK []):=cE;refine⟨_,rfl,x,dx,_,rfl,I _ _ Z,fU _ _ _ _ (by decide+kernel) (by decide+kernel) (by decide+kernel)<|by decide+kernel,x,p,s,t,y,_,rfl,⟨dx,I _ _ Z⟩,I _ _ hp,λl Y=>?_⟩;have M:=cH.upd (o:=.lst<|A.map V.str) Y;have ld:=(cF B Y).symm;refine⟨l,rfl,⟨_,cN.of cE⟩,c4 (xs:=A.map V.str) (λi σ r=>∃(m:Xw (Key×V)) (e:Xu V),σ=[some<|.ref x,some<|.ref d,e]/\cH H r/\r l=some (.lst<|A.map V.str)/\r d=some (.dK m)/\m.length<=i/\∀z∈A.take i,dR m (Sum.inr z)=some (oV<|floorOf z sd))
  ⟨[],none,rfl,I.trans M,cE,M _ _ B,QP 0,λz G=>by cases G⟩ ?_ ?_ ?_⟩
 ·rintro i σ r hi ⟨m,e,rfl,M,a,_⟩
  exact cN.of a
 ·rintro i v σ r hv ⟨m,e,rfl,F,a,n,kl,L⟩
  rw[QY]at hv;obtain⟨z,G,rfl⟩:=RC.mp hv;have hi:=(gI0.mp G).1;refine⟨_,rfl,_,rfl,x,p,s,t,y,A,ss,ts,ys,z,sd,rfl,bk.mono F,sy.mono<|Tk.of F,XZ,λH5 U=>?_⟩;refine⟨_,rfl,_,rfl,d,_,rfl,j8.k (k:=Sum.inr z) (U _ _ n)<|by lia,_,_,rfl,λb o e=>?_,?_,cE,?_,λz' g=>?_⟩
  ·rw[cG<|cF e q]
   exact U _ _<|F _ _ e
  ·rw[cG ld]
   exact U _ _ a
  ·have:=di m (Sum.inr z:Key) (oV<|floorOf z sd)
   lia
  ·rw[cP]
   by_cases c:(Sum.inr z':Key)=Sum.inr z
   ·grind
   ·rw[QO c]
    rw[RN,G,Ro]at g;obtain g|g:=g
    ·grind
    ·grind
 ·rintro σ r ⟨m,e,rfl,F,a,n,kl,L⟩
  rw[QM,RX]at L;exact⟨_,rfl,k d r F q ⟨m,n,L⟩⟩
def Lz{α:Type}(R:Hp->V->α->Prop)(H:Hp)(xs:Xw V)(ds:Xw α):Prop:=xs.length=ds.length/\∀(i:Nat) v d,xs[i]? =some v->ds[i]? =some d->R H v d
def Lz.mono(m:∀v d,R H v d->R H' v d)(h:Lz R H xs ds):Lz R H' xs ds:=⟨h.1,λi v d e a=>m v d<|h.2 i v d e a⟩
def Lz.at{i:Nat}{v:V}(h:Lz R H xs ds)(e:xs[i]? =some v):∃d,ds[i]? =some d/\R H v d:=by
 have a:i<ds.length:=by
  rw[<-h.1];grind
 exact⟨ds[i],QJ a,h.2 i v ds[i] e (QJ a)⟩
theorem tK{α:Type}{R:Hp->V->α->Prop}{H:Hp}{Ok:α->Prop}:∀{xs:Xw V},(∀v∈xs,∃d,R H v d/\Ok d)->∃ds,Lz R H xs ds/\∀d∈ds,Ok d
 |[],_=>⟨[],⟨rfl,λi v d n=>by cases n⟩,λd m=>by cases m⟩
 |v::r,h=>by
  obtain⟨ds,⟨l,g⟩,k⟩:=tK λu f=>h u<|RK _ f;obtain⟨d,m,o⟩:=h v<|RD ..;refine⟨d::ds,⟨by rw[RG,RG,l],λi u e f a=>?_⟩,λe a=>?_⟩
  ·cases i with
   |zero=>
    cases f;cases a;exact m
   |succ j=>exact g j u e f a
  ·obtain rfl|a:=Rq.mp a
   ·exact o
   ·exact k e a
abbrev GD:=Xx×Int
inductive dH  (H:Hp)(v:V)(d:GD):Prop
 |mk(a ta:Xp)(h0:v=.ref a)(e:H a=some (.tup [.str d.1,.int d.2,.ref ta]))
def dH.mono(s:Tk H H')(v:V)(d:GD)(h:dH H v d):dH H' v d:=by
 obtain⟨a,f,e,g⟩:=h;exact⟨a,f,e,s _ _ g⟩
def xD(h:∀v∈ss,dP ps H v):∃f,Lz dH H ss f/\∀d∈f,d.1∈ps/\du d.2:=
 tK λv g=>by
  obtain⟨a,z,i,l,o,e,j,n,m,_⟩:=h v g;exact⟨(z,i),⟨a,l,e,j⟩,n,m⟩
def cS(sd:Xw SD)(d:GD):Bool:=eO d.2<|floorOf d.1 sd
def lu(a:Xw GD)(sd:Xw SD)(n:Nat):Xw V:=((List.range n).filter<|n9 a<|cS sd).map λi=>V.int (i:Nat)
def za(a:Xw GD)(sd:Xw SD)(n:Nat):(lu a sd n).length<=n:=by
 unfold lu;grind
inductive Lf(C:Xp)(vs:Xw V)(H:Hp)(Q:VK):Prop
 |mk(x p s t y:Xp)(ps:Xw Xx)(ss f ys:Xw V)(a:Xw GD)(sd:Xw SD)(e:vs=[.ref x])(bk:Bk C H x p s t y ps ss f ys)(h:ps.length<=24)(sl:ss.length<=24)(i:Lz dH H ss a)(g:∀d∈a,d.1∈ps)(j:Sys H ys sd)(l:ys.length<=60)
   (k:∀l H',cH H H'->H l=none->H' l=some (.lst (lu a sd a.length))->Q (.ref l) H')
def t8(C:Xp):Sp:=λa H Q _=>Lf C a H Q
def wo:cK ["self"] ["self"] (cI fB):={}
def wq (F:qT K "sights" "Book.sights" fB f fd) (m:Meth K C "sights" f) (bi:Binds K fd ["self"] []) (T:Txt K mg kw C):Md P w K mg base 1 C "sights" (dB C λ_ s _ _=>s):=by
 refine cq F m bi T.cl wo (λe H Q E h=>?_) λX H e Q E a h=>?_
 ·obtain⟨x,p,s,t,y,i,rfl,_⟩:=h
  rfl
 ·obtain⟨x,p,s,t,y,i,rfl,⟨l,n⟩,g,k⟩:=h
  obtain⟨j,_⟩:=a.fc [0];obtain rfl:=a.fK;exact⟨_,ag<|aw<|bo (a.b T.b_list) bD eC<|aj<|cb<|aa j,_,rfl,x,C,l,_,_,rfl,n,T.cl,T.nS,M8 _ _ _ _,_,_,rfl,.inl<|cN.of g,k⟩
def qH:cK ["book","floors"] ["book"] (cI gR):={}
def qp {fd:FuncData}(D:Df K mg "open_sights" gR ["book"] f fd) (T:Txt K mg kw C) (O:Md P w K mg base 1 C "sights" (dB C λ_ s _ _=>s)) (N:Gd P w K mg base 3 "floors_of_all" (pX C)) (M:Gd P w K mg base 1 "is_above" o3):Gd P w K mg base 4 "open_sights" (t8 C):=by
 refine aG D qH λX H vs Q E j h=>?_;obtain⟨x,p,s,t,y,ps,m,ts,ys,B,sd,rfl,bk,pl,sl,gs,gp,sy,XZ,k⟩:=h;have XO:=Rh;obtain⟨Y,S1,_⟩:=j.fc [0,1];refine⟨_,(af (au S1 j.nd<|ak (j.gK N rfl (by lia)<|by decide)<|aj<|aa Y)
 (ag<|aw<|bB (is:=[1]) (xs:=["i","sight"]) (ns:=["floors"]) j.calm (J.oR (j.b T.b_enumerate)<|aj<|bE (j.met O<|by decide) (aa Y) rfl) {} (λ_ _ _ _ _=>J.uW (n:=2) j.calm<|aT (a6 (i:=0))<|aT (a6 (i:=1)) bH) (λ_ _ _ _ _=>bC<|bh<|ak ((j.wj M (by lia)<|by decide).lg rfl)<|aB (ai bp (aM (i:=1)) ae ah)<|aK (dZ j.room) (aS (i:=2)) (ai bp (aM (i:=1)) ae ah) cv) (λ_ _ _ _ _=>aM (i:=0)) j.hsc j.hN)),?_⟩
 refine⟨_,rfl,x,p,s,t,y,ps,m,ts,ys,sd,rfl,bk,pl,sy,XZ,λd H1 F dn fl=>?_⟩;obtain⟨⟨dx,hx⟩,hp,hs,ht,hy⟩:=bk.mono F;refine⟨_,rfl,x,dx,_,rfl,hx,fU _ _ _ _ (by decide+kernel) (by decide+kernel) (by decide+kernel)<|by decide+kernel,x,p,s,t,y,m,rfl,⟨dx,hx⟩,hs,λl hl=>?_⟩;have L:=cH.upd (o:=.lst m) hl;refine⟨l,rfl,⟨_,cN.of cE⟩,C4 (xs:=m) (n9 B<|cS sd) (λi=>V.int (i:Nat)) (cN.of cE) (by lia) ?_ ?_⟩
 ·intro i os v q H2 K1 K2 hv R s3 hq W k2
  match os,R with
  |[o1,o2],_=>
   obtain⟨g,Z,a,ta,rfl,ha⟩:=gs.at hv;rw[qE Z]at W k2;have G:=cH.upd (o:=.tup [.int i,.ref a]) hq;have z:=(L.trans s3).trans G;have r:=z _ _<|F _ _ ha;obtain⟨XD,S,hk⟩:=fl.mono z;have dg:dI (upd H2 q<|.tup [.int i,.ref a]) d (.str g.1) (some<|oV<|floorOf g.1 sd):=by
    rw[<-hk g.1 (gp g<|QN Z)];exact dI.k (k:=Sum.inr g.1) S
   refine⟨q,_,rfl,fe.of cE,rfl,_,_,rfl,_,_,rfl,rfl,⟨[_,_],rfl,rfl⟩,_,rfl,xT r rfl ⟨_,rfl,_,rfl,xT r rfl ⟨d,_,rfl,dg,g.2,floorOf g.1 sd,rfl,_,rfl,dD (λI=>⟨_,rfl,W I _ G⟩) λI=>k2 (UG I) _ G⟩⟩⟩
 ·intro D' H' U s' A
  have e:((List.range m.length).filter<|n9 B<|cS sd).map (λi=>V.int (i:Nat))=lu B sd B.length:=by
   rw[gs.1];rfl
  rw[e]at A;exact k D' H' ((F.trans L).trans s') ((F.trans L).free U) A
def lS(z:Xx):SD->Bool
 |.sil q _ _=>decide<|q=z
 |_=>false
def oh(h:Int):SD->Bool
 |.sil _ b e=>if b<=h then decide (h<=e) else false
 |_=>false
def qA(z:Xx)(h:Int)(d:SD):Bool:=lS z d&&oh h d
def vS(he a:Xx):SD->Bool
 |.bar p q=>decide (p=he)&&decide (q=a)
 |_=>false
theorem wX{α β:Type}{f:α->Bool}{g:β->Bool}:∀{xs:Xw α}{ds:Xw β},xs.length=ds.length->(∀(i:Nat) v d,xs[i]? =some v->ds[i]? =some d->f v=g d)->xs.any f=ds.any g
 |[],[],_,_=>rfl
 |[],_::_,h,_=>by cases h
 |_::_,[],h,_=>by cases h
 |x::xs,d::ds,h,k=>by
  rw[Tp,Tp,k 0 x d rfl rfl,wX (SE h) λi v e a j=>k (i+1) v e a j]
theorem AL{α β:Type}:∀{xs:Xw α}{ds:Xw β}{i:Nat}{p:α×β},(xs.zip ds)[i]? =some p->xs[i]? =some p.1/\ds[i]? =some p.2
 |[],_,_,_,h=>by cases h
 |_::_,[],_,_,h=>by cases h
 |x::xs,d::ds,i,p,h=>by
  cases i with
  |zero=>
   cases h;exact⟨rfl,rfl⟩
  |succ j=>
   have a:(xs.zip ds)[j]? =some p:=h;exact AL (xs:=xs) (ds:=ds) (i:=j) a
theorem yo{α β:Type}:∀{xs:Xw α}{ds:Xw β}{i:Nat}{v:α}{d:β},xs[i]? =some v->ds[i]? =some d->(xs.zip ds)[i]? =some (v,d)
 |[],_,_,_,_,h,_=>by cases h
 |_::_,[],_,_,_,_,h=>by cases h
 |x::xs,e::ds,i,v,d,h,h'=>by
  cases i with
  |zero=>
   cases h;cases h';rfl
  |succ j=>exact yo (xs:=xs) (ds:=ds) (i:=j) h h'
theorem zx{α β:Type}(f:β->Bool):∀{xs:Xw α}{ds:Xw β},xs.length=ds.length->((xs.zip ds).any λp=>f p.2)=ds.any f
 |[],[],_=>rfl
 |[],_::_,h=>by cases h
 |_::_,[],h=>by cases h
 |x::xs,d::ds,h=>by
  show(f d||(xs.zip ds).any λp=>f p.2)=(f d||ds.any f);rw[zx f<|SE h]
inductive OG(vs:Xw V)(H:Hp)(Q:VK):Prop
 |mk(y:Xp)(ys:Xw V)(z:Xx)(h:Int)(sd:Xw SD)(e:vs=[.ref y,.str z,.int h])(a:H y=some (.lst ys))(f:Sys H ys sd)(l:ys.length<=60)(k:∀H',cH H H'->Q (.bl (sd.any (qA z h))) H')
def zH:Sp:=λa H Q _=>OG a H Q
inductive OO(vs:Xw V)(H:Hp)(Q:VK):Prop
 |mk(y:Xp)(ys:Xw V)(he a:Xx)(sd:Xw SD)(e:vs=[.ref y,.str he,.str a])(f:H y=some (.lst ys))(g:Sys H ys sd)(k:∀H',cH H H'->Q (.bl (sd.any (vS he a))) H')
def zp:Sp:=λa H Q _=>OO a H Q
def jv(d:SD):d.tup.all dN=true:=by
 cases d with
 |unh q h=>cases h<;>rfl
 |_=>rfl
def Am(he a:Xx)(d:SD):Fn d.tup [.str "barred",.str he,.str a]=vS he a d:=by
 cases d with
 |knew p h=>exact Vg.mpr (λh=>absurd h (by
   rw[Sn];intro k;exact absurd (k 0<|Su.mpr<|lt_min.mpr ⟨VF _,VF _⟩)<|by show ¬(("knew" :Xx) == "barred")=true;decide+kernel))
 |unh p h=>exact Vg.mpr (λh=>absurd h (by
   rw[Sn];intro k;exact absurd (k 0<|Su.mpr<|lt_min.mpr ⟨VF _,VF _⟩)<|by show ¬(("unheard" :Xx) == "barred")=true;decide+kernel))
 |sil p b e=>exact Vg.mpr (λh=>absurd h (by
   rw[Sn];intro k;exact absurd (k 0<|Su.mpr<|lt_min.mpr ⟨VF _,VF _⟩)<|by show ¬(("silent" :Xx) == "barred")=true;decide+kernel))
 |bar p q=>
  show((("barred" :Xx) == "barred")&&((p==he)&&((q==a)&&true))&&true)=(decide (p=he)&&decide (q=a));rw[show(("barred" :Xx) == "barred")=true from R4 _,Sd,Uu,Uu]
  congr 1<;>exact beq_eq_decide _ _
def GA(h:BD H v d):OB H xs v=Fn d.tup xs:=by
 obtain⟨a,rfl,e⟩:=h;show(match H a with|some (.tup zs)=>Fn zs xs|_=>false)=_;rw[e]
def ue:cK ["sayings","person","hour","own"] ["sayings","person","hour"] (cI jD):={}
def vk {fd:FuncData}(D:Df K mg "is_silent" jD ["sayings","person","hour"] f fd) (T:Txt K mg kw C):Gd P w K mg base 1 "is_silent" zH:=by
 refine aG D ue λX H vs Q E j h=>?_;obtain⟨y,m,z,h,sd,rfl,hy,L,XZ,k⟩:=h;have XO:=Rh;obtain⟨S0,S1,S2,S3,_⟩:=j.fc [0,1,2,3];refine⟨_,(af (bY (is:=[1]) (xs:=["saying"]) (ns:=["person"]) S3 j.nd j.calm (aQ<|aa S0) {} (λ_ _ _ _ _=>a6 (i:=0)) (λ_ _ _ _ _=>bC<|a7<|bg (aF aO (ai bp (aM (i:=0)) ae ah) ao<|cL _)<|bq<|aF aO (ai bp (aM (i:=0)) ae ah) (aS (i:=1))<|cL _) (λ_ _ _ _ _=>aM (i:=0)) j.hsc j.hN (by decide+kernel))
 (ag<|aw<|aJ (j.b T.b_any) (J.mE j.calm) Kr<|aj<|bB (is:=[2]) (xs:=["saying"]) (ns:=["hour"]) j.calm (aQ<|aa S3) {} (λ_ _ _ _ _=>a6 (i:=0)) (λ_ _ _ _ _=>bU) (λ_ _ _ _ _=>J.jT bG bG (ai bp (aM (i:=0)) ae ah) (aS (i:=1)) (ai bp (aM (i:=0)) ae ah) kP) j.hsc j.hN)),?_⟩
 have zl:(m.zip sd).length=m.length:=by
  rw[W3,<-L.1,min_self]
 refine⟨_,rfl,y,rfl,⟨_,cN.of hy⟩,w8 (xs:=m) (n9 (m.zip sd) λp=>lS z p.2) (Jk (m.zip sd) λp=>p.1) (cN.of hy) (by lia) ?_ ?_⟩
 ·intro i O v n K1 K2 F A R x r
  match O,A with
  |[o],_=>
   obtain⟨d,a,Z,rfl,Y⟩:=L.at F;have g:=R _ _ Y;rw[qE<|yo F Z]at x r;rw[EV<|yo F Z]at x;refine⟨⟨[some<|.ref a],rfl,rfl⟩,?_⟩;cases d with
   |knew q h=>exact⟨_,rfl,xT g rfl ⟨rfl,_,rfl,iN<|dG<|r rfl n<|cH.refl _⟩⟩
   |unh q h=>exact⟨_,rfl,xT g rfl ⟨rfl,_,rfl,iN<|dG<|r rfl n<|cH.refl _⟩⟩
   |bar q q'=>exact⟨_,rfl,xT g rfl ⟨rfl,_,rfl,iN<|dG<|r rfl n<|cH.refl _⟩⟩
   |sil q b e=>
    refine⟨_,rfl,xT g rfl ⟨rfl,_,rfl,iP ⟨_,rfl,xT g rfl ⟨_,rfl,rfl,_,rfl,dD (λN=>?_) λN=>?_⟩⟩⟩⟩
    ·have W:=V.str.inj (QT N)
     exact⟨_,rfl,x (dT0 W) n<|cH.refl _⟩
    ·exact r (QU λe=>N<|dT0<|RP V.str e) n<|cH.refl _
 ·intro o H' ho s' s
  rw[<-zl,pV (λp=>lS z p.2) (λp=>p.1)<|m.zip sd]at s;have om:∀p∈(m.zip sd).filter λp=>lS z p.2,BD H p.1 p.2/\lS z p.2=true:=λp I=>by
   obtain⟨M,S⟩:=Ra.mp I;obtain⟨i,hi⟩:=Rg M;obtain⟨h1,h2⟩:=AL hi;exact⟨L.2 i _ _ h1 h2,S⟩
  have ol:((m.zip sd).filter λp=>lS z p.2).length<=60:=by grind
  have ev:(((m.zip sd).filter λp=>lS z p.2).any λp=>oh h p.2)=sd.any (qA z h):=by
   rw[List.any_filter];exact zx (λd=>lS z d&&oh h d) L.1
  generalize (m.zip sd).filter (λp=>lS z p.2)=l at s om ol ev;refine⟨_,rfl,o,rfl,⟨_,cN.of s⟩,w8 (xs:=l.map λp=>p.1) (n9 l λ_=>true) (Jk l λp=>V.bl<|oh h p.2) (cN.of s) (by grind) ?_ ?_⟩
  ·intro i O v n K1 K2 F A R x r
   match O,A with
   |[o],_=>
    rw[QY]at F;obtain⟨p,I,rfl⟩:=RC.mp F;obtain⟨⟨a,ea,Y⟩,U⟩:=om p<|QN I;have g:=R _ _<|s' _ _ Y;rw[qE I]at x;rw[EV I]at x;have kk:=x rfl;refine⟨⟨[some p.1],rfl,rfl⟩,fL (B:=K2 n) ?_⟩;obtain⟨v,d⟩:=p;subst ea;cases d with
    |sil q b e=>
     refine⟨_,rfl,xT g rfl ⟨_,rfl,_,_,rfl,rfl,_,rfl,?_⟩⟩;have r:K1 (V.bl<|if b<=h then decide (h<=e) else false) n:=kk n<|cH.refl _;refine dD (λhb=>?_) λhb=>?_
     ·rw[QR<|QT hb]at r
      exact⟨_,rfl,xT g rfl ⟨_,_,rfl,rfl,r⟩⟩
     ·grind
    |knew q h=>exact absurd U bF0
    |unh q h=>exact absurd U bF0
    |bar q q'=>exact absurd U bF0
  ·intro D2 H3 ab s3 G
   have e2:((List.range (l.map λp=>p.1).length).filter<|n9 l λ_=>true).map (Jk l λp=>V.bl<|oh h p.2)=(l.map λp=>oh h p.2).map V.bl:=by
    rw[QM,pV (λ_=>true) (λp=>V.bl<|oh h p.2) l,Vs.mpr λ_ _=>rfl,Th];rfl
   rw[e2]at G;refine⟨D2,_,rfl,cN.of G,?_⟩;have e3:(l.map λp=>oh h p.2).any id=sd.any (qA z h):=by simp_all
   rw[e3];exact k H3<|s'.trans s3
def tP:cK ["sayings","hearer","teller"] ["sayings","hearer","teller"] (cI jw):={}
def ud {fd:FuncData}(D:Df K mg "is_barred" jw ["sayings","hearer","teller"] f fd):Gd P w K mg base 1 "is_barred" zp:=by
 refine aG D tP λX H L Q E n h=>?_;obtain⟨y,F,p,m,sd,rfl,B,x,k⟩:=h;obtain⟨s,G,A,_⟩:=n.fc [0,1,2];refine⟨_,ag<|aw<|ba (J.lC<|dZ n.room) (aL<|aP ao (aa G)<|aa A) (aa s) b6,?_⟩;refine⟨_,rfl,_,rfl,uB,λq z=>?_⟩;have j:=cH.upd (o:=.tup [.str "barred",.str p,.str m]) z;have g:=x.mono<|Tk.of j;refine⟨_,rfl,q,y,_,F,rfl,rfl,cE,cN.of<|j _ _ B,rfl,λv l=>?_,?_⟩
 ·obtain⟨i,C⟩:=Rg l
  obtain⟨d,a,_,e,I⟩:=g.at C;exact⟨a,d.tup,e,I,jv d⟩
 ·rw[wX g.1 λi v d l r=>(GA<|g.2 i v d l r).trans<|Am p m d]
  exact k _ j
abbrev QD:=Int×Xx×Xx×Xx
inductive dw  (H:Hp)(v:V)(d:QD):Prop
 |mk(a:Xp)(h0:v=.ref a)(e:H a=some (.tup [.int d.1,.str d.2.1,.str d.2.2.1,.str d.2.2.2]))
def dw.mono(s:Tk H H')(v:V)(d:QD)(h:dw H v d):dw H' v d:=by
 obtain⟨a,e,f⟩:=h;exact⟨a,e,s _ _ f⟩
def lV(ps:Xw Xx)(d:QD):Prop:=du d.1/\d.2.1∈ps/\d.2.2.1∈ps/\(d.2.2.2= "both" \/d.2.2.2= "one")
def JK(h:∀v∈ts,eT ps H v):∃f,Lz dw H ts f/\∀d∈f,lV ps d:=
 tK λv m=>by
  obtain⟨a,i,p,q,w,e,n,o,g,l,_,j⟩:=h v m;exact⟨(i,p,q,w),⟨a,e,n⟩,o,g,l,j⟩
def fm(a:Xw QD):Xw TD:=a.map λd=>d.2
def CI(h:Lz dw H ts qd):M7 H ts (fm qd):=by
 refine⟨by rw[h.1];exact(QM ..).symm,λi v d j f=>?_⟩;unfold fm at f;rw[QY]at f;obtain⟨q,g,rfl⟩:=RC.mp f;obtain⟨a,e,l⟩:=h.2 i v q j g;exact⟨a,q.1,e,l⟩
def cJ(a:Xw QD)(k:Nat):Int:=match a[k]? with
 |some d=>d.1
 |none=>0
def eZ(h:qd[k]? =some d):cJ qd k=d.1:=by
 unfold cJ;rw[h]
abbrev TK:=Nat×Xx×Xx
def cZ(a:Xw QD)(sd:Xw SD)(t:TK):Bool:=eO (cJ a t.1) (floorOf t.2.2 sd) && !(sd.any (qA t.2.1<|cJ a t.1)||sd.any (vS t.2.2 t.2.1))
theorem lM{t:TK}:∀{l:Xw TD}{k:Nat},t∈fu k l->∃(j:Nat) (d:TD),l[j]? =some d/\t.1=k+j/\(t.2=(d.1,d.2.1)\/t.2=(d.2.1,d.1))
 |[],_,h=>by cases h
 |d::r,k,h=>by
  obtain h|h:=Ro.mp h
  ·refine⟨0,d,rfl,?_⟩
   unfold dQ at h;split at h
   ·grind
   ·grind
  ·obtain⟨j,e,a,g,f⟩:=lM h
   exact⟨j+1,e,a,by lia,f⟩
def OL(ok:∀d∈qd,lV ps d)(h:t∈fu 0 (fm qd)):∃q,qd[t.1]? =some q/\t.2.2∈ps:=by
 obtain⟨j,d,e,g,a⟩:=lM h;unfold fm at e;rw[QY]at e;obtain⟨q,f,rfl⟩:=RC.mp e;rw[Td]at g;have:=ok q<|QN f;refine⟨q,by rw[g];exact f,?_⟩;obtain a|a:=a
 ·rw[a]
  exact this.2.2.1
 ·rw[a]
  exact this.2.1
def HQ(e f:Bool)(j:∀a:VK,(∀H',cH H H'->a (.bl e) H')->ta σ H a)(i:∀H1 (a:VK),cH H H1->(∀H',cH H1 H'->a (.bl f) H')->tb σ H1 a)(q:∀H',cH H H'->Q (.bl<|e||f) H'):Hh ta tb σ H Q:=by
 refine j _ λH1 g=>⟨_,rfl,?_⟩;cases e with
 |true=>grind
 |false=>exact dG<|i H1 _ g λH' h=>q H'<|g.trans h
def JV(e f:Bool)(h:∀a:VK,(∀H',cH H H'->a (.bl e) H')->ta (σ.set i<|some v) H a)(g:∀H1 (a:VK),cH H H1->(∀H',cH H1 H'->a (.bl f) H')->tb (σ.set i<|some v) H1 a)
  (q:∀H',cH H H'->u D ((σ.set i<|some v).set j<|some<|.bl<|e||f) H'):eR i v σ H (Bm (vP (Hh ta tb)<|eR j) u D):=HQ e f h g q
inductive Lq(C:Xp)(vs:Xw V)(H:Hp)(Q:VK):Prop
 |mk(x p s t y:Xp)(ps:Xw Xx)(ss f ys:Xw V)(a:Xw QD)(sd:Xw SD)(e:vs=[.ref x])(bk:Bk C H x p s t y ps ss f ys)(j:ps.length<=24)(g:f.length<=120)(h:Lz dw H f a)(i:∀d∈a,lV ps d)(m:Sys H ys sd)(l:ys.length<=60)
   (k:∀l us H',cH H H'->H l=none->H' l=some (.lst us)->dU H' us ((fu 0 (fm a)).filter (cZ a sd))->Q (.ref l) H')
inductive Ml(x tb g d f:Xp)(q:Hp)(j:Xw TK)(op:TK->Bool)(i:Nat)(σ:St)(a:Hp):Prop
 |mk(us:Xw V)(l p m n h:Xu V)(e:σ=[some (.ref x),some (.ref tb),some (.ref g),some (.ref d),some (.ref f),l,p,m,n,h])(r:∀b o,q b=some o->b≠f->a b=some o)(hf:a f=some (.lst us))(ul:us.length<=i)(s:dU a us ((j.take i).filter op))
def uQ(C:Xp):Sp:=λa H Q _=>Lq C a H Q
def yh:cK ["self"] ["self"] (cI gx):={}
def ym (F:qT K "talks" "Book.talks" gx f fd) (m:Meth K C "talks" f) (bi:Binds K fd ["self"] []) (T:Txt K mg kw C):Md P w K mg base 1 C "talks" (dB C λ_ _ t _=>t):=by
 refine cq F m bi T.cl yh (λe H Q E h=>?_) λX H e Q E a h=>?_
 ·obtain⟨x,p,s,t,y,i,rfl,_⟩:=h
  rfl
 ·obtain⟨x,p,s,t,y,i,rfl,⟨l,n⟩,g,k⟩:=h
  obtain⟨j,_⟩:=a.fc [0];obtain rfl:=a.fK;exact⟨_,ag<|aw<|bo (a.b T.b_list) bD eC<|aj<|cb<|aa j,_,rfl,x,C,l,_,_,rfl,n,T.cl,T.nT,Jb _ _ _ _,_,_,rfl,.inl<|cN.of g,k⟩
def mI:cK ["book","talks","sayings","floors","found","k","teller","hearer","hour","hushed"] ["book"] (cI fR):={}
def nJ (D:Df K mg "open_tellings" fR ["book"] f fd) (T:Txt K mg kw C) (bd:Md P w K mg base 1 C "talks" (dB C λ_ _ t _=>t)) (be:Md P w K mg base 1 C "sayings" (dB C λ_ _ _ y=>y)) (bb:Md P w K mg base 1 C "tellings" (iZ C))
  (bm:Gd P w K mg base 3 "floors_of_all" (pX C)) (bx:Gd P w K mg base 1 "is_above" o3) (a3:Gd P w K mg base 1 "is_silent" zH) (b2:Gd P w K mg base 1 "is_barred" zp):Gd P w K mg base 4 "open_tellings" (uQ C):=by
 refine aG D mI λX H vs Q E l h=>?_;obtain⟨x,p,s,t,y,ps,ss,S,O,A,sd,rfl,bk,pl,tl,qs,qk,sy,XZ,k⟩:=h;have XO:=Rh;obtain⟨⟨dx,hx⟩,hp,hs,ht,hy⟩:=id bk;obtain⟨S0,S1,S2,S3,S4,S5,S6,S7,S8,S9,_⟩:=l.fc [0,1,2,3,4,5,6,7,8,9];refine⟨_,(af (au S1 l.nd<|bE (l.met bd<|by decide) (aa S0) rfl)
 (af (au S2 l.nd<|bE (l.met be<|by decide) (aa S0) rfl)
 (af (au S3 l.nd<|ak (l.gK bm rfl (by lia)<|by decide)<|aj<|aa S0)
 (af (au S4 l.nd<|a5 bz)
 (af (aZ l.own l.calm (aQ<|bE (l.met bb<|by decide) (aa S0) rfl) (bO l.calm<|aT (aN S5 l.nd)<|aT (aN S6 l.nd)<|aT (aN S7 l.nd) bH)
 (af (au S8 l.nd<|ai aE (ai aU (aa S1) (aa S5) aR) ae ah)
 (af (au S9 l.nd<|J.Ak (ak (l.gK a3 rfl (by lia)<|by decide)<|aP (aa S2) (aa S6)<|aa S8)<|a8<|ak (l.gK b2 rfl (by lia)<|by decide)<|aP (aa S2) (aa S7)<|aa S6)
 (ag (aH (a7<|bg (bh<|ak (l.gK bx rfl (by lia)<|by decide)<|aB (aa S8)<|aK (dZ l.room) (aa S3) (aa S7) aR)<|bq<|bu<|J.Av<|aa S9)
 (ag<|br<|bw RZ RA RE bF (aa S4)<|aj<|aL<|aP (aa S5) (aa S6)<|aa S7)
 aI)))))
 (ag<|aw<|aa S4)))))),?_⟩
 refine⟨_,rfl,x,dx,_,rfl,hx,fU _ _ _ _ (by decide+kernel) (by decide+kernel) (by decide+kernel)<|by decide+kernel,x,p,s,t,y,S,rfl,⟨dx,hx⟩,ht,λtb a9=>?_⟩;have s1:=cH.upd (o:=.lst S) a9;have I:upd H tb (.lst S) tb=some (.lst S):=cE;generalize upd H tb (.lst S)=H1 at s1 I;refine⟨_,rfl,x,dx,_,rfl,s1 _ _ hx,fU _ _ _ _ (by decide+kernel) (by decide+kernel) (by decide+kernel)<|by decide+kernel,x,p,s,t,y,O,rfl,⟨dx,s1 _ _ hx⟩,s1 _ _ hy,λyb a4=>?_⟩;have s2:=cH.upd (o:=.lst O) a4;have M:upd H1 yb (.lst O) yb=some (.lst O):=cE;generalize upd H1 yb (.lst O)=H2 at s2 M;have al:=s1.trans s2;refine⟨_,rfl,x,p,s,t,y,ps,ss,S,O,sd,rfl,bk.mono al,pl,sy.mono<|Tk.of al,XZ,λd H3 s3 dn fl=>?_⟩;have a2:=al.trans s3;refine⟨Hi,λG L=>?_⟩;have s4:=cH.upd (o:=.lst []) L;have B:=a2.trans s4;have r:upd H3 G (.lst []) G=some (.lst []):=cE;have ac:H G=none:=a2.free L;have as:=fl.mono s4;have W:=s4 _ _<|s3 _ _<|s2 _ _ I;have U:=s4 _ _<|s3 _ _ M;have ap:tb≠G:=cF (s3 _ _<|s2 _ _ I) L;have am:yb≠G:=cF (s3 _ _ M) L;have bn:d≠G:=by
  obtain⟨XD,e,_⟩:=fl;exact cF e L
 generalize upd H3 G (.lst [])=H4 at s4 B r as W U;refine⟨_,rfl,x,dx,_,rfl,B _ _ hx,fU _ _ _ _ (by decide+kernel) (by decide+kernel) (by decide+kernel)<|by decide+kernel,x,p,s,t,y,ps,ss,S,O,fm A,rfl,bk.mono B,(CI qs).mono<|Tk.of B,tl,λm vs H5 s5 mn hm tm=>?_⟩;have bi:m≠G:=(cF r mn).symm;have ml:vs.length<=240:=by
  have:=iY (fm A) 0;have:=tm.1;have:=(CI qs).1;lia
 refine⟨m,rfl,⟨_,cN.of hm⟩,c4 (K:=X.K) (a:=m) (xs:=vs) (Ml x tb yb d G H5 (fu 0<|fm A)<|cZ A sd)
  ⟨[],none,none,none,none,none,rfl,λb o e _=>e,s5 _ _ r,QP 0,dU.nil⟩ ?_ ?_ ?_⟩
 ·rintro i σ H6 hi ⟨R,e1,e2,e3,e4,e5,rfl,N,_⟩
  exact cN.of<|N _ _ hm bi
 ·rintro i v σ H6 hv ⟨R,e1,e2,e3,e4,e5,rfl,N,ad,ul,tu⟩
  have hi:i<vs.length:=(gI0.mp hv).1;obtain⟨g,Yd⟩:∃g,(fu 0<|fm A)[i]? =some g:=⟨_,QJ<|by rw[<-tm.1];exact hi⟩;obtain⟨a,rfl,ha⟩:=tm.2 i v g hv Yd;obtain⟨q,hq,bf⟩:=OL qk<|QN Yd;have a0:∀b xs,H b=some (.tup xs)->H6 b=some (.tup xs):=λb xs e=>N b _ (s5 _ _<|B _ _ e)<|cF e ac;have bv:=N _ _ ha (pG ha (s5 _ _ r)<|by intro z;cases z);have ar:=N _ _ (s5 _ _ W) ap;have Y:=N _ _ (s5 _ _ U) am;obtain⟨XD,Z,hk⟩:=as;have Z:=N _ _ (s5 _ _ Z) bn;obtain⟨vq,ay⟩:∃vq,S[g.1]? =some vq:=⟨_,QJ<|by rw[qs.1];exact(gI0.mp hq).1⟩;obtain⟨aq,rfl,b0⟩:=qs.2 _ _ _ ay hq;have an:=a0 _ _ b0;have av:Sys H6 O sd:=sy.mono a0;refine⟨a,_,rfl,fe.of bv,rfl,_,_,rfl,_,_,rfl,_,_,rfl,rfl,?_⟩;refine⟨_,rfl,_,rfl,xL ar (dj ay)<|xT an rfl ?_⟩;rw[<-eZ hq];refine JV (i:=8) (j:=9) (ta:=pY zH [] E0<|dF (jd 2)<|dF (jd 6)<|dF (jd 8) kU) (tb:=pY zp [] E0<|dF (jd 2)<|dF (jd 7)<|dF (jd 6) kU) (sd.any<|qA g.2.1<|cJ A g.1) (sd.any<|vS g.2.2 g.2.1) (λQ' q'=>⟨_,rfl,_,rfl,_,rfl,yb,O,g.2.1,cJ A g.1,sd,rfl,Y,av,XZ,q'⟩) (λH7 Q' s7 q'=>⟨_,rfl,_,rfl,_,rfl,yb,O,g.2.2,g.2.1,sd,rfl,s7 _ _ Y,av.mono<|Tk.of s7,q'⟩) λH7 s7=>?_;have dg:dI H7 d (.str g.2.2) (some<|oV<|floorOf g.2.2 sd):=by
   rw[<-hk _ bf];exact dI.k (k:=Sum.inr g.2.2)<|s7 _ _ Z
  have et:(fu 0<|fm A).take (i+1)=(fu 0<|fm A).take i++[g]:=by
   rw[RN,Yd];rfl
  have F:=s7 _ _ ad;have ab:∀b o,H5 b=some o->b≠G->H7 b=some o:=λb o e n=>s7 _ _<|N b o e n;have bc:=tu.mono<|Tk.of s7;have no:cZ A sd g=false->dU H7 R (((fu 0<|fm A).take<|i+1).filter<|cZ A sd):=λh=>by grind
  refine⟨_,rfl,_,rfl,_,rfl,d,_,rfl,dg,cJ A g.1,floorOf g.2.2 sd,rfl,_,rfl,dD (λa1=>⟨_,rfl,_,rfl,dD (λhs=>?_) λhs=>?_⟩) λa1=>dG ?_⟩
  ·have ot:cZ A sd g=true:=by
    unfold cZ;rw[a1,hs];rfl
   refine⟨_,rfl,.inl ⟨rfl,_,cN.of F⟩,_,rfl,_,rfl,_,rfl,uB,λt1 ax=>?_⟩;have s8:=cH.upd (o:=.tup [.int g.1,.str g.2.1,.str g.2.2]) ax;have b1:t1≠G:=(cF F ax).symm;refine⟨G,R,.ref t1,rfl,rfl,s8 _ _ F,by lia,R++[.ref t1],_,_,_,_,_,rfl,λb o e n=>?_,cE,by rw[QK];show R.length+1<=i+1;lia,?_⟩
   ·rw[cG n]
    exact s8 _ _<|ab b o e n
   ·rw[et,SJ,Sf,QR ot,List.filter_nil]
    refine(bc.mono<|(Tk.of s8).trans<|Tk.upd<|s8 _ _ F).snoc ⟨t1,rfl,?_⟩;rw[cG b1];exact cE
  ·refine⟨R,_,_,_,_,_,rfl,ab,F,by lia,no ?_⟩
   unfold cZ;rw[UG hs,SF]
  ·refine⟨R,_,_,_,_,_,rfl,ab,F,by lia,no ?_⟩
   unfold cZ;grind
 ·rintro σ H6 ⟨R,e1,e2,e3,e4,e5,rfl,N,ad,ul,tu⟩
  rw[tm.1,RX]at tu;exact⟨_,rfl,k G R H6 (λb o e=>N b o (s5 _ _<|B _ _ e)<|cF e ac) ac ad tu⟩
end K43
namespace K43
variable {P:Xr}{w:Xs}{K:Frag}{mg:XB}{base:Heap}{kw C:Xp}{f:Xp}{fd:FuncData}
def Og{a:TE}{σ:St}{H:Hp}{e:VK}{g:Hp->Prop}(h:a σ H e):wK σ H λb f=>if b=true then a σ f e else g f:=h
def AQ{J:It}{n:Nat}{is:Xw Nat}{g:TG}{M:TE}{σ:St}{H:Hp}{Q:VK}{N:Nat}(R:Nat->Hp->V->Prop)(mono:∀j v H H',Tk H H'->R j H v->R j H' v)(hz:N<=sizeLine)(X:∀i a,cH H a->i<N->J.go i a)(U:∀a,cH H a->J.stop N a)
  (he:∀(i:Nat)(F:St) v a E (L:VK),i<N->F.length=n->cH H a->J.yld i a v E->(∀y x,cH a x->R i x y->L y x)->
   g v (F++d8 is σ) E λf H4=>(∃s:St,s.length=n/\f=s++d8 is σ)/\M f H4 L)
  (T:∀v σ H (P S:St->Hp->Prop),(∀f H',P f H'->S f H')->g v σ H P->g v σ H S)
  (q:∀D ys H',H D=none->cH H H'->H' D=some (.lst ys)->ys.length=N->(∀(j:Nat) v,ys[j]? =some v->R j H' v)->Q (.ref D) H'):eF J n is g wK M σ H Q:=by
 intro D p;refine⟨λi m ys a=>m=N-i/\i<=N/\cH H a/\a D=some (.lst ys)/\ys.length=i/\∀(j:Nat) v,ys[j]? =some v->R j a v,⟨_,rfl,RQ _,cH.upd p,cE,rfl,λj v h=>by cases h⟩,?_⟩;rintro i m ys a ⟨rfl,Z,r,A,rfl,I⟩;refine⟨A,?_⟩;by_cases l:ys.length<N
 ·refine .inr ⟨X _ a r l,λF v E G y=>?_⟩
  refine T _ _ _ _ _ (λf H' h=>⟨h.1,fL (B:=∃O,O<N-ys.length/\O=N-(ys.length+1)/\ys.length+1<=N/\cH H H'/\H' D=some (.lst ys)/\ys.length=ys.length+1/\∀(j:Nat) v,ys[j]? =some v->R j H' v) h.2⟩) (he _ F v a E _ l G r y λz x C W=>⟨C _ _ A,by lia,N-(ys.length+1),by lia,rfl,l,λb o e=>?_,cE,by rw[QK];rfl,λj u w=>?_⟩)
  ·rw[cG<|cF e p]
   exact C _ _<|r _ _ e
  ·have K:=Tk.upd (C _ _ A) (ys:=ys++[z])
   by_cases Y:j<ys.length
   ·rw[Rf Y]at w
    exact mono _ _ _ _ ((Tk.of C).trans K)<|I j u w
   ·have e:j=ys.length:=by
     have:=(gI0.mp w).1;rw[QK]at this;have:j<ys.length+1:=this;lia
    subst e;rw[QW<|QP _,WO]at w;cases w;exact mono _ _ _ _ K W
 ·have e:ys.length=N:=by lia
  exact .inl ⟨by rw[e];exact U a r,q D ys a p r A e I⟩
def wN{K:Frag}{is:Xw Nat}{p:TE}{σ:St}{H:Hp}{Q:VK}{a:Xp}{xs:Xw V}(R:Nat->Hp->V->Prop)(mono:∀j v H H',Tk H H'->R j H v->R j H' v)(m:cN K H a xs)(hz:xs.length<=sizeLine)
  (he:∀(i:Nat) v f (g:VK),xs[i]? =some v->cH H f->(∀y l,cH f l->R i l y->g y l)->p ([some v]++d8 is σ) f g)
  (q:∀D ys H',H D=none->cH H H'->H' D=some (.lst ys)->ys.length=xs.length->(∀(j:Nat) v,ys[j]? =some v->R j H' v)->Q (.ref D) H'):eF (FY K a) 1 is (eR 0) wK p σ H Q:=
 AQ R mono hz (λi f e r=>⟨xs,xs[i],e.seq m,by simp[r]⟩) (λf e=>⟨xs,e.seq m,QP _⟩) (λi w v f x g r n e y s=>by
  obtain⟨rfl,y⟩:=y
  match w,n with
  |[o],_=>exact⟨⟨[some v],rfl,rfl⟩,he i v _ g (y xs<|e.seq m) e s⟩) (λ_ _ _ _ _ h k=>h _ _ k) q
def Cn{is:Xw Nat}{m:TE}{σ:St}{H:Hp}{Q:VK}{lo:Int}{N:Nat}(R:Nat->Hp->V->Prop)(mono:∀j v H H',Tk H H'->R j H v->R j H' v)(hz:N<=sizeLine)
  (he:∀(i:Nat) a (e:VK),i<N->cH H a->(∀y f,cH a f->R i f y->e y f)->m ([some<|.int<|lo+i]++d8 is σ) a e)
  (q:∀D ys H',H D=none->cH H H'->H' D=some (.lst ys)->ys.length=N->(∀(j:Nat) v,ys[j]? =some v->R j H' v)->Q (.ref D) H'):eF (qI lo N) 1 is (eR 0) wK m σ H Q:=
 AQ R mono hz (λi a _ g=>g) (λa _=>QP N) (λi r v a s e g l p y n=>by
  obtain⟨rfl,rfl⟩:=y
  match r,l with
  |[o],_=>exact⟨⟨[some _],rfl,rfl⟩,he i _ e g p n⟩) (λ_ _ _ _ _ h k=>h _ _ k) q
def Gx{i:Nat}{v:V}{h:TT}{u e:TS}{D:Ends}{σ:St}{H:Hp}(R:St->Hp->Prop)(g:∀a H',R a H'->e D a H')(b:Bool)(n:∀Q:Bool->Hp->Prop,Q b H->h (σ.set i<|some v) H Q)(m:b=true->(∀a H',R a H'->e D a H')->u { D with nx:=e D } (σ.set i<|some v) H)(l:b=false->R (σ.set i<|some v) H):
  eR i v σ H (λf j=>Bm (HP h u zQ) e D f j):=by
 refine n _ ?_;cases b with
 |true=>exact fL<|m rfl g
 |false=>exact dG<|g _ _<|l rfl
def DX{K:Frag}{is:Xw Nat}{A:TT}{C:TE}{σ:St}{H:Hp}{Q:VK}{a:Xp}{xs:Xw V}(s:cN K H a xs)(hz:xs.length<=sizeLine)
  (he:∀(i:Nat) v f (B:VK)(z:Hp->Prop),xs[i]? =some v->cH H f->(∀r,cH f r->B v r)->(∀n,cH f n->z n)->A ([some v]++d8 is σ) f λb n=>if b=true then C ([some v]++d8 is σ) n B else z n)
  (q:∀D ys H',H D=none->cH H H'->H' D=some (.lst ys)->ys.length<=xs.length->(∀v∈ys,v∈xs)->Q (.ref D) H'):eF (FY K a) 1 is (eR 0) A C σ H Q:=by
 intro D l;refine⟨λi m ys f=>m=xs.length-i/\i<=xs.length/\cH H f/\f D=some (.lst ys)/\ys.length<=i/\∀v∈ys,v∈xs,⟨_,rfl,RQ _,cH.upd l,cE,QP 0,λv h=>by cases h⟩,?_⟩;rintro i m ys f ⟨rfl,N,j,p,I,E⟩;refine⟨p,?_⟩;by_cases g:i<xs.length
 ·refine .inr ⟨⟨xs,xs[i],j.seq s,by simp[g]⟩,λG v L w y=>?_⟩
  obtain⟨rfl,y⟩:=y;have J:=y xs<|j.seq s
  match G,w with
  |[o],_=>
   refine⟨⟨[some v],rfl,rfl⟩,he i v _ _ _ J j (λr x=>⟨x _ _ p,by lia,xs.length-(i+1),by lia,rfl,g,λb o e=>?_,cE,?_,λu M=>?_⟩) λn F=>⟨xs.length-(i+1),by lia,rfl,g,j.trans F,F _ _ p,by lia,E⟩⟩
   ·rw[cG<|cF e l]
    exact x _ _<|j _ _ e
   ·grind
   ·grind
 ·have e:i=xs.length:=by lia
  subst e;exact .inl ⟨⟨xs,j.seq s,QP _⟩,q D ys f l j p I E⟩
def BG(us:Xw Int)(lo a:Xu Int):d4 (us.map V.int) lo a=(((us.drop<|HT.ik us.length 0 lo).take<|HT.ik us.length us.length a-HT.ik us.length 0 lo)).map V.int:=by
 unfold d4;rw[QM,List.map_take,List.map_drop]
def CF(us:Xw Int){k:Int}(h0:0<=k):∃vs:Xw Int,d4 (us.map V.int) none (some k)=vs.map V.int/\vs.length<=k.toNat:=by
 refine⟨_,BG ..,?_⟩;have e:HT.ik us.length us.length (some k)=min k.toNat us.length:=by
  show(if k<0 then(k+(us.length:Int)).toNat else min k.toNat us.length)=_;rw[QO<|Int.not_lt.mpr h0]
 rw[RU,Sy,HT.jK,e];exact Rn (V7 _ _)<|Rn (sub_le _ _)<|V7 _ _
def J9{ps:Xw Xx}{H:Hp}{v:V}{d:SD}(h:BD H v d)(k:HS ps d):jo ps H v:=by
 obtain⟨a,e,f⟩:=h;refine⟨a,e,?_⟩;cases d with
 |knew p h=>exact .inl ⟨p,h,f,k.1,k.2⟩
 |unh p h=>
  refine .inr<|.inl ⟨p,oV h,f,k.1,?_⟩;cases h with
  |none=>exact .inl rfl
  |some i=>exact .inr ⟨i,rfl,k.2 i rfl⟩
 |sil p b e=>exact .inr<|.inr<|.inl ⟨p,b,e,f,k.1,k.2.1,k.2.2.1,k.2.2.2⟩
 |bar p q=>exact .inr<|.inr<|.inr ⟨p,q,f,k.1,k.2.1,k.2.2⟩
def zY{ps:Xw Xx}{i:Int}(h0:0<=i)(f:i<ps.length):∃z,qR (ps.map V.str) i=some (.str z)/\z∈ps:=by
 have a:i.toNat<ps.length:=by lia
 have e:((i.toNat:Nat):Int)=i:=Sq h0;have:=dj (xs:=ps.map V.str) (j:=i.toNat) (v:=V.str ps[i.toNat]) (by rw[QY,QJ a];rfl);rw[e]at this;exact⟨_,this,Tf a⟩
def CO{α:Type}{l:Xw α}{p:α->Bool}{i:Nat}{d:α}(h:l[i]? =some d):n9 l p i=p d:=by
 unfold n9;rw[h]
def Lz.snoc{α:Type}{R:Hp->V->α->Prop}{H:Hp}{xs:Xw V}{ds:Xw α}{v:V}{d:α}(h:Lz R H xs ds)(j:R H v d):Lz R H (xs++[v]) (ds++[d]):=by
 refine⟨by rw[QK,QK,h.1];rfl,λi u e a f=>?_⟩;by_cases g:i<xs.length
 ·rw[Rf g]at a
  rw[Rf<|by rw[<-h.1];exact g]at f;exact h.2 i u e a f
 ·rw[QW<|by lia]at a
  rw[QW<|by rw[<-h.1];lia,<-h.1]at f;obtain⟨l,n⟩:=gI0.mp a;have m:i-xs.length=0:=by
   have:i-xs.length<1:=l;lia
  rw[m]at a f;cases a;cases f;exact j
def pP{ps:Xw Xx}{g:Xw QD}(n:∀d∈g,lV ps d){e:TK}(h:e∈fu 0 (fm g)):∃q,g[e.1]? =some q/\e.2.1∈ps/\e.2.2∈ps:=by
 obtain⟨j,o,i,l,a⟩:=lM h;unfold fm at i;rw[QY]at i;obtain⟨q,m,rfl⟩:=RC.mp i;have f:=n q<|QN m;rw[Td]at l;refine⟨q,by rw[l];exact m,?_⟩;obtain a|a:=a
 ·rw[a]
  exact⟨f.2.1,f.2.2.1⟩
 ·rw[a]
  exact⟨f.2.2.1,f.2.1⟩
def B4{α:Type}{l:Xw α}{i:Nat}{x y:α}(h:l[i]? =some x)(m:y∈l.take (i+1)):y∈l.take i\/y=x:=by
 rw[RN,h,Ro]at m;obtain m|m:=m
 ·exact .inl m
 ·exact .inr<|QQ.mp m
abbrev FH:=Xx->Xu Int
def dM(F:FH)(g:GD):FH:=λy=>if y=g.1 then some (match F g.1 with
 |none=>g.2
 |some j=>if j<g.2 then j else g.2) else F y
def dz(a:Xw GD):FH:=a.foldl dM λ_=>none
def pF(a:Xw GD)(g:GD):dz (a++[g])=dM (dz a) g:=by
 unfold dz;rw[VP];rfl
structure jO(XD:Xw (Key×V))(F:FH):Prop where
 get:∀z,dR XD (Sum.inr z)=(F z).map V.int
def jO.put{XD:Xw (Key×V)}{F:FH}{g:GD}{m:Int}(d:jO XD F)(e:dM F g g.1=some m):jO (putK XD (Sum.inr g.1)<|.int m) (dM F g):=⟨λz=>by
 rw[cP];by_cases h:z=g.1
 ·rw[QR<|by rw[h],h,e]
  rfl
 ·rw[QO λq=>h<|Tc q,d.get z]
  show _=(if z=g.1 then _ else F z).map V.int;rw[QO h]⟩
def iR(e:Xw GD)(a:Xw Nat):Xw GD:=a.filterMap λi=>e[i]?
def wY(p:GD->Bool):∀a:Xw GD,iR a ((List.range a.length).filter<|n9 a p)=a.filter p:=λa=>by
 have g:∀n,n<=a.length->iR a ((List.range n).filter<|n9 a p)=(a.take n).filter p:=λn=>by
  induction n with
  |zero=>exact λ_=>rfl
  |succ n h=>
   intro i;have f:a[n]? =some a[n]:=QJ (by lia);have e:=h (by lia);unfold iR at e ⊢;rw[List.range_succ,SJ,W6,e,RN,f,SJ]
   congr 1
   show List.filterMap _ (List.filter (n9 a p) [n])=List.filter p [a[n]];rw[Sf,Sf,CO f];grind
 grind
inductive Np(C:Xp)(vs:Xw V)(H:Hp)(Q:VK):Prop
 |mk(x p s t y:Xp)(ps:Xw Xx)(ss f ys:Xw V)(a:Xw GD)(sd:Xw SD)(e:vs=[.ref x])(bk:Bk C H x p s t y ps ss f ys)(h:ps.length<=24)(sl:ss.length<=24)(i:Lz dH H ss a)(g:∀d∈a,d.1∈ps)(j:Sys H ys sd)(l:ys.length<=60)
   (k:∀d XD H',cH H H'->H d=none->H' d=some (.dK XD)->jO XD (dz (a.filter (cS sd)))->Q (.ref d) H')
def yX(C:Xp):Sp:=λa H Q _=>Np C a H Q
inductive Iw(x tb d l:Xp)(H1:Hp)(j:Xw GD)(h:Xw Nat)(i:Nat)(σ:St)(a:Hp):Prop
 |mk(f g:Xu V)(XD:Xw (Key×V))(e:σ=[some (.ref x),some (.ref tb),some (.ref d),f,g])(m:∀b o,H1 b=some o->b≠d->a b=some o)(hd:a d=some (.dK XD))(n:XD.length<=i)(sn:jO XD (dz (iR j (h.take i))))
def eU(F:FH)(p:Xx)(h:Int):Bool:=match F p with
 |none=>false
 |some j=>decide<|j<h
inductive LL  (vs:Xw V)(H:Hp)(Q:VK):Prop
 |mk(d:Xp)(XD:Xw (Key×V))(F:FH)(p:Xx)(h:Int)(h0:vs=[.ref d,.str p,.int h])(e:H d=some (.dK XD))(a:jO XD F)(f:Q (.bl (eU F p h)) H)
def DP  :Sp:=λa H Q _=>LL  a H Q
def oA:cK ["seen","person","hour"] ["seen","person","hour"] (cI gB):={}
def Kv (D:Df K mg "saw_ahead_of" gB ["seen","person","hour"] f fd):Gd P w K mg base 1 "saw_ahead_of" DP:=by
 refine aG D oA λX H r Q E g h=>?_;obtain⟨d,s,F,p,h,rfl,n,q,k⟩:=h;have m:=dZ g.room;obtain⟨l,i,o,_⟩:=g.fc [0,1,2];refine⟨_,ag<|aw<|aV (J.vb m (aa i)<|aa l)<|a8<|ba bW (aK m (aa l) (aa i) aR) (aa o)<|cL _,?_⟩;have a:=dI.k (k:=Sum.inr p) n;rw[q.get]at a;unfold eU at k;cases e:F p with
 |none=>
  rw[e]at a k;exact⟨_,rfl,_,rfl,d,_,rfl,a,_,rfl,gM bF0 k⟩
 |some j=>
  rw[e]at a k;exact⟨_,rfl,_,rfl,d,_,rfl,a,_,rfl,fE rfl ⟨_,rfl,_,rfl,d,_,rfl,a,_,rfl,_,_,rfl,rfl,k⟩⟩
def qX:cK ["book","sights","hours","i","person"] ["book"] (cI i9):={}
def GG (D:Df K mg "seen_hours" i9 ["book"] f fd) (T:Txt K mg kw C) (ac:Md P w K mg base 1 C "sights" (dB C λ_ s _ _=>s)) (al:Gd P w K mg base 4 "open_sights" (t8 C)):Gd P w K mg base 5 "seen_hours" (yX C):=by
 refine aG D qX λX H vs Q E A h=>?_;obtain⟨x,p,s,t,y,ps,ss,ts,ys,q,sd,rfl,bk,pl,sl,gs,gp,sy,XZ,k⟩:=h;have hu:=dZ A.room;have XO:=Rh;obtain⟨⟨dx,hx⟩,hp,hs,ht,hy⟩:=id bk;obtain⟨S0,S1,S2,S3,S4,_⟩:=A.fc [0,1,2,3,4];refine⟨_,(af (au S1 A.nd<|bE (A.met ac<|by decide) (aa S0) rfl)
 (af (au S2 A.nd J.kj)
 (af (aZ A.own A.calm (aQ<|ak (A.c al)<|aj<|aa S0) (aN S3 A.nd)
 (af (au S4 A.nd<|ai aE (ai aU (aa S1) (aa S3) aR) ae ah)
 (ag<|bN hu (aa S2) (aa S4)<|aJ (A.b T.b_min) (J.gr A.calm) uH<|aB (ai aE (ai aU (aa S1) (aa S3) aR) ae ah)<|J.LQ hu (aa S2) (aa S4)<|ai aE (ai aU (aa S1) (aa S3) aR) ae ah)))
 (ag<|aw<|aa S2)))),?_⟩
 refine⟨_,rfl,x,dx,_,rfl,hx,fU _ _ _ _ (by decide+kernel) (by decide+kernel) (by decide+kernel)<|by decide+kernel,x,p,s,t,y,ss,rfl,⟨dx,hx⟩,hs,λtb ad=>?_⟩;generalize am:upd H tb _=H1;obtain⟨s1,G⟩:=nx ad am;intro d nd;generalize aq:upd H1 d _=H2;obtain⟨s2,U⟩:=nx nd aq;have F:=s1.trans s2;refine⟨_,rfl,x,p,s,t,y,ps,ss,ts,ys,q,sd,rfl,bk.mono F,pl,sl,gs.mono<|dH.mono<|Tk.of F,gp,sy.mono<|Tk.of F,XZ,λl H3 s3 ln hl=>?_⟩;have e1:lu q sd q.length=((List.range q.length).filter<|n9 q<|cS sd).map λi=>V.int (i:Nat):=rfl;rw[e1]at hl;have Y:=F.trans s3;have an:=s2.trans s3;have il:∀i∈(List.range q.length).filter (n9 q<|cS sd),i<q.length:=λi hi=>Su.mp (Ra.mp hi).1;have dl:=wY (cS sd) q;have ap:((List.range q.length).filter<|n9 q<|cS sd).length<=24:=by
  have:=RJ (n9 q<|cS sd)<|List.range q.length;rw[SI]at this;have:=gs.1;lia
 generalize (List.range q.length).filter (n9 q<|cS sd)=L at hl il dl ap;have ab:=s3 _ _ U;have M:H d=none:=s1.free nd;refine⟨l,rfl,⟨_,cN.of hl⟩,c4 (xs:=L.map λi=>V.int (i:Nat)) (Iw x tb d l H3 q L) ⟨none,none,[],rfl,λb o e _=>e,ab,QP 0,⟨λ_=>rfl⟩⟩ ?_ ?_ ?_⟩
 ·rintro i σ R hi ⟨e3,e4,S,rfl,N,I,kl,O⟩
  exact cN.of<|N _ _ hl (cF U ln).symm
 ·rintro i v σ R hv ⟨e3,e4,S,rfl,N,I,kl,O⟩
  rw[QY]at hv;obtain⟨n,hn,rfl⟩:=RC.mp hv;have Z:=il n<|QN hn;have ar:i<L.length:=(gI0.mp hn).1;obtain⟨g,hg⟩:∃g,q[n]? =some g:=⟨_,QJ Z⟩;obtain⟨vg,z⟩:∃vg,ss[n]? =some vg:=⟨_,QJ<|by rw[gs.1];exact Z⟩;obtain⟨a,ta,rfl,ha⟩:=gs.2 _ _ _ z hg;have keep:∀{b:Xp}{o:HO},H b=some o->R b=some o:=λe=>N _ _ (Y _ _ e)<|cF e M;have B:=keep ha;have r:=N _ _ (an _ _ G)<|cF G nd;have W:=dI.k (k:=Sum.inr g.1) I;rw[O.get]at W;have lk:S.length<sizeLine:=by lia
  have dA:iR q (L.take<|i+1)=iR q (L.take i)++[g]:=by
   unfold iR;rw[RN,hn,W6];show _++List.filterMap _ [n]=_;rw[UY,hg];rfl
  have put:∀m:Int,dM (dz<|iR q<|L.take i) g g.1=some m->Iw x tb d l H3 q L (i+1) [some<|.ref x,some<|.ref tb,some<|.ref d,some<|.int (n:Nat),some<|.str g.1] (upd R d<|.dK<|putK S (Sum.inr g.1)<|.int m):=λm em=>
   ⟨_,_,_,rfl,λb o e n'=>by rw[cG n'];exact N b o e n',cE,Rn (di _ _ _)<|by lia,by
    rw[dA,pF];exact O.put em⟩
  refine⟨_,rfl,_,rfl,xL r (dj z)<|xT B rfl ?_⟩;cases hF:dz (iR q<|L.take i) g.1 with
  |none=>
   rw[hF]at W;exact⟨_,rfl,_,rfl,xL r (dj z)<|xT B rfl ⟨_,rfl,d,rfl,.inl ⟨_,.inl I⟩,_,rfl,_,rfl,_,rfl,xL r (dj z)<|xT B rfl ⟨_,W,g.2,g.2,rfl,_,rfl,_,rfl,d,_,rfl,j8.k (k:=Sum.inr g.1) I lk,put _<|by unfold dM;rw[QR rfl,hF,QO<|Wt _]⟩⟩⟩
  |some j=>
   rw[hF]at W;exact⟨_,rfl,_,rfl,xL r (dj z)<|xT B rfl ⟨_,rfl,d,rfl,.inl ⟨_,.inl I⟩,_,rfl,_,rfl,_,rfl,xL r (dj z)<|xT B rfl ⟨_,W,g.2,j,rfl,_,rfl,_,rfl,d,_,rfl,j8.k (k:=Sum.inr g.1) I lk,put _<|by unfold dM;rw[QR rfl,hF]⟩⟩⟩
 ·rintro σ R ⟨e3,e4,S,rfl,N,I,kl,O⟩
  rw[QM,RX,dl]at O;exact⟨_,rfl,k d S R (λb o e=>N _ _ (Y _ _ e)<|cF e M) M I O⟩
def qG(t:TK):Xw Key:=[Sum.inl (t.1:Int),Sum.inr t.2.1,Sum.inr t.2.2]
def uZ{a b:TK}(h:qG a=qG b):a=b:=by
 obtain⟨k,t,e⟩:=a;obtain⟨f,g,i⟩:=b;injection h with h1 h2
 injection h2 with h2 h3
 injection h3 with h3 _
 have q:=Sum.inl.inj h1;have q1:k=f:=by lia
 have j:=Tc h2;grind
def P0(XD:Xw (Xw Key×V))(a:Xw QD)(e:Xw TK):Prop:=∀t∈e,dR XD (qG t)=some (.int<|cJ a t.1)
def Oy(XD:Xw (Xw Key×V))(e:Xw QD)(a:Xw TK):Prop:=∀t:TK,dR XD (qG t)=if t∈a then some (.int<|cJ e t.1) else none
theorem sN(a:Xw QD):∀(more done:Xw TK) (XD:Xw (Xw Key×V)),Oy XD a done->Oy (i6 XD<|more.map λt=>(qG t,V.int<|cJ a t.1)) a (done++more)
 |[],done,XD,h=>by
  rw[Ry];exact h
 |t::r,done,XD,h=>by
  have:=sN a r (done++[t]) (putK XD (qG t)<|.int<|cJ a t.1) λu=>by
   rw[cP,h u];by_cases e:u=t
   ·grind
   ·rw[QO λq=>e<|uZ q]
    by_cases m:u∈done
    ·rw[QR m,QR<|Rj _ m]
    grind
  rwa [QS]at this
theorem qv:∀(more XD:Xw (Xw Key×V)),(i6 XD more).length<=XD.length+more.length
 |[],XD=>QP _
 |p::r,XD=>by
  have a:=qv r<|putK XD p.1 p.2;have e:=di XD p.1 p.2;show(i6 (putK XD p.1 p.2) r).length<=_;grind
theorem rE:∀(more XD:Xw (Xw Key×V)) (g:Xw Key×V),g∈i6 XD more->(∃q∈XD,g.1=q.1)\/∃q∈more,g.1=q.1
 |[],XD,g,h=>.inl ⟨g,h,rfl⟩
 |p::r,XD,g,h=>by
  obtain ⟨q,a,e⟩|⟨q,a,e⟩:=rE r (putK XD p.1 p.2) g h
  ·unfold putK at a
   split at a
   ·obtain⟨f,i,rfl⟩:=Ru.mp a
    refine .inl ⟨f,i,?_⟩;rw[e];split<;>rfl
   ·obtain a|a:=Ro.mp a
    ·exact .inl ⟨q,a,e⟩
    ·rw[QQ.mp a]at e
     exact .inr ⟨p,.head _,e⟩
  ·exact .inr ⟨q,.tail _ a,e⟩
inductive OR(C:Xp)(vs:Xw V)(H:Hp)(Q:VK):Prop
 |mk(x p s t y:Xp)(ps:Xw Xx)(ss f ys:Xw V)(a:Xw QD)(e:vs=[.ref x])(bk:Bk C H x p s t y ps ss f ys)(g:f.length<=120)(h:Lz dw H f a)(i:∀d∈a,lV ps d)
   (k:∀d XD H',cH H H'->H d=none->H' d=some (.dT XD)->P0 XD a (fu 0 (fm a))->Q (.ref d) H')
def Jm(C:Xp):Sp:=λa H Q _=>OR C a H Q
inductive Nk(x tb d:Xp)(H1:Hp)(f:Xw QD)(h:Xw TK)(i:Nat)(σ:St)(a:Hp):Prop
 |mk(g:Xu V)(XD:Xw (Xw Key×V))(e:σ=[some (.ref x),some (.ref tb),some (.ref d),g])(j:∀b o,H1 b=some o->b≠d->a b=some o)(hd:a d=some (.dT XD))(l:XD.length<=i)(sn:P0 XD f (h.take i))
inductive Pm(C:Xp)(vs:Xw V)(H:Hp)(Q:VK):Prop
 |mk(x p s t y:Xp)(ps:Xw Xx)(ss f ys:Xw V)(a:Xw QD)(sd:Xw SD)(e:vs=[.ref x])(bk:Bk C H x p s t y ps ss f ys)(m:ps.length<=24)(h:f.length<=120)(i:Lz dw H f a)(j:∀d∈a,lV ps d)(n:Sys H ys sd)(l:ys.length<=60)
   (k:∀d XD H',cH H H'->H d=none->H' d=some (.dT XD)->Oy XD a ((fu 0 (fm a)).filter (cZ a sd))->XD.length<=240->(∀g∈XD,∃t∈(fu 0 (fm a)).filter (cZ a sd),g.1=qG t)->Q (.ref d) H')
def Iv(C:Xp):Sp:=λa H Q _=>Pm C a H Q
def eJ(e:Xw QD)(a b:TK):Bool:=decide (a.2.2=b.2.1)&&decide (cJ e a.1<cJ e b.1)
def oj(H:Hp)(a:Xp)(t:TK):Prop:=H a=some (.tup [.int (t.1:Nat),.str t.2.1,.str t.2.2])
def dI.tr{H:Hp}{a b:Xp}{XD:Xw (Xw Key×V)}{k:Xw Key}(e:Rd H a (.dT XD))(f:H b=some (.tup<|k.map kV)):dI H a (.ref b) (dR XD k):=.inr ⟨XD,k,b,e,rfl,f,rfl⟩
inductive Gm  (vs:Xw V)(H:Hp)(Q:VK):Prop
 |mk(d a b:Xp)(XD:Xw (Xw Key×V))(f:Xw QD)(e:Xw TK)(t u:TK)(h0:vs=[.ref d,.ref a,.ref b])(j:Rd H d (.dT XD))(h:Oy XD f e)(n:oj H a t)(i:oj H b u)(m:t∈e)(g:u∈e)(l:Q (.bl (eJ f t u)) H)
def xO  :Sp:=λa H Q _=>Gm  a H Q
def xx:cK ["hours","telling","later"] ["hours","telling","later"] (cI lE):={}
def CD (D:Df K mg "leads_to" lE ["hours","telling","later"] f fd):Gd P w K mg base 1 "leads_to" xO:=by
 refine aG D xx λX H z Q E o h=>?_;obtain⟨d,a,b,A,y,B,t,u,rfl,g,n,q,j,v,x,k⟩:=h;have p:=dZ o.room;obtain⟨i,s,m,_⟩:=o.fc [0,1,2];refine⟨_,ag<|aw<|aV (ba aO (ai aE (aa s) ae ah) (ai aE (aa m) ae ah)<|cL _)<|a8<|ba bW (aK p (aa i) (aa s) aR) (aK p (aa i) (aa m) aR)<|cL _,?_⟩;have l:=dI.tr (k:=qG t) g q;have r:=dI.tr (k:=qG u) g j;rw[n t,QR v]at l;rw[n u,QR x]at r;unfold eJ at k;refine⟨_,rfl,xT q rfl ⟨_,rfl,xT j rfl ⟨rfl,_,rfl,dD (λe=>?_) λno=>?_⟩⟩⟩
 ·rw[dT0<|V.str.inj<|QT e,Sd]at k
  exact⟨_,rfl,_,rfl,d,_,rfl,l,_,rfl,_,rfl,d,_,rfl,r,_,_,rfl,rfl,k⟩
 ·simp_all
def jR:cK ["book","talks","hours","telling"] ["book"] (cI eL):={}
def Jy (D:Df K mg "hours_of_tellings" eL ["book"] f fd) (T:Txt K mg kw C) (al:Md P w K mg base 1 C "talks" (dB C λ_ _ t _=>t)) (ad:Md P w K mg base 1 C "tellings" (iZ C)):Gd P w K mg base 2 "hours_of_tellings" (Jm C):=by
 refine aG D jR λX H vs Q E j h=>?_;obtain⟨x,p,s,t,y,ps,ss,ts,ys,B,rfl,bk,tl,R,qk,k⟩:=h;have hu:=dZ j.room;have XO:=Rh;obtain⟨⟨dx,hx⟩,hp,hs,Y,hy⟩:=id bk;obtain⟨S0,S1,S2,S3,_⟩:=j.fc [0,1,2,3];refine⟨_,(af (au S1 j.nd<|bE (j.met al<|by decide) (aa S0) rfl)
 (af (au S2 j.nd J.Nj)
 (af (aZ j.own j.calm (aQ<|bE (j.met ad<|by decide) (aa S0) rfl) (aN S3 j.nd)
 (ag<|bN hu (aa S2) (aa S3)<|ai aE (ai aU (aa S1) (ai aE (aa S3) ae ah) cv) ae ah))
 (ag<|aw<|aa S2)))),?_⟩
 refine⟨_,rfl,x,dx,_,rfl,hx,fU _ _ _ _ (by decide+kernel) (by decide+kernel) (by decide+kernel)<|by decide+kernel,x,p,s,t,y,ts,rfl,⟨dx,hx⟩,Y,λtb ab=>?_⟩;generalize ac:upd H tb _=H1;obtain⟨s1,n⟩:=nx ab ac;intro d nd;generalize am:upd H1 d _=H2;obtain⟨s2,A⟩:=nx nd am;have m:=s1.trans s2;have z:=s1.free nd;refine⟨_,rfl,x,dx,_,rfl,m _ _ hx,fU _ _ _ _ (by decide+kernel) (by decide+kernel) (by decide+kernel)<|by decide+kernel,x,p,s,t,y,ps,ss,ts,ys,fm B,rfl,bk.mono m,CI<|R.mono<|dw.mono<|Tk.of m,tl,λl us H3 U ln hl G=>?_⟩;have N:=m.trans U;have ul:us.length<=240:=by
  have:=iY (fm B) 0;have:=G.1;have:=(CI R).1;lia
 have mem:∀g∈fu 0 (fm B),∃q,B[g.1]? =some q/\g.2.1∈ps/\g.2.2∈ps:=λg hk=>pP qk hk;generalize fu 0 (fm B)=ks at G k mem;refine⟨l,rfl,⟨_,cN.of hl⟩,c4 (a:=l) (xs:=us) (Nk x tb d H3 B ks) ⟨none,[],rfl,λb o e _=>e,U _ _ A,QP 0,λt Y=>by cases Y⟩ ?_ ?_ ?_⟩
 ·rintro i σ Z hi ⟨e3,S,rfl,r,W,kl,O⟩
  exact cN.of<|r _ _ hl (cF A ln).symm
 ·rintro i v σ Z hv ⟨e3,S,rfl,r,W,kl,O⟩
  have an:=(gI0.mp hv).1;obtain⟨g,Yd⟩:∃g,ks[i]? =some g:=⟨_,QJ<|by rw[<-G.1];exact an⟩;obtain⟨a,rfl,ha⟩:=G.2 _ _ _ hv Yd;obtain⟨q,hq,_,_⟩:=mem g<|QN Yd;obtain⟨vq,I⟩:∃vq,ts[g.1]? =some vq:=⟨_,QJ<|by rw[R.1];exact(gI0.mp hq).1⟩;obtain⟨aq,rfl,M⟩:=R.2 _ _ _ I hq;have F:=r _ _ ha (λe=>by rw[e,U _ _ A]at ha;cases ha);have L:=r _ _ ((s2.trans U) _ _ n)<|cF n nd;have lk:S.length<sizeLine:=by lia
  have eh:=eZ hq;refine⟨_,rfl,_,rfl,xT F rfl<|xL L (dj I)<|xT (r _ _ (N _ _ M)<|cF M z) rfl ⟨_,rfl,_,rfl,d,_,rfl,j8.t (k:=qG g) W F lk,_,_,rfl,λb o e n'=>by rw[cG n'];exact r b o e n',cE,Rn (di _ _ _)<|by lia,λu hu=>?_⟩⟩;rw[cP];by_cases e:u=g
  ·grind
  ·rw[QO λq=>e<|uZ q]
   exact O u<|(B4 Yd hu).resolve_right e
 ·rintro σ Z ⟨e3,S,rfl,r,W,kl,O⟩
  rw[G.1,RX]at O;exact⟨_,rfl,k d S Z (λb o e=>r _ _ (N _ _ e)<|cF e z) z W O⟩
def nU:cK ["book","hours"] ["book"] (cI fQ):={}
def LX (D:Df K mg "hours_of_open" fQ ["book"] f fd) (T:Txt K mg kw C) (W:Gd P w K mg base 2 "hours_of_tellings" (Jm C)) (O:Gd P w K mg base 4 "open_tellings" (uQ C)):Gd P w K mg base 5 "hours_of_open" (Iv C):=by
 refine aG D nU λX H vs Q E m h=>?_;obtain⟨x,p,s,t,y,ps,ss,ts,ys,g,sd,rfl,bk,pl,tl,U,qk,sy,XZ,k⟩:=h;have o:=dZ m.room;have XO:=Rh;obtain⟨S0,S1,_⟩:=m.fc [0,1];refine⟨_,(af (au S1 m.nd<|ak (m.gK W rfl (by lia)<|by decide)<|aj<|aa S0)
 (ag<|aw<|bo (m.b T.b_dict) (J.fD (Kk m.room) m.calm) uv<|aj<|bB (is:=[1]) (xs:=["telling"]) (ns:=["hours"]) m.calm (aQ<|ak (m.gK O rfl (by lia)<|by decide)<|aj<|aa S0) {} (λ_ _ _ _ _=>a6 (i:=0)) (λ_ _ _ _ _=>bU) (λ_ _ _ _ _=>aL<|aB (aM (i:=0))<|aK o (aS (i:=1)) (aM (i:=0)) aR) m.hsc m.hN)),?_⟩
 refine⟨_,rfl,x,p,s,t,y,ps,ss,ts,ys,g,rfl,bk,tl,U,qk,λd XD H1 L nd hd R=>?_⟩;refine⟨_,rfl,x,p,s,t,y,ps,ss,ts,ys,g,sd,rfl,bk.mono L,pl,tl,U.mono<|dw.mono<|Tk.of L,qk,sy.mono<|Tk.of L,XZ,λl us H2 s2 ln hl r=>?_⟩;have ul:us.length<=240:=by
  have:=iY (fm g) 0;have:=r.1;have:=(CI U).1;have:=RJ (cZ g sd)<|fu 0<|fm g;lia
 have om:∀t∈(fu 0<|fm g).filter (cZ g sd),t∈fu 0 (fm g):=λt R=>(Ra.mp R).1;generalize (fu 0<|fm g).filter (cZ g sd)=G at r k om;refine⟨l,rfl,⟨_,cN.of hl⟩,wN (λj H v=>∃(u:TK) (a b:Xp),G[j]? =some u/\v=.ref a/\H a=some (.tup [.ref b,.int<|cJ g u.1])/\oj H b u) (λ_ _ _ _ tk ⟨u,a,b,e,ev,Y,A⟩=>⟨u,a,b,e,ev,tk _ _ Y,tk _ _ A⟩) (cN.of hl) (by lia) ?_ ?_⟩
 ·intro i v H3 K1 N M k1
  obtain⟨u,o⟩:∃u,G[i]? =some u:=⟨_,QJ<|by rw[<-r.1];exact(gI0.mp N).1⟩;obtain⟨b,rfl,A⟩:=r.2 _ _ _ N o;have B:=M _ _ A;have dg:=dI.t (k:=qG u) (M _ _<|s2 _ _ hd) B;rw[R u<|om u<|QN o]at dg;exact⟨_,rfl,_,rfl,_,rfl,d,_,rfl,dg,tf,λt2 F=>k1 _ _ (cH.upd F) ⟨u,t2,b,o,rfl,cE,cH.upd F _ _ B⟩⟩
 ·intro q1 zs H3 ab M Z zl zr
  refine⟨q1,zs,G.map λt=>(qG t,V.int<|cJ g t.1),rfl,cN.of Z,by rw[zl,r.1,QM],λi v kv N n=>?_,λe ne=>?_⟩
  ·obtain⟨u,a,b,o,rfl,Y,A⟩:=zr i v N
   rw[QY,o]at n;cases n;exact⟨a,b,rfl,Y,A⟩
  ·have I:=(L.trans s2).trans M
   exact k e _ _ (I.trans<|cH.upd ne) (I.free ne) cE (sN g G [] [] λt=>by rw[QO λh=>by cases h];rfl) (by
    have h:=qv (G.map λt=>(qG t,V.int<|cJ g t.1)) [];rw[QM,<-r.1]at h;have z:([]:Xw (Xw Key×V)).length=0:=rfl;lia) λkv n=>by
    obtain ⟨q,hq,_⟩|⟨q,hq,e⟩:=rE _ _ kv n
    ·cases hq
    ·obtain⟨t,S,rfl⟩:=Ru.mp hq
     exact⟨t,S,e⟩
def yq(f:Xw QD)(e:Xw TK):Bool:=(List.range<|e.length-1).all λk=>match e[k]?,e[k+1]? with
 |some a,some b=>eJ f a b
 |_,_=>false
def pB(F:FH)(f:Xw QD)(g:Xw TK)(e:Xw TK)(p:Xx)(h:Int):Bool:=match e.head?,e.getLast? with
 |some a,some b=>(e.all λt=>decide<|t∈g)&&(eU F a.2.1 (cJ f a.1)&&(yq f e&&(decide (b.2.2=p)&&decide (cJ f b.1<=h))))
 |_,_=>false
inductive FD  (K:Frag)(vs:Xw V)(H:Hp)(Q:VK):Prop
 |mk(sc:Xp)(ns:Xw Int)(k:Int)(h0:vs=[.ref sc,.int k])(e:cN K H sc (ns.map V.int))(a:0<=k)(f:∀c:Int,Q (.int c) H)
def xN  (K:Frag):Sp:=λa H Q _=>FD K a H Q
inductive KS  (vs:Xw V)(H:Hp)(Q:VK):Prop
 |mk(c k:Int)(h0:vs=[.int c,.int k])(e:0<=k)(a:k<=1000)(f:∀m:Int,0<=m->m<2147483587->Q (.int m) H)
def rH  :Sp:=λa H Q _=>KS  a H Q
def cY(a:Int){m:Int}(h:0<m):0<=a%m/\a%m<m:=⟨Int.emod_nonneg _<|by lia,Int.emod_lt_of_pos _ h⟩
def uM:cK ["_law_script","_law_k"] ["_law_script","_law_k"] (cI jI):={}
def FQ (D:Df K mg "_law_cell_at" jI ["_law_script","_law_k"] f fd) (T:Txt K mg kw C):Gd P w K mg base 1 "_law_cell_at" (xN K):=by
 refine aG D uM λX H r Q E g h=>?_;obtain⟨i,n,k,rfl,a,p,q⟩:=h;rw[<-g.fK]at a;obtain⟨m,l,_⟩:=g.fc [0,1];refine⟨_,(af (aH (aF bW (aa l) (aJ (g.b T.b_len) aY dh<|aj<|aa m)<|cL _)
 (ag<|aw<|ai aU (aa m) (aa l) aR)
 aI)
 (ag<|aw ae)),?_⟩
 refine⟨_,rfl,_,rfl,i,_,rfl,.inl a,_,_,rfl,rfl,_,rfl,dD (λlt=>?_) λ_=>?_⟩
 ·rw[Rz,QM]at lt
  have e:((k.toNat:Nat):Int)=k:=Sq p;have o:=dj (xs:=n.map V.int) (j:=k.toNat) (v:=V.int<|n[k.toNat]'(by lia)) (by rw[QY,QJ<|by lia];rfl);rw[e]at o;exact⟨_,rfl,_,rfl,i,_,_,_,rfl,rfl,a,o,q _⟩
 ·exact q 0
def Ez:cK ["_law_cell","_law_k","_law_number"] ["_law_cell","_law_k"] (cI uN):={}
def K7 (D:Df K mg "_law_mix" uN ["_law_cell","_law_k"] f fd):Gd P w K mg base 1 "_law_mix" rH:=by
 refine aG D Ez λX H n Q E g h=>?_;obtain⟨c,k,rfl,o,l,q⟩:=h;obtain⟨i,a,e,_⟩:=g.fc [0,1,2];refine⟨_,(af (au e g.nd<|aD aX (aD bI (aD bA (aD bA (aD bA (aD aX (aa i)<|aD J.nG ae ae)<|aD bI (aD bI ae<|aa a)<|aa a)<|aD bI (aD bI ae<|aa a)<|aa a) ae) ae) ae)
 (ag<|aw<|aD aX (aD bI (aa e)<|aa e) ae)),?_⟩
 refine⟨_,rfl,_,_,rfl,rfl,⟨by decide,by decide,by decide⟩,_,_,rfl,rfl,by decide+kernel,_,rfl,_,_,rfl,rfl,.inl ⟨by decide,by decide⟩,_,rfl,_,_,rfl,rfl,.inr ⟨by lia,by lia⟩,_,_,rfl,rfl,_,rfl,_,_,rfl,rfl,.inl ⟨by decide,by decide⟩,_,rfl,_,_,rfl,rfl,.inr ⟨by lia,by lia⟩,_,_,rfl,rfl,_,_,rfl,rfl,_,_,rfl,rfl,.inr ⟨by decide,by decide⟩,_,_,rfl,rfl,by decide,?_⟩;have j:=cY ((c%10^Int.toNat 15+104729*k*k+31*k*k+1)*48271) (m:=2147483629) (by decide);generalize (c%10^Int.toNat 15+104729*k*k+31*k*k+1)*48271%2147483629=S at j;have r:=cY (S*S) (m:=2147483587) (by decide);exact⟨_,rfl,_,rfl,_,_,rfl,rfl,.inl ⟨by lia,by lia⟩,_,_,rfl,rfl,by decide,q _ r.1 r.2⟩
def az:Xx:= "abcdefghijklmnopqrstuvwxyz"
def Hc(z:Xx):Prop:=∀c∈z.cps.toList,c∈az.cps.toList
def Ic:∀c∈az.cps.toList,jE (.str ⟨#[c]⟩)=true:=by decide+kernel
def gT:Xw Xx:=["j","q","x","z","jz","qz","xz","zj","zq","zx"]
def mark(c:Nat):Bool:=c==106||c==113||c==120||c==122
def Ay:∀z∈gT,1<=z.length/\z.length<=2/\(z.cps.toList.any mark)=true/\(z.cps.toList.all λc=>az.cps.toList.contains c)=true:=by decide+kernel
def Hs:gT.Nodup:=by decide+kernel
def Co:∀w∈kept,(w.cps.toList.any mark)=false:=by decide+kernel
def D0{z:Xx}(h:Hc z)(n:1<=z.length)(m:z.length<=12)(hm:(z.cps.toList.any mark)=true):dX z=true:=by
 unfold dX;rw[dT0<|by lia,dT0<|by lia,Sd,Sd,R6];refine⟨?_,?_⟩
 ·rw[all_map,Sn]
  intro v i;obtain⟨c,j,rfl⟩:=Ru.mp i;exact Ic c<|h c j
 ·cases e:IT (.str z) (kept.map V.str) with
  |false=>rfl
  |true=>
   have f:(kept.map V.str).any (λy=>vR y<|.str z)=true:=e;rw[any_map,U9]at f;obtain⟨w,g,l⟩:=f;have a:=Co w g;rw[eq_of_beq l,hm]at a;cases a
theorem zX:∀zs:Xw Xx,(∀z∈zs,Hc z)->Hc (Str.join "" zs)
 |[],_=>λc a=>by
  have:c∈([]:Xw Nat):=a;cases this
 |[z],h=>h z<|RD ..
 |z::y::r,h=>λc a=>by
  have e:(Str.join "" (z::y::r)).cps.toList=z.cps.toList++(Str.join "" (y::r)).cps.toList:=by
   show(z++ "" ++Str.join "" (y::r)).cps.toList=_;rw[iI,iI];show z.cps.toList++[]++_=_;rw[Ry]
  rw[e]at a;obtain a|a:=Ro.mp a
  ·exact h z (RD ..) c a
  ·exact zX (y::r) (λu f=>h u<|RK _ f) c a
def Fq(i:Int):Nat:=az.cps.toList.getD i.toNat 0
def De:∀i:Fin 26,qR az.cps.toList ((i.val:Nat):Int)=some (Fq (i.val:Nat))/\Fq (i.val:Nat)∈az.cps.toList:=by decide+kernel
def zo{i:Int}(h0:0<=i)(a:i<26):qR az.cps.toList i=some (Fq i)/\Fq i∈az.cps.toList:=by
 have e:((i.toNat:Nat):Int)=i:=Sq h0;have:=De ⟨i.toNat,by lia⟩;rw[e]at this;exact this
def j6(i:Int):Xx:=gT.getD i.toNat ""
def Dw{i:Int}(h0:0<=i)(f:i<10):qR (gT.map V.str) i=some (.str<|j6 i)/\j6 i∈gT:=by
 have a:i.toNat<gT.length:=by
  show i.toNat<10;lia
 have e:((i.toNat:Nat):Int)=i:=Sq h0;have g:gT[i.toNat]? =some gT[i.toNat]:=QJ a;have d:j6 i=gT[i.toNat]:=by
  unfold j6;rw[Sg,g];rfl
 have:=dj (xs:=gT.map V.str) (j:=i.toNat) (v:=V.str gT[i.toNat]) (by rw[QY,g];rfl);rw[e]at this;rw[d];exact⟨this,Tf a⟩
def FV{i j:Int}(h0:0<=i)(l:i<10)(g:0<=j)(g1:j<10)(h:j6 i=j6 j):i=j:=by
 have f:i.toNat<gT.length:=by
  show i.toNat<10;lia
 have e:j.toNat<gT.length:=by
  show j.toNat<10;lia
 have d:∀{k:Int}(a:k.toNat<gT.length),j6 k=gT[k.toNat]:=λa=>by
  unfold j6;grind
 rw[d f,d e]at h;have:=(TZ Hs).mp h;lia
def qD(B:Xx)(A c:Int)(k:Nat):Xx:=mN B none (some A)++j6 (((k:Int)+c)%10)++mN B (some A) none
def E7{B:Xx}{lo a:Xu Int}(h:Hc B):Hc (mN B lo a):=λc e=>h c<|Uy<|SR e
def Nc{B:Xx}{A c:Int}{k:Nat}(e:Hc B)(o:B.length<=9)(g:0<=A)(a1:A<=B.length):dX (qD B A c k)=true:=by
 have m:=cY ((k:Int)+c) (m:=10) (by decide);obtain⟨p,n,h,l⟩:=Ay _ (Dw m.1 m.2).2;have f:=Sq g;have i:(mN B none<|some A).length=A.toNat:=by
  have:=K4 (z:=B) (k:=A.toNat) (by lia);rw[f]at this;rw[<-lY,this,RU,lY];lia
 have j:(mN B (some A) none).length=B.length-A.toNat:=by
  have:=Lo (z:=B) (k:=A.toNat) (by lia);rw[f]at this;rw[<-lY,this,Sy,lY]
 have len:(qD B A c k).length=A.toNat+(j6<|((k:Int)+c)%10).length+(B.length-A.toNat):=by
  unfold qD;rw[vh,vh,i,j]
 refine D0 (λx a=>?_) (by lia) (by lia) ?_
 ·unfold qD at a
  rw[iI,iI]at a;obtain a|a:=Ro.mp a
  ·obtain a|a:=Ro.mp a
   ·exact E7 e x a
   grind
  ·exact E7 e x a
 ·unfold qD
  rw[iI,iI,W7,W7,h,Bool.or_true,Bool.true_or]
def Nv{B:Xx}{A c:Int}{i j:Nat}(h:i<j)(l:j<10):qD B A c i≠qD B A c j:=by
 intro e;have a:=RP (λz:Xx=>z.cps.toList) e;unfold qD at a;simp only[iI]at a;have g:=cY ((i:Int)+c) (m:=10) (by decide);have f:=cY ((j:Int)+c) (m:=10) (by decide);have:=FV g.1 g.2 f.1 f.2<|GF<|List.append_cancel_left<|List.append_cancel_right a;lia
def nodup_range{f:Nat->Xx}{n:Nat}(h:∀i j,i<j->j<n->f i≠f j):((List.range n).map f).Nodup:=by
 unfold List.Nodup;rw[Vo];exact UX (λ{a b} _ g e=>h a b e<|Su.mp g) Va
theorem Ao:∀ys:Xw V,(∀v∈ys,∃c∈az.cps.toList,v=V.str ⟨#[c]⟩)->∃zs:Xw Xx,ys=zs.map V.str/\∀z∈zs,z.length=1/\Hc z
 |[],_=>⟨[],rfl,λz f=>by cases f⟩
 |v::r,h=>by
  obtain⟨zs,e,f⟩:=Ao r λu i=>h u<|RK _ i;obtain⟨c,j,rfl⟩:=h v RD;refine⟨⟨#[c]⟩::zs,by rw[RL,<-e],λz a=>?_⟩;obtain rfl|a:=Rq.mp a
  ·exact⟨rfl,λd g=>by
    have:d∈[c]:=g;rw[QQ.mp this];exact j⟩
  ·exact f z a
theorem xw:∀zs:Xw Xx,(∀z∈zs,z.length=1)->(zs.map (·.length)).sum=zs.length
 |[],_=>rfl
 |z::r,h=>by
  rw[RL,TH,xw r λy a=>h y<|RK _ a,h z RD,RG];lia
inductive Bg  (vs:Xw V)(H:Hp)(Q:VK):Prop
 |mk(c m:Int)(h0:vs=[.int c,.int m])(e:1<=m)(a:m<=10)(f:∀(l:Xp)(us:Xw Xx)(H':Hp),cH H H'->H l=none->H' l=some (.lst (us.map V.str))->fP us->us.length=m.toNat->Q (.ref l) H')
def v9  :Sp:=λa H Q _=>Bg  a H Q
def yc:cK ["_law_cell","_law_many","_law_letters","_law_signs","_law_base","_law_at"] ["_law_cell","_law_many"] (cI mT):={}
def Cf (D:Df K mg "_law_names" mT ["_law_cell","_law_many"] f fd) (T:Txt K mg kw C) (YR:Gd P w K mg base 1 "_law_mix" rH):Gd P w K mg base 2 "_law_names" v9:=by
 refine aG D yc λX H vs Q E a h=>?_;obtain⟨c,m,rfl,m1,ap,k⟩:=h;have x:=a.gK YR rfl (by lia) (by decide);have XO:=Rh;obtain⟨S0,S1,S2,S3,S4,S5,_⟩:=a.fc [0,1,2,3,4,5];have y:=a.b T.b_range;refine⟨_,(af (au S2 a.nd ao)
 (af (au S3 a.nd<|a5<|bK ao<|bK ao<|bK ao<|bK ao<|bK ao<|b7 ao ao ao ao ao)
 (af (au S4 a.nd<|bw PySem.F.plainAttrs_str PySem.F.slot_str_join PySem.F.type_str_join J.tY ao<|aj<|bB (is:=[0,2]) (xs:=["_law_k"]) (ns:=["_law_cell","_law_letters"]) a.calm (b8 y<|aj<|aD aX (ak x<|aB (aa S0) ae) ae) {} (λ_ _ _ _ _=>a6 (i:=0)) (λ_ _ _ _ _=>bU) (λ_ _ _ _ _=>ai J.yk (aS (i:=2)) (aD aX (ak ((a.wj YR (by lia)<|by decide).lg rfl)<|aB (aS (i:=1))<|aD bA ae<|aM (i:=0)) ae) bP) a.hsc a.hN)
 (af (au S5 a.nd<|aD aX (ak x<|aB (aa S0) ae)<|aD bA (aJ (a.b T.b_len) J.gf dh<|aj<|aa S4) ae)
 (ag<|aw<|bB (is:=[0,3,4,5]) (xs:=["_law_k"]) (ns:=["_law_cell","_law_signs","_law_base","_law_at"]) a.calm (b8 y<|aj<|aa S1) {} (λ_ _ _ _ _=>a6 (i:=0)) (λ_ _ _ _ _=>bU) (λ_ _ _ _ _=>aD J.iU (aD J.iU (bT J.tJ (aS (i:=3)) bX<|bV<|aS (i:=4))<|ai cD (aS (i:=2)) (aD aX (aD bA (aM (i:=0))<|aS (i:=1)) ae) bP)<|bT J.tJ (aS (i:=3)) (bV<|aS (i:=4)) bX) a.hsc a.hN))))),?_⟩
 refine⟨by decide,λsl ad=>?_⟩;have s1:=cH.upd (o:=.lst<|gT.map V.str) ad;have s:upd H sl (.lst<|gT.map V.str) sl=some (.lst<|gT.map V.str):=cE;generalize ab:upd H sl (.lst<|gT.map V.str)=H1 at s1 s;show eR 3 (.ref sl) _ (upd H sl<|.lst<|gT.map V.str) _;rw[ab];refine⟨rfl,_,rfl,c,_,rfl,by decide,by decide,λM M0 M1=>?_⟩;have mm:=cY M (m:=10) (by decide);refine⟨_,_,rfl,rfl,by decide,?_⟩;generalize M%10=N at mm;refine⟨N,rfl,by lia,by lia,Cn (lo:=0) (N:=N.toNat) (λ_ _ v=>∃c∈az.cps.toList,v=.str ⟨#[c]⟩) (λ_ _ _ _ _ h=>h) (by lia) (λi H2 K1 hi Y G=>?_) λD' ys H2 nD Y hD yl yr=>?_⟩
 ·refine⟨_,rfl,_,rfl,_,rfl,_,_,rfl,rfl,c,_,rfl,by lia,by lia,λm' an al=>?_⟩
  have g:=cY m' (m:=26) (by decide);exact⟨_,_,rfl,rfl,by lia,az,_,_,rfl,rfl,by decide+kernel,(zo g.1 g.2).1,G _ H2 (cH.refl _) ⟨_,(zo g.1 g.2).2,rfl⟩⟩
 ·obtain⟨p,rfl,ones⟩:=Ao ys λv hv=>by
   obtain⟨j,hj⟩:=Rg hv;exact yr j v hj
  rw[QM]at yl;have L:=PySem.W.KT.join_ones p λz q=>(ones z q).1;have sL:Hc (Txt.join "" p):=by
   show Hc (Builtin.Str.glued "" p);rw[StrLaws.glued_eq_join];exact zX p λz q=>(ones z q).2
  refine⟨"",D',p,rfl,rfl,cN.of hD,?_,?_⟩
  ·rw[xw p λz q=>(ones z q).1]
   have:("" :Xx).length=0:=by decide+kernel
   rw[this];lia
  ·generalize Txt.join "" p=B at L sL
   have bl:B.length<=9:=by lia
   have r:=s1.trans Y;refine⟨_,rfl,c,_,rfl,by decide,by decide,λR R0 R1=>⟨_,rfl,B,rfl,by lia,_,_,rfl,rfl,_,_,rfl,rfl,by lia,?_⟩⟩;have I:=cY R (m:=(B.length:Int)+1) (by lia);dsimp only;generalize R%((B.length:Int)+1)=A at I;have aA:=Sq I.1;have c1:=jG B none<|some A;have c2:=jG B (some A) none;refine⟨_,rfl,m,rfl,by lia,by lia,rG (lo:=0) (N:=m.toNat) (λ_=>true) (λj=>.str<|qD B A c j) (by lia) ?_ ?_⟩
   ·intro i os S K1 K2 hi ac s3 G k2
    have n:=cY ((i:Int)+c) (m:=10) (by decide);obtain⟨sa,sm⟩:=Dw n.1 n.2;obtain⟨q1,q2,_⟩:=Ay _ sm;have U:qR (gT.map V.str) ((0+(i:Int)+c)%10)=some (.str<|j6<|((i:Int)+c)%10):=by
     rw[VW];exact sa
    match os,ac with
    |[o1],_=>
     refine⟨⟨[_],rfl,rfl⟩,Og ⟨_,rfl,_,rfl,_,rfl,B,rfl,by lia,_,rfl,_,rfl,_,rfl,_,_,rfl,rfl,_,_,rfl,rfl,by show(0:Int)<10;decide,xL (s3 _ _<|Y _ _ s) U ⟨_,_,rfl,rfl,by lia,_,rfl,_,rfl,_,rfl,B,rfl,by lia,_,_,rfl,rfl,?_,G rfl S<|cH.refl _⟩⟩⟩;rw[vh];lia
   ·intro l S nl s3 Z
    rw[Vs.mpr λ_ _=>rfl]at Z;have e:((List.range m.toNat).map λj=>V.str<|qD B A c j)=((List.range m.toNat).map<|qD B A c).map V.str:=by
     rw[Th];rfl
    rw[e]at Z;refine k l _ S (r.trans s3) (r.free nl) Z ⟨by rw[QM,SI];lia,by rw[QM,SI];lia,nodup_range λi j O hj=>Nv O<|by lia,λz q=>?_⟩ (by rw[QM,SI]);obtain⟨j,hj,rfl⟩:=Ru.mp q;exact Nc sL bl I.1 (by lia)
def both{G A:Prop}(h:G)(k:G->A):A:=k h
def y4{u k:Int}(f:0<=u)(g:u<=1000000000000000)(a:0<=k)(e:k<=60):0<=u*k/\u*k<=60000000000000000:=
 ⟨Int.mul_nonneg f a,Int.mul_le_mul g e a<|by decide⟩
inductive Ik  (vs:Xw V)(H:Hp)(Q:VK):Prop
 |mk(c u:Int)(p q:Xx)(ps:Xw Xx)(h0:vs=[.int c,.str p,.str q,.int u])(g:0<=u)(e:u<=1000000000000000)(i:p∈ps)(f:q∈ps)(h:p≠q)(a:∀(v:V)(d:SD) H',cH H H'->BD H' v d->HS ps d->Q v H')
def Dl  :Sp:=λa H Q _=>Ik  a H Q
def xh:cK ["_law_cell","_law_one","_law_other","_law_unit","_law_kind","_law_hour"] ["_law_cell","_law_one","_law_other","_law_unit"] (cI kN):={}
def G0 (D:Df K mg "_law_saying" kN ["_law_cell","_law_one","_law_other","_law_unit"] f fd) (T:Txt K mg kw C) (YR:Gd P w K mg base 1 "_law_mix" rH):Gd P w K mg base 2 "_law_saying" Dl:=by
 refine aG D xh λX H vs Q E y h=>?_;obtain⟨c,u,p,q,ps,rfl,O,S,x,hq,M,k⟩:=h;have l:=y.c YR;obtain⟨v,F,S2,U,z,r,_⟩:=y.fc [0,1,2,3,4,5];refine⟨_,(af (au z y.nd<|aD aX (ak l<|aB (aa v) ae) ae)
 (af (au r y.nd<|aD bI (aa U)<|aD aX (ak l<|aB (aa v) ae) ae)
 (af (aH (aF aO (aa z) ae<|cL _)
 (ag<|aw<|aL<|aP ao (aa F)<|aa r)
 aI)
 (af (aH (aF aO (aa z) ae<|cL _)
 (ag<|aw<|aL<|aP ao (aa F)<|ai aU (a5<|aP (aD bJ (aa r) ae) (aa r) bL) (aD aX (ak l<|aB (aa v) ae) ae) bP)
 aI)
 (af (aH (aF aO (aa z) ae<|cL _)
 (ag<|aw<|aL<|aP ao (aa F)<|aa S2)
 aI)
 (ag<|aw<|aL<|bQ ao (aa F) (aa r)<|aD bA (aa r)<|aD bI (aa U)<|aD aX (ak l<|aB (aa v) ae) ae)))))),?_⟩
 have G:(10:Int)^Int.toNat 18=1000000000000000000:=by decide+kernel
 have j:∀{i:Int},0<=i->i<=200000000000000000->du i:=λa b=>⟨a,by rw[G];lia⟩;refine⟨_,rfl,c,_,rfl,by decide,by decide,λA A0 A1=>⟨_,_,rfl,rfl,by show(0:Int)<5;decide,?_⟩⟩;refine⟨_,rfl,_,rfl,c,_,rfl,by decide,by decide,λB B0 B1=>⟨_,_,rfl,rfl,by show(0:Int)<30;decide,?_⟩⟩;have J:=cY B (m:=30) (by decide);refine⟨_,_,rfl,rfl,.inl ⟨by lia,by lia⟩,?_⟩;have g:=y4 O S J.1 (by lia);generalize u*(B%30)=h at g;generalize A%5=kd;refine⟨_,rfl,rfl,_,rfl,dD (λ_=>⟨_,rfl,_,rfl,uB,λt n=>k _ (.knew p h) _ (cH.upd n) ⟨t,rfl,cE⟩ ⟨x,j g.1<|by lia⟩⟩) λ_=>?_⟩;refine⟨_,rfl,rfl,_,rfl,dD (λ_=>?_) λ_=>?_⟩
 ·have W:0<=h / 3/\h / 3<=h:=⟨Int.ediv_nonneg g.1<|by decide,Int.ediv_le_self _ g.1⟩
  refine⟨_,rfl,_,rfl,_,_,rfl,rfl,⟨by decide,by decide⟩,_,rfl,uB,λb Z=>⟨_,rfl,c,_,rfl,by decide,by decide,λR R0 R1=>⟨_,_,rfl,rfl,by show(0:Int)<3;decide,?_⟩⟩⟩;have N:=cY R (m:=3) (by decide);obtain⟨bv,Y,s⟩:=rJ (xs:=[V.int<|h / 3,V.int h,V.non]) (i:=R%3) N.1 N.2;have I:∃o:Xu Int,bv=oV o/\∀i,o=some i->du i:=by
   simp only[mem_cons,not_mem_nil,or_false]at s;obtain rfl|rfl|rfl:=s
   ·exact⟨some _,rfl,λi e=>by cases e;exact j W.1<|by lia⟩
   ·exact⟨some _,rfl,λi e=>by cases e;exact j g.1<|by lia⟩
   ·exact⟨none,rfl,λi e=>by cases e⟩
  obtain⟨o,rfl,oo⟩:=I;exact(xL cE Y ⟨uB,λt n=>k _ (.unh p o) _ ((cH.upd Z).trans<|cH.upd n) ⟨t,rfl,cE⟩ ⟨x,oo⟩⟩)
 ·refine⟨_,rfl,rfl,_,rfl,dD (λ_=>⟨_,rfl,_,rfl,uB,λt n=>k _ (.bar p q) _ (cH.upd n) ⟨t,rfl,cE⟩ ⟨x,hq,M⟩⟩) λ_=>?_⟩
  refine⟨_,rfl,_,rfl,_,rfl,_,rfl,_,rfl,c,_,rfl,by decide,by decide,λR R0 R1=>⟨_,_,rfl,rfl,by show(0:Int)<12;decide,?_⟩⟩;have L:=cY R (m:=12) (by decide);have ab:=y4 O S L.1 (by lia);refine⟨_,_,rfl,rfl,.inl ⟨by lia,by lia⟩,_,_,rfl,rfl,MR,λt n=>k _ (.sil p h<|h+u*(R%12)) _ (cH.upd n) ⟨t,rfl,cE⟩ ⟨x,j g.1<|by lia,j (by lia)<|by lia,by lia⟩⟩
def kB{h:TT}{u e:TS}{D:Ends}{σ:St}{H:Hp}(R:St->Hp->Prop)(g:∀a H',R a H'->e D a H')(b:Bool)(l:∀Q:Bool->Hp->Prop,(∀H',cH H H'->Q b H')->h σ H Q)(j:b=true->∀H',cH H H'->(∀a H',R a H'->e D a H')->u { D with nx:=e D } σ H')(i:b=false->∀H',cH H H'->R σ H'):
  Bm (HP h u zQ) e D σ H:=by
 refine l _ λH' f=>?_;cases b with
 |true=>exact fL<|j rfl H' f g
 |false=>exact dG<|g _ _<|i rfl H' f
def Cy{a b:Xx}(h:a≠b):¬(Sum.inr a:Key)=Sum.inr b:=λe=>h<|Tc e
def n5(p s t y:Xp):Xw (Key×V):=fF [] [(Sum.inr "persons",V.ref p),(Sum.inr "sights",V.ref s),(Sum.inr "talks",V.ref t),(Sum.inr "sayings",V.ref y)]
def Gp(p s t y:Xp):dR (n5 p s t y) (Sum.inr "persons")=some (V.ref p):=by
 unfold n5 fF;rw[R5,R5,R5,R5,Wk];rw[cP,cP,cP,cP,QO<|Cy<|show("persons" :Xx)≠("sayings" :Xx) by decide,QO<|Cy<|show("persons" :Xx)≠("talks" :Xx) by decide,QO<|Cy<|show("persons" :Xx)≠("sights" :Xx) by decide,QR rfl]
def Gi(p s t y:Xp):dR (n5 p s t y) (Sum.inr "sights")=some (V.ref s):=by
 unfold n5 fF;rw[R5,R5,R5,R5,Wk];rw[cP,cP,cP,QO<|Cy<|show("sights" :Xx)≠("sayings" :Xx) by decide,QO<|Cy<|show("sights" :Xx)≠("talks" :Xx) by decide,QR rfl]
def FZ(p s t y:Xp):dR (n5 p s t y) (Sum.inr "talks")=some (V.ref t):=by
 unfold n5 fF;rw[R5,R5,R5,R5,Wk];rw[cP,cP,QO<|Cy<|show("talks" :Xx)≠("sayings" :Xx) by decide,QR rfl]
def Gb(p s t y:Xp):dR (n5 p s t y) (Sum.inr "sayings")=some (V.ref y):=by
 unfold n5 fF;rw[R5,R5,R5,R5,Wk];rw[cP,QR rfl]
structure i5(ps:Xw Xx)(H:Hp)(md p s t y:Xp)(ss ts ys:Xw V):Prop where
 hmd:∃XD,H md=some (.dK XD)/\XD.length<=8/\dR XD (Sum.inr "persons")=some (V.ref p)/\dR XD (Sum.inr "sights")=some (V.ref s)/\dR XD (Sum.inr "talks")=some (V.ref t)/\dR XD (Sum.inr "sayings")=some (V.ref y)
 hp:H p=some (.lst (ps.map V.str))
 hs:H s=some (.lst ss)
 ht:H t=some (.lst ts)
 hy:H y=some (.lst ys)
 ls:ss.length<=24
 lt:ts.length<=64
 ly:ys.length<=60
 gs:∀v∈ss,dP ps H v
 gt:∀v∈ts,eT ps H v
 gy:∀v∈ys,jo ps H v
def i5.mono{ps:Xw Xx}{H H':Hp}{f p s t y:Xp}{ss g ys:Xw V}(a:cH H H')(o:i5 ps H f p s t y ss g ys):i5 ps H' f p s t y ss g ys:=
 ⟨let ⟨i,h,r⟩:=o.hmd;⟨i,a _ _ h,r⟩,a _ _ o.hp,a _ _ o.hs,a _ _ o.ht,a _ _ o.hy,o.ls,o.lt,o.ly,λv e=>(o.gs v e).mono<|Tk.of a,λv e=>(o.gt v e).mono<|Tk.of a,λv e=>(o.gy v e).mono<|Tk.of a⟩
def i5.Ms{ps:Xw Xx}{H:Hp}{f p s t y:Xp}{ss g ys:Xw V}{v:V}(o:i5 ps H f p s t y ss g ys)(n:f≠s/\p≠s/\t≠s/\y≠s)(l:ss.length+1<=24)(h:dP ps (upd H s<|.lst<|ss++[v]) v):i5 ps (upd H s<|.lst<|ss++[v]) f p s t y (ss++[v]) g ys:=by
 have e:=Tk.upd o.hs (ys:=ss++[v]);refine⟨by rw[cG n.1];exact o.hmd,by rw[cG n.2.1];exact o.hp,cE,by rw[cG n.2.2.1];exact o.ht,by rw[cG n.2.2.2];exact o.hy,by rw[QK];exact l,o.lt,o.ly,λu a=>?_,λu a=>(o.gt u a).mono e,λu a=>(o.gy u a).mono e⟩;obtain a|a:=Ro.mp a
 ·exact(o.gs u a).mono e
 ·rw[QQ.mp a]
  exact h
def i5.O7{ps:Xw Xx}{H:Hp}{g p s t y:Xp}{ss e ys:Xw V}{v:V}(o:i5 ps H g p s t y ss e ys)(n:g≠t/\p≠t/\s≠t/\y≠t)(l:e.length+1<=64)(h:eT ps (upd H t<|.lst<|e++[v]) v):i5 ps (upd H t<|.lst<|e++[v]) g p s t y ss (e++[v]) ys:=by
 have f:=Tk.upd o.ht (ys:=e++[v]);refine⟨by rw[cG n.1];exact o.hmd,by rw[cG n.2.1];exact o.hp,by rw[cG n.2.2.1];exact o.hs,cE,by rw[cG n.2.2.2];exact o.hy,o.ls,by rw[QK];exact l,o.ly,λu a=>(o.gs u a).mono f,λu a=>?_,λu a=>(o.gy u a).mono f⟩;obtain a|a:=Ro.mp a
 ·exact(o.gt u a).mono f
 ·rw[QQ.mp a]
  exact h
def i5.OW{ps:Xw Xx}{H:Hp}{f p s t y:Xp}{ss g ys:Xw V}{v:V}(o:i5 ps H f p s t y ss g ys)(n:f≠y/\p≠y/\s≠y/\t≠y)(l:ys.length+1<=60)(h:jo ps (upd H y<|.lst<|ys++[v]) v):i5 ps (upd H y<|.lst<|ys++[v]) f p s t y ss g (ys++[v]):=by
 have e:=Tk.upd o.hy (ys:=ys++[v]);refine⟨by rw[cG n.1];exact o.hmd,by rw[cG n.2.1];exact o.hp,by rw[cG n.2.2.1];exact o.hs,by rw[cG n.2.2.2];exact o.ht,cE,o.ls,o.lt,by rw[QK];exact l,λu a=>(o.gs u a).mono e,λu a=>(o.gt u a).mono e,λu a=>?_⟩;obtain a|a:=Ro.mp a
 ·exact(o.gy u a).mono e
 ·rw[QQ.mp a]
  exact h
def i5.dp{ps:Xw Xx}{H:Hp}{a p s t y:Xp}{ss e ys:Xw V}(o:i5 ps H a p s t y ss e ys):dI H a (.str "persons") (some<|.ref p):=by
 obtain⟨i,h,_,f,g,l,j⟩:=o.hmd;rw[<-f];exact dI.k (k:=Sum.inr "persons") h
def i5.ds{ps:Xw Xx}{H:Hp}{a p s t y:Xp}{ss e ys:Xw V}(o:i5 ps H a p s t y ss e ys):dI H a (.str "sights") (some<|.ref s):=by
 obtain⟨g,h,_,j,f,l,i⟩:=o.hmd;rw[<-f];exact dI.k (k:=Sum.inr "sights") h
def i5.dt{ps:Xw Xx}{H:Hp}{a p s t y:Xp}{ss e ys:Xw V}(o:i5 ps H a p s t y ss e ys):dI H a (.str "talks") (some<|.ref t):=by
 obtain⟨i,h,_,l,g,f,j⟩:=o.hmd;rw[<-f];exact dI.k (k:=Sum.inr "talks") h
def i5.dy{ps:Xw Xx}{H:Hp}{a p s t y:Xp}{ss e ys:Xw V}(o:i5 ps H a p s t y ss e ys):dI H a (.str "sayings") (some<|.ref y):=by
 obtain⟨i,h,_,j,g,l,f⟩:=o.hmd;rw[<-f];exact dI.k (k:=Sum.inr "sayings") h
def Io{ps:Xw Xx}{a:Nat}{z:Xx}(nd:ps.Nodup)(x:2<=ps.length)(hz:ps[a]? =some z):∃h:Xw Xx,d4 (ps.map V.str) (some<|(a:Int)+1) none++d4 (ps.map V.str) none (some (a:Int))=h.map V.str/\1<=h.length/\h.length<=ps.length/\∀y∈h,y∈ps/\y≠z:=by
 have w:=(gI0.mp hz).1;have r:d4 (ps.map V.str) (some<|(a:Int)+1) none=(ps.drop<|a+1).map V.str:=by
  rw[show((a:Int)+1)=((a+1:Nat):Int) by lia,su,HT.jK,HT.lT,UI<|by lia,Se<|by rw[Sy];exact QP _]
 have o:d4 (ps.map V.str) none (some (a:Int))=(ps.take a).map V.str:=by
  rw[su,HT.jK,HT.lT,UI<|by lia,Uj,WW]
 refine⟨ps.drop (a+1)++ps.take a,by rw[r,o,Sr],by rw[QK,Sy,RU];lia,by rw[QK,Sy,RU];lia,λy g=>?_⟩;have i:∃k,k≠a/\ps[k]? =some y:=by
  obtain g|g:=Ro.mp g
  ·obtain⟨j,f⟩:=Rg g
   rw[TN]at f;exact⟨a+1+j,by lia,f⟩
  ·obtain⟨j,f⟩:=Rg g
   have p:=(gI0.mp f).1;rw[RU]at p;rw[Sv<|by lia]at f;exact⟨j,by lia,f⟩
 obtain⟨k,q,l⟩:=i;refine⟨QN l,λe=>q ?_⟩;obtain⟨s,m⟩:=gI0.mp l;obtain⟨v,n⟩:=gI0.mp hz;exact(TZ nd).mp (by rw[m,n,e])
def i5.O0{ps:Xw Xx}{H:Hp}{a p s t y s':Xp}{ss w ys i:Xw V}{XD:Xw (Key×V)}(o:i5 ps H a p s t y ss w ys)(m:H a=some (.dK XD))(r:H s'=some (.lst i))(l:i.length<=24)(g:∀v∈i,dP ps H v):i5 ps (upd H a<|.dK<|putK XD (Sum.inr "sights")<|.ref s') a p s' t y i w ys:=by
 obtain⟨E,h,C,B,x,D,A⟩:=o.hmd;rw[m]at h;cases h;have j:∀{b:Xp}{q:Xw V},H b=some (.lst q)->b≠a:=λe z=>by rw[z,m]at e;cases e
 have n:Tk H (upd H a<|.dK<|putK XD (Sum.inr "sights")<|.ref s'):=λb q e=>by
  rw[cG λz=>by rw[z,m]at e;cases e];exact e
 refine⟨⟨_,cE,?_,?_,?_,?_,?_⟩,by rw[cG<|j o.hp];exact o.hp,by rw[cG<|j r];exact r,by rw[cG<|j o.ht];exact o.ht,by rw[cG<|j o.hy];exact o.hy,l,o.lt,o.ly,λv f=>(g v f).mono n,λv f=>(o.gt v f).mono n,λv f=>(o.gy v f).mono n⟩
 ·unfold putK
  split
  ·rw[QM]
   exact C
  ·rename_i z
   rw[gC,x]at z;exact absurd rfl z
 ·rw[cP,QO<|Cy<|by decide+kernel]
  exact B
 ·rw[cP,QR rfl]
 ·rw[cP,QO<|Cy<|by decide+kernel]
  exact D
 ·rw[cP,QO<|Cy<|by decide+kernel]
  exact A
def i5.Pt{ps:Xw Xx}{H:Hp}{f p s t y t':Xp}{ss D ys a:Xw V}{XD:Xw (Key×V)}(o:i5 ps H f p s t y ss D ys)(m:H f=some (.dK XD))(q:H t'=some (.lst a))(l:a.length<=64)(g:∀v∈a,eT ps H v):i5 ps (upd H f<|.dK<|putK XD (Sum.inr "talks")<|.ref t') f p s t' y ss a ys:=by
 obtain⟨E,h,B,A,w,C,x⟩:=o.hmd;rw[m]at h;cases h;have j:∀{b:Xp}{r:Xw V},H b=some (.lst r)->b≠f:=λe z=>by rw[z,m]at e;cases e
 have n:Tk H (upd H f<|.dK<|putK XD (Sum.inr "talks")<|.ref t'):=λb r e=>by
  rw[cG λz=>by rw[z,m]at e;cases e];exact e
 refine⟨⟨_,cE,?_,?_,?_,?_,?_⟩,by rw[cG<|j o.hp];exact o.hp,by rw[cG<|j o.hs];exact o.hs,by rw[cG<|j q];exact q,by rw[cG<|j o.hy];exact o.hy,o.ls,l,o.ly,λv i=>(o.gs v i).mono n,λv i=>(g v i).mono n,λv i=>(o.gy v i).mono n⟩
 ·unfold putK
  split
  ·rw[QM]
   exact B
  ·rename_i z
   rw[gC,C]at z;exact absurd rfl z
 ·rw[cP,QO<|Cy<|by decide+kernel]
  exact A
 ·rw[cP,QO<|Cy<|by decide+kernel]
  exact w
 ·rw[cP,QR rfl]
 ·rw[cP,QO<|Cy<|by decide+kernel]
  exact x
def uq:dX "word" =true:=by decide+kernel
inductive NZ(sc nl f S g Y:Xp)(hd U:Int)(n:Hp)(ps:Xw Xx)(i:Nat)(σ:St)(H':Hp):Prop
 |mk(ss h ys:Xw V)(j p l r m q a:Xu V)(e:σ=[some (.ref sc),some (.int hd),some (.ref nl),some (.int U),some (.ref f),j,p,l,r,m,q,a,none,none])(s:∀b o,n b=some o->b≠S->b≠g->b≠Y->H' b=some o)(ok:i5 ps H' f nl S g Y ss h ys)(lt:h.length<=i)(v:ys.length<=50)
inductive M6(K:Frag)(vs:Xw V)(H:Hp)(Q:VK):Prop
 |mk(sc:Xp)(ns:Xw Int)(e:vs=[.ref sc])(h:cN K H sc (ns.map V.int))(f:ns.length<=63)
   (k:∀(a p s t y:Xp)(ps:Xw Xx)(ss g ys:Xw V)(H':Hp),cH H H'->H a=none->fP ps->2<=ps.length->i5 ps H' a p s t y ss g ys->Q (.ref a) H')
def Es(K:Frag):Sp:=λa H Q _=>M6 K a H Q
def Bz:cK ["_law_script","_law_header","_law_names_here","_law_unit","_law_made_here","_law_k","_law_cell","_law_at","_law_one","_law_rest","_law_other","_law_hour","_law_two","_law_more"] ["_law_script"] (cI pj):={}
def sq{t u:TS}{D:Ends}{σ:L2.St}{H:Hp}(h:∀c:Ends,(∀σ H,u D σ H->c.nx σ H)->t c σ H):Bm t u D σ H:=h _ λ_ _ h=>h
def Ie (D:Df K mg "_law_made" pj ["_law_script"] f fd) (T:Txt K mg kw C) (fp:Gd P w K mg base 1 "_law_cell_at" (xN K)) (YR:Gd P w K mg base 1 "_law_mix" rH) (fv:Gd P w K mg base 2 "_law_names" v9) (f0:Gd P w K mg base 2 "_law_saying" Dl):Gd P w K mg base 3 "_law_made" (Es K):=by
 refine aG D Bz λX H vs Q E y h=>?_;obtain⟨sc,ns,rfl,bn,gp,k⟩:=h;have cl:=y.c fp;have fa:=y.c YR;have hu:=dZ y.room;obtain⟨S0,S1,S2,S3,S4,S5,S6,S7,S8,S9,c3,cr,ep,en,_⟩:=y.fc [0,1,2,3,4,5,6,7,8,9,10,11,12,13];have am:=y.b T.b_len;obtain rfl:=y.fK;have XO:sizeLine=16777216:=Rh;refine⟨_,(af (au S1 y.nd<|ak fa<|aB (ak cl<|aB (aa S0) ae) ae)
 (af (au S2 y.nd<|ak (y.c fv)<|aB (ak cl<|aB (aa S0) ae)<|aD bA ae<|aD aX (aa S1) ae)
 (af (au S3 y.nd<|ai aU (a5<|aB ae<|aD bA ae<|aD aX (ak cl<|aB (aa S0) ae)<|aD J.nG ae ae) (aD aX (aD bJ (aa S1) ae) ae) bP)
 (af (au S4 y.nd<|J.N6 ao (aa S2) ao (a5 bz) ao (a5 bz) ao<|a5 bz)
 (af (aZ y.own y.calm (J.mR (y.b T.b_range)<|aB ae<|aJ (y.b T.b_min) (J.gr y.calm) uH<|aB (aJ am aY dh<|aj<|aa S0) ae) (aN S5 y.nd)
 (af (au S6 y.nd<|ak fa<|aB (ai aU (aa S0) (aa S5) aR)<|aa S5)
 (af (au S7 y.nd<|aD aX (aD bJ (aa S6) ae)<|aJ am aY dh<|aj<|aa S2)
 (af (au S8 y.nd<|ai aU (aa S2) (aa S7) aR)
 (af (au S9 y.nd<|aD cA (bT cw (aa S2) (bV<|aD bA (aa S7) ae) bX)<|bT cw (aa S2) bX<|bV<|aa S7)
 (af (au c3 y.nd<|ai aU (aa S9) (aD aX (aD bJ (aa S6) ae)<|aJ am aY dh<|aj<|aa S9) bP)
 (af (au cr y.nd<|aD bI (aa S3)<|aD aX (aD bJ (aa S6) ae) ae)
 (ag (aH (a7<|bg (aF aO (aD aX (aa S6) ae) ae<|cL _)<|bq<|aF bW (aJ am aY dh<|aj<|aK hu (aa S4) ao ah) ae<|cL _)
 (ag<|br<|bw RZ RA RE bF (aK hu (aa S4) ao ah)<|aj<|aL<|aP (aa S8) (aa cr)<|aL<|aj ao)
 (ag (aH (a7<|bg (aF aO (aD aX (aa S6) ae) ae<|cL _)<|bq<|aF bW (aJ am aY dh<|aj<|aK hu (aa S4) ao ah) ae<|cL _)
 (ag<|br<|bw RZ RA RE bF (aK hu (aa S4) ao ah)<|aj<|ak (y.c f0)<|bQ (aa S6) (aa S8) (aa c3)<|aa S3)
 (ag<|br<|bw RZ RA RE bF (aK hu (aa S4) ao ah)<|aj<|aL<|bQ (aa cr) (aa S8) (aa c3)<|ai aU (a5<|aB ao ao) (aD aX (aD bJ (aa S6) ae) ae) bP))))))))))))
 (af (aH (aF (J.uK hu) (aK hu (aa S4) ao ah) (a5 bz)<|cL _)
 (ag<|br<|bw RZ RA RE bF (aK hu (aa S4) ao ah)<|aj<|aL<|aP (ai aU (aa S2) ae ah) ae<|aL<|aj ao)
 aI)
 (af (aH (a7<|bg (aF aO (aD aX (aD bJ (aa S1) ae) ae) ae<|cL _)<|bq<|aF bR (aJ am aY dh<|aj<|aa S2) ae<|cL _)
 (af (au ep y.nd<|a5<|aB (aL<|aP (ai aU (aa S2) ae ah) ae<|aL<|aj ao)<|aL<|aP (ai aU (aa S2) ae ah) ae<|aL<|aj ao)
 (af (bN hu (aa S4) ao<|aD cA (aa ep)<|bB (is:=[2]) (xs:=["_law_one"]) (ns:=["_law_names_here"]) y.calm (aQ<|bT cw (aK hu (aa S4) ao ah) bX<|bV ae) {} (λ_ _ _ _ _=>a6 (i:=0)) (λ_ _ _ _ _=>bC<|aF b9 (ai bp (aM (i:=0)) ae ah) (ai cD (aS (i:=1)) ae ah)<|cL _) (λ_ _ _ _ _=>aM (i:=0)) y.hsc y.hN)
 (af (au en y.nd<|a5<|aB (aL<|bQ (aa S3) (ai aU (aa S2) ae ah) (ai aU (aa S2) ae ah) ao)<|aL<|bQ (aD bI ae<|aa S3) (ai aU (aa S2) ae ah) (ai aU (aa S2) ae ah) ao)
 (ag<|bN hu (aa S4) ao<|aD cA (aD cA (aa en)<|a5<|aj<|aL<|bQ (aD bI ae<|aa S3) (ai aU (aa S2) ae ah) (ai aU (aa S2) ae ah) ao)<|aK hu (aa S4) ao ah))))
 aI)
 (ag<|aw<|aa S4)))))))),?_⟩
 have bf:(10:Int)^Int.toNat 15=1000000000000000:=by decide+kernel
 refine sq λzc O=>⟨_,rfl,sc,ns,0,rfl,bn,by decide,λc0=>⟨c0,_,rfl,by decide,by decide,λhd ge gi=>O _ _ ?_⟩⟩;have h6:=cY hd (m:=6) (by decide);refine sq λzc O=>⟨_,rfl,sc,ns,0,rfl,bn,by decide,λc1=>⟨_,rfl,_,_,rfl,rfl,by show(0:Int)<6;decide,_,_,rfl,rfl,c1,_,rfl,by lia,by lia,λF ps H1 s1 gm f5 po pl=>O _ _ ?_⟩⟩;have db:2<=ps.length:=by lia
 have dn:=s1.seq bn;refine sq λzc O=>⟨_,rfl,sc,ns,1,rfl,dn,by decide,λc2=>⟨_,_,rfl,rfl,⟨by decide,by decide,by decide⟩,_,_,rfl,rfl,by rw[bf];decide,_,_,rfl,rfl,tf,λL ei=>?_⟩⟩;have f2:=cY c2 (m:=10^Int.toNat 15) (by rw[bf];decide);rw[bf]at f2;have h2:=cY (hd / 6) (m:=2) (by decide);obtain⟨bv,hb,ea⟩:=rJ (xs:=[V.int 1,V.int<|1+c2%10^Int.toNat 15]) (i:=hd / 6%2) h2.1 h2.2;have f3:∃U:Int,bv=.int U/\0<=U/\U<=1000000000000000:=by
  simp only[mem_cons,not_mem_nil,or_false]at ea;obtain rfl|rfl:=ea
  ·exact⟨_,rfl,by decide,by decide⟩
  ·rw[bf]
   exact⟨_,rfl,by lia,by lia⟩
 obtain⟨U,rfl,U0,U1⟩:=f3;have s2:=s1.trans<|cH.upd (o:=.lst [V.int 1,V.int<|1+c2%10^Int.toNat 15]) ei;have ab:=cH.upd (o:=.lst [V.int 1,V.int<|1+c2%10^Int.toNat 15]) ei _ _ f5;refine⟨_,rfl,_,_,rfl,rfl,⟨by decide,by decide⟩,_,_,rfl,rfl,by show(0:Int)<2;decide,xL cE hb<|O _ _ ?_⟩;generalize upd H1 L (.lst [V.int 1,V.int<|1+c2%10^Int.toNat 15])=H2 at s2 ab;refine sq λzc O p an=>?_;refine⟨_,rfl,Hi,λS nS=>⟨Hi,λs nT=>⟨Hi,λY nY=>?_⟩⟩⟩;have Z:=cH.upd (o:=.dK []) an;have sS:=cH.upd (o:=.lst []) nS;have sT:=cH.upd (o:=.lst []) nT;have sY:=cH.upd (o:=.lst []) nY;have ac:=sY _ _<|sT _ _<|sS _ _<|show upd H2 p (.dK []) p=some (.dK []) from cE;have ca:=sY _ _<|sT _ _<|show upd (upd H2 p<|.dK []) S (.lst []) S=some (.lst []) from cE;have cc:=sY _ _<|show upd (upd (upd H2 p<|.dK []) S<|.lst []) s (.lst []) s=some (.lst []) from cE;have bc:upd (upd (upd (upd H2 p<|.dK []) S<|.lst []) s<|.lst []) Y (.lst []) Y=some (.lst []):=cE;have ek:=((Z.trans sS).trans sT).trans sY;have fS:H2 S=none:=Z.free nS;have fT:H2 s=none:=(Z.trans sS).free nT;have fY:H2 Y=none:=((Z.trans sS).trans sT).free nY;refine⟨ac,[(Sum.inr "persons",.ref F),(Sum.inr "sights",.ref S),(Sum.inr "talks",.ref s),(Sum.inr "sayings",.ref Y)],rfl,by show 4<=15;decide,O _ _ ?_⟩;generalize upd (upd (upd (upd H2 p<|.dK []) S<|.lst []) s<|.lst []) Y (.lst [])=H4 at ac ca cc bc ek;have eo:S≠p:=λe=>by rw[e,ac]at ca;cases ca
 have ey:s≠p:=λe=>by rw[e,ac]at cc;cases cc
 have fi:Y≠p:=λe=>by rw[e,ac]at bc;cases bc
 have c7:S≠s:=cF (show upd (upd H2 p<|.dK []) S (.lst []) S=some (.lst []) from cE) nT;have cm:S≠Y:=cF (sT _ _<|show upd (upd H2 p<|.dK []) S (.lst []) S=some (.lst []) from cE) nY;have eq:s≠Y:=cF (show upd (upd (upd H2 p<|.dK []) S<|.lst []) s (.lst []) s=some (.lst []) from cE) nY;have bi:cH H2 (upd H4 p<|.dK<|fF [] [(Sum.inr "persons",.ref F),(Sum.inr "sights",.ref S),(Sum.inr "talks",.ref s),(Sum.inr "sayings",.ref Y)]):=λb o e=>by
  rw[cG<|cF e an];exact ek _ _ e
 have ew:i5 ps (upd H4 p<|.dK<|fF [] [(Sum.inr "persons",.ref F),(Sum.inr "sights",.ref S),(Sum.inr "talks",.ref s),(Sum.inr "sayings",.ref Y)]) p F S s Y [] [] []:=
  ⟨⟨_,cE,Rn (hV _ _)<|by show 0+4<=8;decide,Gp F S s Y,Gi F S s Y,FZ F S s Y,Gb F S s Y⟩,bi _ _ ab,by rw[cG eo];exact ca,by rw[cG ey];exact cc,by rw[cG fi];exact bc,by decide,by decide,by decide,(λv B=>by cases B),(λv B=>by cases B),λv B=>by cases B⟩
 generalize upd H4 p (.dK<|fF [] [(Sum.inr "persons",V.ref F),(Sum.inr "sights",.ref S),(Sum.inr "talks",.ref s),(Sum.inr "sayings",.ref Y)])=H5 at bi ew;have keep:∀{b:Xp}{o:HO}{H6:Hp},(∀b o,H5 b=some o->b≠S->b≠s->b≠Y->H6 b=some o)->H2 b=some o->H6 b=some o:=λkp e=>kp _ _ (bi _ _ e) (cF e fS) (cF e fT)<|cF e fY;have cf:(p≠S/\p≠s/\p≠Y):=⟨eo.symm,ey.symm,fi.symm⟩;have ad:(F≠S/\F≠s/\F≠Y):=⟨cF ab fS,cF ab fT,cF ab fY⟩;have dx:∀{H6:Hp},cH H H6->cN X.K H6 sc (ns.map V.int):=λs'=>s'.seq bn;have f9:=s2.trans bi;have eb:∀{H6:Hp},(∀b o,H5 b=some o->b≠S->b≠s->b≠Y->H6 b=some o)->cH H H6:=λkp b o e=>keep kp<|s2 _ _ e;have fz:(10:Int)^Int.toNat 18=1000000000000000000:=by decide+kernel
 have aq:∀{i:Int},0<=i->i<=200000000000000000->du i:=λa b=>⟨a,by rw[fz];lia⟩;have fn:(ns.map V.int).length=ns.length:=QM ..;have co:(ps.map V.str).length=ps.length:=QM ..;have jl:(if(63:Int)<((ns.map V.int).length:Int) then 63 else((ns.map V.int).length:Int))=(ns.length:Int):=by
  rw[fn];split<;>lia
 refine sq λzc O=>⟨_,rfl,sc,_,rfl,.inl<|dx f9,_,_,rfl,2,(ns.length:Int),by rw[jl],⟨by decide,by decide,by lia,by lia⟩,mJ (lo:=2) (n:=((ns.length:Int)-2).toNat) (NZ sc F p S s Y hd U H5 ps) ⟨[],[],[],none,none,none,none,none,none,none,rfl,λb o e _ _ _=>e,ew,QP 0,by decide⟩ ?_ ?_⟩
 ·rintro i σ H6 hi ⟨ss,ts,ys,e5,e6,e7,e8,e9,XW,e4,rfl,kp,ok,lt,ly⟩
  have dr:=dx<|eb kp;have hk:(i+2)<ns.length:=by lia
  have av:qR (ns.map V.int) ((2:Int)+(i:Int))=some (.int ns[i+2]):=by
   rw[show(2:Int)+(i:Int)=((i+2:Nat):Int) by lia];exact dj (by rw[QY,QJ hk];rfl)
  refine sq λzc O=>⟨_,rfl,_,rfl,sc,_,_,_,rfl,rfl,dr,av,_,rfl,_,_,rfl,by lia,by lia,λN n0 n1=>O _ _ ?_⟩;have om:=cY (N / 8) (m:=(ps.length:Int)) (by lia);refine sq λzc O=>⟨_,rfl,_,_,rfl,rfl,⟨by decide,by decide⟩,_,rfl,F,_,rfl,.inl<|cN.of ok.hp,_,_,rfl,rfl,by rw[co];lia,O _ _ ?_⟩;rw[co];generalize N / 8%(ps.length:Int)=A at om;have aA:((A.toNat:Nat):Int)=A:=Sq om.1;obtain⟨I,al⟩:∃z,ps[A.toNat]? =some z:=⟨_,QJ<|by lia⟩;have a4:qR (ps.map V.str) A=some (.str I):=by
   rw[<-aA];exact dj (by rw[QY,al];rfl)
  obtain⟨rs,et,gg,gv,fr⟩:=Io po.nd db al;rw[aA]at et;refine sq λzc O=>⟨_,rfl,_,rfl,xL ok.hp a4<|O _ _ ?_⟩;have ch:=λlo hi=>jA (ps.map V.str) lo hi;have gk:=po.hi;refine sq λzc O=>⟨_,rfl,_,rfl,_,_,rfl,rfl,_,rfl,F,_,rfl,cN.of ok.hp,λx1 y1=>⟨_,rfl,_,rfl,_,rfl,F,_,rfl,cN.of<|cH.upd y1 _ _ ok.hp,λx2 y2=>⟨x1,x2,_,_,rfl,rfl,cN.of<|cH.upd y2 _ _ cE,cN.of cE,by have:=ch (some<|A+1) none;have:=ch none<|some A;rw[co]at *;lia,λx3 y3=>O _ _ ?_⟩⟩⟩;have dg:cH H6 (upd (upd (upd H6 x1<|.lst<|d4 (ps.map V.str) (some<|A+1) none) x2<|.lst<|d4 (ps.map V.str) none<|some A) x3<|.lst<|d4 (ps.map V.str) (some<|A+1) none++d4 (ps.map V.str) none (some A)):=((cH.upd y1).trans<|cH.upd y2).trans<|cH.upd y3;have dd:upd (upd (upd H6 x1<|.lst<|d4 (ps.map V.str) (some<|A+1) none) x2<|.lst<|d4 (ps.map V.str) none<|some A) x3 (.lst<|d4 (ps.map V.str) (some<|A+1) none++d4 (ps.map V.str) none (some A)) x3=some (.lst<|rs.map V.str):=by
   rw[<-et];exact cE
  generalize upd (upd (upd H6 x1<|.lst<|d4 (ps.map V.str) (some<|A+1) none) x2<|.lst<|d4 (ps.map V.str) none<|some A) x3 (.lst<|d4 (ps.map V.str) (some<|A+1) none++d4 (ps.map V.str) none (some A))=H7 at dg dd;have fj:(rs.map V.str).length=rs.length:=QM ..;have rm:=cY (N / 64) (m:=(rs.length:Int)) (by lia);obtain⟨z2,ar,be⟩:=zY rm.1 rm.2;obtain⟨el,eu⟩:=fr z2 be;have da:I∈ps:=QN al;refine sq λzc O=>⟨_,rfl,_,rfl,_,_,rfl,rfl,⟨by decide,by decide⟩,_,rfl,x3,_,rfl,.inl<|cN.of dd,_,_,rfl,rfl,by rw[fj];lia,xL dd (by rw[fj];exact ar)<|O _ _ ?_⟩;have hm:=cY (N / 1009) (m:=36) (by decide);have d0:=y4 U0 U1 hm.1 (by lia);refine sq λzc O=>⟨_,rfl,_,rfl,_,_,rfl,rfl,⟨by decide,by decide⟩,_,_,rfl,rfl,by show(0:Int)<36;decide,_,_,rfl,rfl,.inl ⟨by lia,by lia⟩,O _ _ ?_⟩;generalize U*(N / 1009%36)=hr at d0;have kH:du hr:=aq d0.1 (by lia);have l:=ok.mono dg;have cn:∀b o,H5 b=some o->b≠S->b≠s->b≠Y->H7 b=some o:=λb o e n1 n2 n3=>dg _ _<|kp b o e n1 n2 n3;have ds:=l.ds;have dt:=l.dt;have dy:=l.dy;refine both (G:=_) ?_ λother=>⟨_,rfl,_,_,rfl,rfl,by show(0:Int)<8;decide,rfl,_,rfl,dD (λ_=>⟨_,rfl,p,_,rfl,ds,S,_,rfl,.inl<|cN.of l.hs,_,_,rfl,rfl,_,rfl,dD (λf1=>?_) λ_=>other⟩) λ_=>dG other⟩
  ·refine both (G:=_) ?_ λbb=>⟨_,rfl,_,_,rfl,rfl,by show(0:Int)<8;decide,rfl,_,rfl,dD (λ_=>⟨_,rfl,p,_,rfl,dy,Y,_,rfl,.inl<|cN.of l.hy,_,_,rfl,rfl,_,rfl,dD (λf8=>?_) λ_=>bb⟩) λ_=>dG bb⟩
   ·obtain⟨wv,hw,ev⟩:=rJ (xs:=[V.str "both",V.str "one"]) (i:=N / 512%2) (cY _<|by decide).1 (cY (N / 512) (m:=2)<|by decide).2
    have dc:∃wy:Xx,wv=.str wy/\(wy= "both" \/wy= "one"):=by
     simp only[mem_cons,not_mem_nil,or_false]at ev;obtain rfl|rfl:=ev
     ·exact⟨_,rfl,.inl rfl⟩
     ·exact⟨_,rfl,.inr rfl⟩
    obtain⟨wy,rfl,dc⟩:=dc;refine⟨_,rfl,p,_,rfl,dt,.inl ⟨rfl,_,cN.of l.ht⟩,_,rfl,_,rfl,_,rfl,tf,λW d3=>⟨_,rfl,_,_,rfl,rfl,⟨by decide,by decide⟩,_,_,rfl,rfl,by show(0:Int)<2;decide,xL cE hw ⟨MR,λtp M=>?_⟩⟩⟩;have s8:=(cH.upd (o:=.lst [V.str "both",V.str "one"]) d3).trans<|cH.upd (o:=.tup [.int hr,.str I,.str z2,.str wy]) M;have g:=l.mono s8;have ay:tp≠s:=(cF (cH.upd (o:=.lst [V.str "both",V.str "one"]) d3 _ _ l.ht) M).symm;refine⟨s,ts,.ref tp,rfl,rfl,g.ht,by lia,?_⟩;refine⟨ss,ts++[.ref tp],ys,_,_,_,_,_,_,_,rfl,λb o e n1 n2 n3=>by rw[cG n2];exact s8 _ _<|cn b o e n1 n2 n3,g.O7 ⟨cf.2.1,ad.2.1,c7,eq.symm⟩ (by lia) ⟨tp,hr,I,z2,wy,rfl,by rw[cG ay];exact cE,kH,da,el,λe=>eu e.symm,dc⟩,by rw[QK];show ts.length+1<=i+1;lia,ly⟩
   ·rw[Rz]at f8
    refine⟨_,rfl,p,_,rfl,dy,.inl ⟨rfl,_,cN.of l.hy⟩,_,rfl,_,rfl,_,rfl,_,rfl,N,U,I,z2,ps,rfl,U0,U1,da,el,λe=>eu e.symm,λv d H8 s8 sd sk=>?_⟩;have g:=l.mono s8;refine⟨Y,ys,v,rfl,rfl,g.hy,by lia,?_⟩;have si:=(J9 sd sk).mono<|Tk.upd g.hy (ys:=ys++[v]);refine⟨ss,ts,ys++[v],_,_,_,_,_,_,_,rfl,λb o e n1 n2 n3=>by rw[cG n3];exact s8 _ _<|cn b o e n1 n2 n3,g.OW ⟨cf.2.2,ad.2.2,cm,eq⟩ (by lia) si,by lia,by rw[QK];show ys.length+1<=50;lia⟩
  ·rw[Rz]at f1
   refine⟨_,rfl,p,_,rfl,ds,.inl ⟨rfl,_,cN.of l.hs⟩,_,rfl,_,rfl,L7,λta as=>⟨uB,λtp M=>?_⟩⟩;have sa:=cH.upd (o:=.tup [.str "word"]) as;have s8:=sa.trans<|cH.upd (o:=.tup [.str I,.int hr,.ref ta]) M;have g:=l.mono s8;have ay:tp≠S:=(cF (sa _ _ l.hs) M).symm;have de:ta≠S:=(cF l.hs as).symm;refine⟨S,ss,.ref tp,rfl,rfl,g.hs,by lia,?_⟩;refine⟨ss++[.ref tp],ts,ys,_,_,_,_,_,_,_,rfl,λb o e n1 n2 n3=>by rw[cG n1];exact s8 _ _<|cn b o e n1 n2 n3,g.Ms ⟨cf.1,ad.1,c7.symm,cm.symm⟩ (by lia) ⟨tp,I,hr,ta,["word"],rfl,by rw[cG ay];exact cE,da,kH,by rw[cG de];exact cH.upd M _ _ cE,by decide,by decide,λx hx=>by rw[QQ]at hx;rw[hx];exact uq⟩,by lia,ly⟩
 ·rintro σ H6 ⟨ss,ts,ys,e5,e6,e7,e8,e9,XW,e4,rfl,kp,ok,lt,ly⟩
  refine O _ _ ?_;have gu:∀{X6:Xw V}{H8:Hp},cH H H8->i5 ps H8 p F S s Y X6 ts ys->Q (.ref p) H8:=λs8 g=>k p F S s Y ps _ ts ys _ s8 (s2.free an) po db g;have s6:=eb kp;have ds:=ok.ds;refine kB (λed H'=>∃(X6:Xw V),ed=[some<|.ref sc,some<|.int hd,some<|.ref F,some<|.int U,some<|.ref p,e5,e6,e7,e8,e9,XW,e4,none,none]/\cH H H'/\i5 ps H' p F S s Y X6 ts ys) ?_ ss.isEmpty (λQ' q'=>?_) (λem H7 s7 hR=>?_) λ_ H7 s7=>?_
  ·rintro ed H8 ⟨X6,rfl,s8,g⟩
   have ret:∀{e3:St}{H9:Hp}{S' T':Xp}{f4 fy:Xw V},e3[4]? =some (some<|.ref p)->cH H H9->i5 ps H9 p F S' T' Y f4 fy ys->GH (jd 4) { nx:=λ_ H'=>Q .non H',rt:=Q } e3 H9:=λh s9 ft=>⟨_,h,k p F _ _ Y ps _ _ ys _ s9 (s2.free an) po db ft⟩;refine⟨_,rfl,_,_,rfl,rfl,⟨by decide,by decide⟩,_,_,rfl,rfl,by show(0:Int)<3;decide,rfl,_,rfl,dD (λ_=>⟨_,rfl,F,_,rfl,.inl<|cN.of g.hp,_,_,rfl,rfl,_,rfl,dD (λh3=>?_) λ_=>ret rfl s8 g⟩) λ_=>dG<|ret rfl s8 g⟩;have gn:3<=ps.length:=by
    rw[Rz,QM]at h3;lia
   clear h3;obtain⟨z0,cd⟩:∃z,ps[0]? =some z:=⟨_,QJ<|by lia⟩;obtain⟨I,al⟩:∃z,ps[1]? =some z:=⟨_,QJ<|by lia⟩;obtain⟨z2,b0⟩:∃z,ps[2]? =some z:=⟨_,QJ<|by lia⟩;have un:∀{i j:Nat}{a b:Xx},ps[i]? =some a->ps[j]? =some b->i≠j->a≠b:=λh1 h2 n e=>by
    obtain⟨q1,q2⟩:=gI0.mp h1;obtain⟨q3,q4⟩:=gI0.mp h2;exact n ((TZ po.nd).mp<|by rw[q2,q4,e])
   have az:∀{i:Nat}{z:Xx},ps[i]? =some z->qR (ps.map V.str) (i:Int)=some (.str z):=λh=>dj (by rw[QY,h];rfl);have a3:qR (ps.map V.str) 0=some (.str z0):=az cd;have a4:qR (ps.map V.str) 1=some (.str I):=az al;have ar:qR (ps.map V.str) 2=some (.str z2):=az b0;have a0:=QN cd;have dl:=QN al;have be:=QN b0;have ez:∀x∈[("word" :Xx)],dX x=true:=λx hx=>by rw[QQ]at hx;rw[hx];exact uq
   refine⟨_,rfl,xL g.hp a3 ⟨L7,λa1 n1=>⟨uB,λt1 m1=>?_⟩⟩⟩;have Z:=cH.upd (o:=.tup [.str "word"]) n1;have q:=cH.upd (o:=.tup [.str z0,.int 0,.ref a1]) m1;have g1:dP ps (upd (upd H8 a1<|.tup [.str "word"]) t1<|.tup [.str z0,.int 0,.ref a1]) (.ref t1):=⟨t1,z0,0,a1,["word"],rfl,cE,a0,aq (by decide)<|by decide,q _ _ cE,by decide,by decide,ez⟩;have s9:=Z.trans q;generalize upd (upd H8 a1<|.tup [.str "word"]) t1 (.tup [.str z0,.int 0,.ref a1])=H9 at s9 g1;clear Z q n1 m1;refine⟨_,rfl,xL (s9 _ _ g.hp) a4 ⟨L7,λa2 n2=>⟨uB,λt2 m2=>⟨tf,λtw es=>?_⟩⟩⟩⟩;have Z:=cH.upd (o:=.tup [.str "word"]) n2;have q:=cH.upd (o:=.tup [.str I,.int 0,.ref a2]) m2;have sC:=cH.upd (o:=.lst [.ref t1,.ref t2]) es;have g2:dP ps (upd (upd H9 a2<|.tup [.str "word"]) t2<|.tup [.str I,.int 0,.ref a2]) (.ref t2):=⟨t2,I,0,a2,["word"],rfl,cE,dl,aq (by decide)<|by decide,q _ _ cE,by decide,by decide,ez⟩;have g2:=g2.mono<|Tk.of sC;have g1:=g1.mono<|Tk.of<|(Z.trans q).trans sC;have dk:upd (upd (upd H9 a2<|.tup [.str "word"]) t2<|.tup [.str I,.int 0,.ref a2]) tw (.lst [.ref t1,.ref t2]) tw=some (.lst [.ref t1,.ref t2]):=cE;have sX:=s9.trans<|(Z.trans q).trans sC;generalize upd (upd (upd H9 a2<|.tup [.str "word"]) t2<|.tup [.str I,.int 0,.ref a2]) tw (.lst [.ref t1,.ref t2])=HX at sX g1 g2 dk;clear Z q sC n2 m2 es s9;have ck:=g.mono sX;have ec:d4 X6 none (some 20)=X6.take 20:=by
    unfold d4;have e1:HT.ik X6.length X6.length (some 20)=min 20 X6.length:=HT.lT _ _ 20;rw[e1,show HT.ik X6.length 0 none=0 from rfl,WW,Uj,List.take_eq_take_iff];lia
   refine⟨_,rfl,_,rfl,p,_,rfl,ck.ds,_,rfl,S,_,rfl,cN.of ck.hs,λsl dm=>?_⟩;rw[ec];have Z:=sX.trans<|cH.upd (o:=.lst<|X6.take 20) dm;have sY:=cH.upd (o:=.lst<|X6.take 20) dm;have ce:upd HX sl (.lst<|X6.take 20) sl=some (.lst<|X6.take 20):=cE;generalize upd HX sl (.lst<|X6.take 20)=HY at Z sY ce;have bx:=ck.mono sY;have ga:(X6.take 20).length<=20:=Vt _ _;refine⟨sl,rfl,⟨_,cN.of ce⟩,DX (cN.of ce) (by lia) ?_ ?_⟩
   ·intro i v H9 K1 K2 B s9 k1 k2
    obtain⟨a,z,h,ta,ws,rfl,ha,_⟩:=bx.gs v<|SR<|QN B;exact⟨_,rfl,xT (s9 _ _ ha) rfl ⟨_,rfl,xL (s9 _ _ bx.hp) ar ⟨rfl,_,rfl,dD (λ_=>⟨_,rfl,k1 _<|cH.refl _⟩) λ_=>k2 _<|cH.refl _⟩⟩⟩
   intro lc yl H9 fw s9 e2 gc f7;have cx:=bx.mono s9;have gZ:∀v∈[V.ref t1,V.ref t2]++yl,dP ps H9 v:=λv B=>by
    obtain B|B:=Ro.mp B
    ·obtain rfl|B:=Rq.mp B
     ·exact g1.mono<|Tk.of<|sY.trans s9
     ·rw[QQ.mp B]
      exact g2.mono<|Tk.of<|sY.trans s9
    ·exact cx.gs v<|SR<|f7 v B
   refine⟨tw,lc,_,_,rfl,rfl,cN.of<|(sY.trans s9) _ _ dk,cN.of e2,by show 2+yl.length<=sizeLine;lia,λs' eh=>?_⟩;have sW:=cH.upd (o:=.lst<|[V.ref t1,V.ref t2]++yl) eh;have cs:upd H9 s' (.lst<|[V.ref t1,V.ref t2]++yl) s'=some (.lst<|[V.ref t1,V.ref t2]++yl):=cE;have c5:=(s8.trans Z).trans<|s9.trans sW;have gW:∀v∈[V.ref t1,V.ref t2]++yl,dP ps (upd H9 s'<|.lst<|[V.ref t1,V.ref t2]++yl) v:=λv B=>(gZ v B).mono<|Tk.of sW;have cg:=cx.mono sW;generalize upd H9 s' (.lst<|[V.ref t1,V.ref t2]++yl)=HW at c5 cs gW cg;clear sW gZ cx eh e2 s9 fw bx ce dm Z sY ck dk g1 g2 sX g s8;obtain⟨XD,hk,ej,_⟩:=id cg.hmd;have ax:=cg.O0 hk cs (by rw[QK];show 2+yl.length<=24;lia) gW;have ex:cH H (upd HW p<|.dK<|putK XD (Sum.inr "sights")<|.ref s'):=λb o e=>by
    rw[cG<|cF e<|s2.free an];exact c5 _ _ e
   refine⟨_,rfl,p,_,rfl,j8.k (k:=Sum.inr "sights") hk<|by lia,?_⟩;generalize upd HW p (.dK<|putK XD (Sum.inr "sights")<|.ref s')=HV at ax ex;clear gW cs hk cg c5 ej;generalize [V.ref t1,V.ref t2]++yl=go at ax;have uh:∀m:Int,0<=m->m<=38->du (m*U):=λm m0 m1=>by
    have a1:0<=m*U:=Int.mul_nonneg m0 U0;have a2:m*U<=38*1000000000000000:=Int.mul_le_mul m1 U1 U0 (by decide);exact aq a1 (by lia)
   have uo:du U:=aq U0 (by lia);refine⟨_,rfl,_,rfl,xL ax.hp a3 ⟨_,rfl,xL ax.hp a4 ⟨MR,λL n1=>?_⟩⟩⟩;have Z:=cH.upd (o:=.tup [.int U,.str z0,.str I,.str "both"]) n1;have q1:eT ps (upd HV L<|.tup [.int U,.str z0,.str I,.str "both"]) (.ref L):=⟨L,U,z0,I,"both",rfl,cE,uo,a0,dl,un cd al<|by decide,.inl rfl⟩;generalize upd HV L (.tup [.int U,.str z0,.str I,.str "both"])=HA at Z q1;have b4:=ax.mono Z;refine⟨_,rfl,_,_,rfl,rfl,.inl ⟨by decide,by lia⟩,_,rfl,xL b4.hp a3 ⟨_,rfl,xL b4.hp ar ⟨MR,λR n2=>⟨tf,λmo d2=>?_⟩⟩⟩⟩;have q:=cH.upd (o:=.tup [.int<|37*U,.str z0,.str z2,.str "one"]) n2;have sC:=cH.upd (o:=.lst [.ref L,.ref R]) d2;have q2:eT ps (upd HA R<|.tup [.int<|37*U,.str z0,.str z2,.str "one"]) (.ref R):=⟨R,_,z0,z2,"one",rfl,cE,uh 37 (by decide)<|by decide,a0,be,un cd b0<|by decide,.inr rfl⟩;have q2:=q2.mono<|Tk.of sC;have q1:=q1.mono<|Tk.of<|q.trans sC;have ap:upd (upd HA R<|.tup [.int<|37*U,.str z0,.str z2,.str "one"]) mo (.lst [.ref L,.ref R]) mo=some (.lst [.ref L,.ref R]):=cE;have sD:=Z.trans<|q.trans sC;have a9:=b4.mono<|q.trans sC;show eR 13 (.ref mo) _ (upd (upd HA R<|.tup [.int<|37*U,.str z0,.str z2,.str "one"]) mo<|.lst [.ref L,.ref R]) _;generalize upd (upd HA R<|.tup [.int<|37*U,.str z0,.str z2,.str "one"]) mo (.lst [.ref L,.ref R])=HB at q1 q2 ap sD a9;clear Z q sC b4 n1 n2 d2;refine⟨_,rfl,_,rfl,_,_,rfl,rfl,.inl ⟨by decide,by lia⟩,_,rfl,xL a9.hp a4 ⟨_,rfl,xL a9.hp ar ⟨MR,λW n3=>⟨L7,λl3 er=>?_⟩⟩⟩⟩;have q:=cH.upd (o:=.tup [.int<|38*U,.str I,.str z2,.str "one"]) n3;have sC:=cH.upd (o:=.lst [.ref W]) er;have q3:eT ps (upd HB W<|.tup [.int<|38*U,.str I,.str z2,.str "one"]) (.ref W):=⟨W,_,I,z2,"one",rfl,cE,uh 38 (by decide)<|by decide,dl,be,un al b0<|by decide,.inr rfl⟩;have q3:=q3.mono<|Tk.of sC;have q1:=q1.mono<|Tk.of<|q.trans sC;have q2:=q2.mono<|Tk.of<|q.trans sC;have cp:upd (upd HB W<|.tup [.int<|38*U,.str I,.str z2,.str "one"]) l3 (.lst [.ref W]) l3=some (.lst [.ref W]):=cE;have ap:=(q.trans sC) _ _ ap;have sE:=sD.trans<|q.trans sC;have ct:=a9.mono<|q.trans sC;generalize upd (upd HB W<|.tup [.int<|38*U,.str I,.str z2,.str "one"]) l3 (.lst [.ref W])=HC at q1 q2 q3 cp ap sE ct;clear q sC a9 n3 er sD;refine⟨mo,l3,_,_,rfl,rfl,cN.of ap,cN.of cp,uB,λc1 d1=>?_⟩;have q:=cH.upd (o:=.lst<|[V.ref L,V.ref R]++[V.ref W]) d1;have ef:upd HC c1 (.lst<|[V.ref L,V.ref R]++[V.ref W]) c1=some (.lst [V.ref L,V.ref R,V.ref W]):=cE;have q1:=q1.mono<|Tk.of q;have q2:=q2.mono<|Tk.of q;have q3:=q3.mono<|Tk.of q;have bd:=ct.mono q;have sF:=sE.trans q;generalize upd HC c1 (.lst<|[V.ref L,V.ref R]++[V.ref W])=HD at q1 q2 q3 ef bd sF;clear q d1 cp ap ct sE;refine⟨_,rfl,p,_,rfl,bd.dt,c1,s,_,_,rfl,rfl,cN.of ef,cN.of bd.ht,by show 3+ts.length<=sizeLine;lia,λt' f6=>?_⟩;have q:=cH.upd (o:=.lst<|[V.ref L,V.ref R,V.ref W]++ts) f6;have eg:upd HD t' (.lst<|[V.ref L,V.ref R,V.ref W]++ts) t'=some (.lst<|[V.ref L,V.ref R,V.ref W]++ts):=cE;have bm:=bd.mono q;have gE:∀v∈[V.ref L,V.ref R,V.ref W]++ts,eT ps (upd HD t'<|.lst<|[V.ref L,V.ref R,V.ref W]++ts) v:=λv B=>by
    obtain B|B:=Ro.mp B
    ·obtain rfl|B:=Rq.mp B
     ·exact q1.mono<|Tk.of q
     ·obtain rfl|B:=Rq.mp B
      ·exact q2.mono<|Tk.of q
      ·rw[QQ.mp B]
       exact q3.mono<|Tk.of q
    ·exact bm.gt v B
   have sG:=ex.trans<|sF.trans q;generalize upd HD t' (.lst<|[V.ref L,V.ref R,V.ref W]++ts)=HE at eg bm gE sG;obtain⟨XD,hk,ej,_⟩:=id bm.hmd;have fx:=bm.Pt hk eg (by rw[QK];show 3+ts.length<=64;lia) gE;refine⟨_,rfl,p,_,rfl,j8.k (k:=Sum.inr "talks") hk<|by lia,ret rfl (λb o e=>?_) fx⟩;rw[cG<|cF e<|s2.free an];exact sG _ _ e
  ·refine⟨_,rfl,p,_,rfl,ds,Hi,λe0 n0=>?_⟩
   have s7:=cH.upd (o:=.lst []) n0;cases ss with
   |nil=>exact .same S e0 [] [] [] rfl rfl (cN.of<|s7 _ _ ok.hs) (cN.of cE) rfl rfl (λi u v c hu=>by cases hu) ⟨_,rfl,q' _ s7⟩
   |cons v r=>exact .other S e0 (v::r) [] rfl rfl (cN.of<|s7 _ _ ok.hs) (cN.of cE) (by show r.length+1≠0;lia) ⟨_,rfl,q' _ s7⟩
  ·have l:=ok.mono s7
   have se:ss=[]:=List.isEmpty_iff.mp em;subst se;obtain⟨z0,a3,a0⟩:=zY (ps:=ps) (i:=0) (by decide) (by lia);refine⟨_,rfl,p,_,rfl,l.ds,.inl ⟨rfl,_,cN.of l.hs⟩,_,rfl,xL l.hp a3 ⟨L7,λta as=>⟨uB,λtp M=>?_⟩⟩⟩;have sa:=cH.upd (o:=.tup [.str "word"]) as;have s8:=sa.trans<|cH.upd (o:=.tup [.str z0,.int 0,.ref ta]) M;have g:=l.mono s8;have ay:tp≠S:=(cF (sa _ _ l.hs) M).symm;have de:ta≠S:=(cF l.hs as).symm;have fo:=s6.trans<|s7.trans s8;refine⟨S,[],.ref tp,rfl,rfl,g.hs,by show 0<sizeLine;decide,hR _ _ ⟨[.ref tp],rfl,λb o e=>?_,g.Ms ⟨cf.1,ad.1,c7.symm,cm.symm⟩ (by decide) ⟨tp,z0,0,ta,["word"],rfl,by rw[cG ay];exact cE,a0,aq (by decide)<|by decide,by rw[cG de];exact cH.upd M _ _ cE,by decide,by decide,λx hx=>by rw[QQ]at hx;rw[hx];exact uq⟩⟩⟩;rw[cG<|cF e<|s2.free fS];exact fo _ _ e
  ·exact⟨ss,rfl,s6.trans s7,ok.mono s7⟩
def Jj(z:Xx)(h:Int):SD->Bool
 |.unh q none=>decide<|q=z
 |.unh q (some i)=>decide (q=z)&&decide (h<=i)
 |_=>false
def Ox(h:Int):Xu Int->Bool
 |none=>false
 |some i=>decide<|i<h
theorem tq(h:Int):∀(us:Xw (Xu Int)) (a:Int),eO h (MJ a us)=(decide (a<h)&&us.all (Ox h))
 |[],a=>by
  show decide (a<h)=(decide (a<h)&&true);grind
 |none::r,a=>by
  show false=(decide (a<h)&&(false&&r.all (Ox h)));grind
 |some i::r,a=>by
  show eO h (MJ (if i > a then i else a) r)=(decide (a<h)&&(decide (i<h)&&r.all (Ox h)));rw[tq h r,<-Bool.and_assoc]
  congr 1
  grind
theorem vA(z:Xx)(h:Int):∀sd:Xw SD,(ui z sd).all (Ox h)= !(sd.any<|Jj z h)
 |[]=>rfl
 |d::r=>by
  rw[Tp,Bool.not_or,<-(vA z h r)];cases d with
  |unh q o=>
   by_cases e:q=z
   ·subst e
    rw[vy,Wc]
    congr 1
    cases o with
    |none=>
     show false= !(decide<|q=q);rw[dT0 rfl];rfl
    |some i=>
     show decide (i<h)= !(decide (q=q)&&decide (h<=i));rw[dT0 rfl,Sd];by_cases c:i<h
     ·rw[dT0 c,QU<|by lia]
      rfl
     ·rw[QU c,dT0<|by lia]
      rfl
   ·rw[gO<|show wI z (.unh q o)=false from QU e]
    have:Jj z h (.unh q o)=false:=by
     cases o with
     |none=>exact QU e
     |some i=>
      show(decide (q=z)&&decide (h<=i))=false;rw[QU e,SU]
    rw[this];rfl
  |knew q i=>
   rw[gO rfl];rfl
  |sil q b e=>
   rw[gO rfl];rfl
  |bar q a=>
   rw[gO rfl];rfl
def F3{z:Xx}{h:Int}{sd:Xw SD}(h0:0<=h):eO h (floorOf z sd)= !(sd.any<|Jj z h):=by
 unfold floorOf;rw[tq,vA,dT0<|show(-1:Int)<h by lia,Sd]
def CJ{α:Type}{f:α->Bool}{l:Xw α}{i:Nat}{d:α}(h:l[i]? =some d)(h0:(l.take i).any f=false)(a:f d=false):(l.take<|i+1).any f=false:=by
 rw[RN,h,W7,h0];grind
theorem DG{α:Type}(f g:α->Bool):∀l:Xw α,(l.any λd=>f d||g d)=(l.any f||l.any g)
 |[]=>rfl
 |d::r=>by
  rw[Tp,Tp,Tp,DG f g r];cases f d<;>cases g d<;>cases r.any f<;>cases r.any g<;>rfl
def wF(a he:Xx)(h:Int)(d:SD):Bool:=qA a h d||vS he a d
inductive JH(vs:Xw V)(H:Hp)(Q:VK):Prop
 |mk(a p s t y:Xp)(ps:Xw Xx)(ss f ys:Xw V)(z:Xx)(h:Int)(sd:Xw SD)(e:vs=[.ref a,.str z,.int h])(ok:i5 ps H a p s t y ss f ys)(g:Sys H ys sd)(h0:0<=h)(k:∀H',cH H H'->Q (.bl (eO h (floorOf z sd))) H')
def oT:Sp:=λa H Q _=>JH a H Q
inductive Lc(vs:Xw V)(H:Hp)(Q:VK):Prop
 |mk(f p s t y:Xp)(ps:Xw Xx)(ss g ys:Xw V)(a:Xw GD)(sd:Xw SD)(e:vs=[.ref f])(ok:i5 ps H f p s t y ss g ys)(h:Lz dH H ss a)(j:∀d∈a,d.1∈ps/\du d.2)(i:Sys H ys sd)
   (k:∀d XD H',cH H H'->H d=none->H' d=some (.dK XD)->jO XD (dz (a.filter (cS sd)))->XD.length<=24->Q (.ref d) H')
def zq:Sp:=λa H Q _=>Lc a H Q
inductive ET(f d:Xp)(H1:Hp)(j:Xw GD)(sd:Xw SD)(i:Nat)(σ:St)(a:Hp):Prop
 |mk(l g h:Xu V)(XD:Xw (Key×V))(e:σ=[some (.ref f),some (.ref d),l,g,h])(m:∀b o,H1 b=some o->b≠d->a b=some o)(hd:a d=some (.dK XD))(n:XD.length<=i)(sn:jO XD (dz ((j.take i).filter (cS sd))))
def BM:cK ["_law_made_here","_law_person","_law_hour","_law_one"] ["_law_made_here","_law_person","_law_hour"] (cI pA):={}
def EL (D:Df K mg "_law_free" pA ["_law_made_here","_law_person","_law_hour"] f fd):Gd P w K mg base 1 "_law_free" oT:=by
 refine aG D BM λX H vs Q E x h=>?_;obtain⟨L,p,s,t,y,ps,ss,ts,U,z,h,sd,rfl,ok,I,O,k⟩:=h;have T:=dZ x.room;have M:=ok.hy;rw[F3 O]at k;obtain⟨N,Y,S,B,_⟩:=x.fc [0,1,2,3];refine⟨_,(af (aZ x.own x.calm (aQ<|aK T (aa N) ao ah) (aN B x.nd)
 (ag (aH (a7<|bg (aF aO (ai aE (aa B) ae ah) ao<|cL _)<|bg (aF aO (ai aE (aa B) ae ah) (aa Y)<|cL _)<|bq<|a7<|bS (aF J.pf (ai aE (aa B) ae ah) bL<|cL _)<|b5<|aF J.Ec (ai aE (aa B) ae ah) (aa S)<|cL _)
 (ag<|aw bj)
 aI)))
 (ag<|aw bj)),?_⟩
 refine⟨_,rfl,L,_,rfl,ok.dy,y,rfl,⟨_,cN.of M⟩,c4 (K:=X.K) (a:=y) (xs:=U) (λi σ r=>∃e:Xu V,σ=[some<|.ref L,some<|.str z,some<|.int h,e]/\cH H r/\(sd.take i).any (Jj z h)=false)
  ⟨none,rfl,cH.refl _,rfl⟩ ?_ ?_ ?_⟩
 ·rintro i σ r hi ⟨e,rfl,l,_⟩
  exact cN.of<|l _ _ M
 ·rintro i v σ r W ⟨e,rfl,l,n⟩
  obtain⟨d,a,G,rfl,Z⟩:=I.at W;have g:=l _ _ Z;have A:Jj z h d=true->Q (.bl false) r:=λR=>by
   have:=k r l;rw[show sd.any (Jj z h)=true from U9.mpr ⟨d,QN G,R⟩]at this;exact this
  have no:Jj z h d=false->(sd.take<|i+1).any (Jj z h)=false:=CJ G n;cases d with
  |knew q i'=>exact⟨_,rfl,xT g rfl ⟨rfl,_,rfl,iN<|dG ⟨_,rfl,l,no rfl⟩⟩⟩
  |sil q b e'=>exact⟨_,rfl,xT g rfl ⟨rfl,_,rfl,iN<|dG ⟨_,rfl,l,no rfl⟩⟩⟩
  |bar q q'=>exact⟨_,rfl,xT g rfl ⟨rfl,_,rfl,iN<|dG ⟨_,rfl,l,no rfl⟩⟩⟩
  |unh q o=>
   refine⟨_,rfl,xT g rfl ⟨rfl,_,rfl,iP ⟨_,rfl,xT g rfl ⟨_,rfl,rfl,_,rfl,dD (λC=>?_) λC=>dG ?_⟩⟩⟩⟩
   ·have m:q=z:=V.str.inj (QT C)
    cases o with
    |none=>exact⟨_,rfl,xT g rfl ⟨rfl,_,rfl,fE (dT0 rfl)<|fL<|A<|dT0 m⟩⟩
    |some j=>
     refine⟨_,rfl,xT g rfl ⟨rfl,_,rfl,gM (by rw[Rz];intro e;cases e) ⟨_,rfl,xT g rfl ⟨_,rfl,_,_,rfl,rfl,_,rfl,dD (λF=>A ?_) λF=>⟨_,rfl,l,no ?_⟩⟩⟩⟩⟩
     ·show(decide (q=z)&&decide (h<=j))=true
      rw[dT0 m,F];rfl
     ·show(decide (q=z)&&decide (h<=j))=false
      rw[UG F,SF]
   ·refine⟨_,rfl,l,no ?_⟩
    have m:¬q=z:=λe=>C<|dT0<|RP V.str e;cases o with
    |none=>exact QU m
    |some j=>
     show(decide (q=z)&&decide (h<=j))=false;rw[QU m,SU]
 ·rintro σ r ⟨e,rfl,l,n⟩
  rw[I.1,RX]at n;have:=k r l;rw[n]at this;exact this
def B9:cK ["_law_made_here","_law_seen_here","_law_person","_law_hour","_law_tale"] ["_law_made_here"] (cI pH):={}
def DB (D:Df K mg "_law_seen" pH ["_law_made_here"] f fd) (T:Txt K mg kw C) (ac:Gd P w K mg base 1 "_law_free" oT):Gd P w K mg base 2 "_law_seen" zq:=by
 refine aG D B9 λX H vs Q E l h=>?_;obtain⟨F,p,s,t,y,ps,ss,ts,ys,z,sd,rfl,ok,gs,gk,sy,k⟩:=h;have hu:=dZ l.room;have XO:sizeLine=16777216:=Rh;have sl:=ok.ls;obtain⟨S0,W,O,S,S4,_⟩:=l.fc [0,1,2,3,4];refine⟨_,(af (au W l.nd J.kj)
 (af (aZ l.own l.calm (aQ<|aK hu (aa S0) ao ah) (bO l.calm<|aT (aN O l.nd)<|aT (aN S l.nd)<|aT (aN S4 l.nd) bH)
 (ag (aH (bh<|ak (l.c ac)<|aP (aa S0) (aa O)<|aa S)
 (ag<|bN hu (aa W) (aa O)<|aJ (l.b T.b_min) (J.gr l.calm) uH<|aB (aa S)<|J.LQ hu (aa W) (aa O)<|aa S)
 aI)))
 (ag<|aw<|aa W))),?_⟩
 intro d nd;have s1:=cH.upd (o:=.dK []) nd;have I:upd H d (.dK []) d=some (.dK []):=cE;generalize upd H d (.dK [])=H1 at s1 I;have L:=ok.mono s1;have keep:∀{b:Xp}{o:HO}{x:Hp},(∀b o,H1 b=some o->b≠d->x b=some o)->H b=some o->x b=some o:=λq e=>q _ _ (s1 _ _ e)<|cF e nd;refine⟨_,rfl,F,_,rfl,L.ds,s,rfl,⟨_,cN.of L.hs⟩,c4 (K:=X.K) (a:=s) (xs:=ss) (ET F d H1 z sd) ⟨none,none,none,[],rfl,λb o e _=>e,I,QP 0,⟨λ_=>rfl⟩⟩ ?_ ?_ ?_⟩
 ·rintro i σ x hi ⟨e2,e3,e4,A,rfl,q,B,kl,r⟩
  exact cN.of<|keep q ok.hs
 ·rintro i v σ x hv ⟨e2,e3,e4,A,rfl,q,B,kl,r⟩
  have hi:=(gI0.mp hv).1;obtain⟨g,hg,a,ta,rfl,ha⟩:=gs.at hv;have ab:=keep q ha;have s2:cH H x:=λb o e=>keep q e;have Z:=ok.mono s2;have Y:=gk g<|QN hg;have lk:A.length<sizeLine:=by lia
  have R:(z.take<|i+1).filter (cS sd)=(z.take i).filter (cS sd)++(if cS sd g=true then [g] else []):=by
   rw[RN,hg,SJ]
   congr 1
   show List.filter (cS sd) [g]=_;rw[Sf];rfl
  refine⟨a,_,rfl,fe.of ab,rfl,_,_,rfl,_,_,rfl,_,_,rfl,rfl,?_⟩;refine⟨_,rfl,_,rfl,_,rfl,F,p,s,t,y,ps,ss,ts,ys,g.1,g.2,sd,rfl,Z,sy.mono<|Tk.of s2,Y.2.1,λH3 U=>⟨_,rfl,dD (λop=>?_) λno=>?_⟩⟩
  ·have n:=U _ _ B
   have G:=dI.k (k:=Sum.inr g.1) n;rw[r.get]at G;rw[QR<|show cS sd g=true from op]at R;have put:∀m:Int,dM (dz<|(z.take i).filter<|cS sd) g g.1=some m->ET F d H1 z sd (i+1) [some<|.ref F,some<|.ref d,some<|.str g.1,some<|.int g.2,some<|.ref ta] (upd H3 d<|.dK<|putK A (Sum.inr g.1)<|.int m):=λm em=>
    ⟨_,_,_,_,rfl,λb o e M=>by rw[cG M];exact U _ _<|q b o e M,cE,Rn (di _ _ _)<|by lia,by
     rw[R,pF];exact r.put em⟩
   cases N:dz ((z.take i).filter<|cS sd) g.1 with
   |none=>
    rw[N]at G;exact⟨_,rfl,_,rfl,d,rfl,.inl ⟨_,.inl n⟩,_,rfl,_,rfl,_,G,g.2,g.2,rfl,_,rfl,_,rfl,d,_,rfl,j8.k (k:=Sum.inr g.1) n lk,put _<|by unfold dM;rw[QR rfl,N,QO<|Wt _]⟩
   |some j=>
    rw[N]at G;exact⟨_,rfl,_,rfl,d,rfl,.inl ⟨_,.inl n⟩,_,rfl,_,rfl,_,G,g.2,j,rfl,_,rfl,_,rfl,d,_,rfl,j8.k (k:=Sum.inr g.1) n lk,put _<|by unfold dM;rw[QR rfl,N]⟩
  ·rw[QO<|show ¬cS sd g=true from no,Ry]at R
   exact⟨_,_,_,A,rfl,λb o e M=>U _ _<|q b o e M,U _ _ B,by lia,by rw[R];exact r⟩
 ·rintro σ x ⟨e2,e3,e4,A,rfl,q,B,kl,r⟩
  rw[gs.1,RX]at r;exact⟨_,rfl,k d A x (λb o e=>keep q e) nd B r<|Rn kl sl⟩
inductive Lh(vs:Xw V)(H:Hp)(Q:VK):Prop
 |mk(f p s t y:Xp)(ps:Xw Xx)(ss g ys:Xw V)(a:Xw QD)(sd:Xw SD)(e:vs=[.ref f])(ok:i5 ps H f p s t y ss g ys)(h:Lz dw H g a)(i:∀d∈a,lV ps d)(j:Sys H ys sd)
   (k:∀(l:Xp)(us:Xw V)(H':Hp),cH H H'->H l=none->H' l=some (.lst us)->dU H' us ((fu 0 (fm a)).filter (cZ a sd))->Q (.ref l) H')
def Ar:Sp:=λa H Q _=>Lh a H Q
inductive wG  (H:Hp)(v:V)(d:Xx×Xx):Prop
 |mk(a:Xp)(h0:v=.ref a)(e:H a=some (.tup [.str d.1,.str d.2]))
def O4(x y:V)(b:Bool):d4 [x,y] none (some<|1+(if b=true then 1 else 0))=if b=true then [x,y] else [x]:=by
 cases b<;>rfl
def BK{H:Hp}{v1 v2:V}{o t:Xx}{b:Bool}(f:wG H v1 (o,t))(g:wG H v2 (t,o)):Lz wG H (d4 [v1,v2] none<|some<|1+(if b=true then 1 else 0)) (if b=true then [(o,t),(t,o)] else [(o,t)]):=by
 rw[O4];cases b with
 |true=>
  rw[QR rfl,QR rfl];refine⟨rfl,λi v d a e=>?_⟩
  match i with
  |0=>
   cases a;cases e;exact f
  |1=>
   cases a;cases e;exact g
  |i+2=>cases a
 |false=>
  rw[QO bF0,QO bF0];refine⟨rfl,λi v d a e=>?_⟩
  match i with
  |0=>
   cases a;cases e;exact f
  |i+1=>cases a
inductive Of(j l:Xp)(H:Hp)(h:Xw QD)(op:TK->Bool)(i:Nat)(σ:St)(a:Hp):Prop
 |mk(us:Xw V)(r m o g n p q v f:Xu V)(e:σ=[some (.ref j),some (.ref l),r,m,o,g,n,p,q,v,f])(s:cH H a)(w:a l=some (.lst us))(ul:us.length<=2*i)(x:dU a us ((fu 0 ((fm h).take i)).filter op))
inductive MO(p l:Xp)(d:QD)(i:Nat)(h:Hp)(n:Xw TK)(f:Xw (Xx×Xx))(op:TK->Bool)(j:Nat)(σ:St)(a:Hp):Prop
 |mk(us:Xw V)(q r s m:Xu V)(e:σ=[some (.ref p),some (.ref l),some (.int i),some (.int d.1),some (.str d.2.1),some (.str d.2.2.1),some (.str d.2.2.2),q,r,s,m])(v:∀b o,h b=some o->b≠l->a b=some o)(w:a l=some (.lst us))(ul:us.length<=2*i+j)(x:dU a us ((n++(f.take j).map (λg=>(i,g.1,g.2))).filter op))
def B6:cK ["_law_made_here","_law_found","_law_k","_law_hour","_law_one","_law_other","_law_way","_law_teller","_law_hearer","_law_good","_law_saying_here"] ["_law_made_here"] (cI pN):={}
def CZ (D:Df K mg "_law_open" pN ["_law_made_here"] f fd) (T:Txt K mg kw C) (bb:Gd P w K mg base 1 "_law_free" oT):Gd P w K mg base 2 "_law_open" Ar:=by
 refine aG D B6 λX H vs Q E x h=>?_;obtain⟨md,p,s,t,y,ps,ss,ts,ys,L,sd,rfl,ok,qs,qk,sy,k⟩:=h;have hu:=dZ x.room;have XO:sizeLine=16777216:=Rh;have tl:=ok.lt;obtain⟨S0,S1,S2,S3,S4,S5,S6,S7,S8,S9,N,_⟩:=x.fc [0,1,2,3,4,5,6,7,8,9,10];refine⟨_,(af (au S1 x.nd<|a5 bz)
 (af (aZ x.own x.calm (b8 (x.b T.b_range)<|aj<|aJ (x.b T.b_len) aY dh<|aj<|aK hu (aa S0) ao ah) (aN S2 x.nd)
 (af (J.asg (ai aU (aK hu (aa S0) ao ah) (aa S2) aR)<|bO x.calm<|aT (aN S3 x.nd)<|aT (aN S4 x.nd)<|aT (aN S5 x.nd)<|aT (aN S6 x.nd) bH)
 (ag (aZ x.own x.calm (aQ<|bT cw (a5<|aB (aL<|aB (aa S4)<|aa S5)<|aL<|aB (aa S5)<|aa S4) bX<|bV<|aD bA ae<|bo (x.b T.b_int) J.m9 DL<|aj<|ba aO (aa S6) ao<|cL _) (bO x.calm<|aT (aN S7 x.nd)<|aT (aN S8 x.nd) bH)
 (af (au S9 x.nd<|ak (x.c bb)<|aP (aa S0) (aa S8)<|aa S3)
 (af (aZ x.own x.calm (aQ<|aK hu (aa S0) ao ah) (aN N x.nd)
 (af (aH (a7<|bg (aF aO (ai aE (aa N) ae ah) ao<|cL _)<|bg (aF aO (ai aE (aa N) ae ah) (aa S7)<|cL _)<|bq<|J.jW bG bG (ai aE (aa N) ae ah) (aa S3) (ai aE (aa N) ae ah) kP)
 (ag<|au S9 x.nd bj)
 aI)
 (ag (aH (aF (J.vd hu) (aa N) (aL<|aP ao (aa S8)<|aa S7)<|cL _)
 (ag<|au S9 x.nd bj)
 aI))))
 (ag (aH (J.Av<|aa S9)
 (ag<|br<|bw RZ RA RE bF (aa S1)<|aj<|aL<|aP (aa S2) (aa S7)<|aa S8)
 aI))))))))
 (ag<|aw<|aa S1))),?_⟩
 refine⟨Hi,λl hl=>?_⟩;have s1:=cH.upd (o:=.lst []) hl;refine⟨_,rfl,md,_,rfl,(ok.mono s1).dt,t,_,rfl,.inl<|cN.of<|s1 _ _ ok.ht,(ts.length:Int),rfl,by lia,by lia,mJ (lo:=0) (n:=((ts.length:Nat):Int).toNat) (Of md l H L<|cZ L sd)
  ⟨[],none,none,none,none,none,none,none,none,none,rfl,s1,cE,QP 0,dU.nil⟩ ?_ ?_⟩
 ·rintro i σ H2 hi ⟨us,e2,e3,e4,e5,e6,e7,e8,e9,XW,rfl,s2,W,ul,tu⟩
  rw[VN]at hi;have hv:ts[i]? =some ts[i]:=QJ hi;generalize ts[i]=v at hv;obtain⟨d,hd,a,rfl,ha⟩:=qs.at hv;have ar:(fm L)[i]? =some d.2:=by
   unfold fm;rw[QY,hd];rfl
  have bx:=s2 _ _ ha;have a2:=ok.mono s2;have av:qR ts ((0:Int)+(i:Int))=some (.ref a):=by rw[VW];exact dj hv
  have dk:=qk d<|QN hd;refine⟨_,rfl,md,_,rfl,a2.dt,_,rfl,xL a2.ht av ⟨a,_,rfl,fe.of bx,rfl,_,_,rfl,_,_,rfl,_,_,rfl,_,_,rfl,rfl,?_⟩⟩;rw[VW];refine⟨_,rfl,_,rfl,tf,λA n1=>⟨_,rfl,_,rfl,tf,λB n2=>⟨tf,λq0 be=>?_⟩⟩⟩;have sA:=cH.upd (o:=.tup [.str d.2.1,.str d.2.2.1]) n1;have sB:=cH.upd (o:=.tup [.str d.2.2.1,.str d.2.1]) n2;have sC:=cH.upd (o:=.lst [.ref A,.ref B]) be;refine⟨_,rfl,rfl,.inr ⟨_,rfl,_,_,rfl,rfl,_,rfl,q0,_,rfl,cN.of cE,λq1 a0=>?_⟩⟩;have sD:=cH.upd (o:=.lst<|d4 [.ref A,.ref B] none<|some<|1+(if decide (V.str d.2.2.2=V.str "both")=true then 1 else 0)) a0;have U:=((sA.trans sB).trans sC).trans sD;have p1:wG (upd (upd (upd (upd H2 A<|.tup [.str d.2.1,.str d.2.2.1]) B<|.tup [.str d.2.2.1,.str d.2.1]) q0<|.lst [.ref A,.ref B]) q1<|.lst<|d4 [.ref A,.ref B] none<|some<|1+(if decide (V.str d.2.2.2=V.str "both")=true then 1 else 0)) (.ref A) (d.2.1,d.2.2.1):=⟨A,rfl,sD _ _<|sC _ _<|sB _ _ cE⟩;have p2:wG (upd (upd (upd (upd H2 A<|.tup [.str d.2.1,.str d.2.2.1]) B<|.tup [.str d.2.2.1,.str d.2.1]) q0<|.lst [.ref A,.ref B]) q1<|.lst<|d4 [.ref A,.ref B] none<|some<|1+(if decide (V.str d.2.2.2=V.str "both")=true then 1 else 0)) (.ref B) (d.2.2.1,d.2.1):=⟨B,rfl,sD _ _<|sC _ _ cE⟩;have lz:=BK (b:=decide<|V.str d.2.2.2=V.str "both") p1 p2;have Z:upd (upd (upd (upd H2 A<|.tup [.str d.2.1,.str d.2.2.1]) B<|.tup [.str d.2.2.1,.str d.2.1]) q0<|.lst [.ref A,.ref B]) q1 (.lst<|d4 [.ref A,.ref B] none<|some<|1+(if decide (V.str d.2.2.2=V.str "both")=true then 1 else 0)) q1=some (.lst<|d4 [.ref A,.ref B] none<|some<|1+(if decide (V.str d.2.2.2=V.str "both")=true then 1 else 0)):=cE;have an:q1≠l:=(cF (sC _ _<|sB _ _<|sA _ _ W) a0).symm;have eo:dQ i d.2=(if decide (V.str d.2.2.2=V.str "both")=true then [(d.2.1,d.2.2.1),(d.2.2.1,d.2.1)] else [(d.2.1,d.2.2.1)]).map (λr:Xx×Xx=>(i,r.1,r.2)):=by
   unfold dQ;by_cases e:d.2.2.2= "both"
   ·rw[QR e,dT0<|RP V.str e,QR rfl]
    rfl
   ·rw[QO e,QU λq=>e<|V.str.inj q,QO bF0]
    rfl
  have pm:∀r∈(if decide (V.str d.2.2.2=V.str "both")=true then [(d.2.1,d.2.2.1),(d.2.2.1,d.2.1)] else [(d.2.1,d.2.2.1)]),r.1∈ps/\r.2∈ps:=λr hp=>by
   split at hp
   ·simp only[mem_cons,not_mem_nil,or_false]at hp
    obtain rfl|rfl:=hp
    ·exact⟨dk.2.1,dk.2.2.1⟩
    ·exact⟨dk.2.2.1,dk.2.1⟩
   ·simp only[mem_cons,not_mem_nil,or_false]at hp
    subst hp;exact⟨dk.2.1,dk.2.2.1⟩
  have xl:(d4 [V.ref A,V.ref B] none<|some<|1+(if decide (V.str d.2.2.2=V.str "both")=true then 1 else 0)).length<=2:=jA _ _ _;have ab:=Tk.of U;generalize upd (upd (upd (upd H2 A<|.tup [.str d.2.1,.str d.2.2.1]) B<|.tup [.str d.2.2.1,.str d.2.1]) q0<|.lst [.ref A,.ref B]) q1 (.lst<|d4 [.ref A,.ref B] none<|some<|1+(if decide (V.str d.2.2.2=V.str "both")=true then 1 else 0))=H6 at U lz Z ab;generalize (if decide (V.str d.2.2.2=V.str "both")=true then [(d.2.1,d.2.2.1),(d.2.2.1,d.2.1)] else [(d.2.1,d.2.2.1)])=ac at lz eo pm;generalize d4 [V.ref A,V.ref B] none (some<|1+(if decide (V.str d.2.2.2=V.str "both")=true then 1 else 0))=xs at lz Z xl;have es:fu 0 ((fm L).take<|i+1)=fu 0 ((fm L).take i)++dQ i d.2:=by
   rw[RN,ar];show fu 0 ((fm L).take i++[d.2])=_;rw[p7,Td,RU,UI<|Us (gI0.mp ar).1]
  have ay:=U _ _ W;have keep:∀{b:Xp}{o:HO}{H7:Hp},(∀b o,H6 b=some o->b≠l->H7 b=some o)->H b=some o->H7 b=some o:=λkp e=>kp _ _ (U _ _<|s2 _ _ e)<|cF e hl;refine⟨q1,rfl,⟨_,cN.of Z⟩,c4 (K:=X.K) (a:=q1) (xs:=xs) (MO md l d i H6 (fu 0<|(fm L).take i) ac<|cZ L sd) ⟨us,_,_,_,_,rfl,λb o e _=>e,ay,by lia,by rw[Ul,map_nil,Ry];exact tu.mono ab⟩ ?_ ?_ ?_⟩
  ·rintro j σ H7 hj ⟨I,f7,f8,f9,am,rfl,kp,O,as,M⟩
   exact cN.of<|kp _ _ Z an
  ·rintro j v σ H7 a1 ⟨I,f7,f8,f9,am,rfl,kp,O,as,M⟩
   obtain⟨r,ax,b,rfl,hb⟩:=lz.at a1;have b4:=(gI0.mp a1).1;have b0:H7 b=some (.tup [.str r.1,.str r.2]):=kp _ _ hb (λe=>by rw[e,ay]at hb;cases hb);have s7:cH H H7:=λb o e=>keep kp e;have bd:=ok.mono s7;have bm:=sy.mono<|Tk.of s7;have ca:=pm r<|QN ax;have ap:(ac.take<|j+1).map (λr=>((i,r.1,r.2):TK))=(ac.take j).map (λr=>(i,r.1,r.2))++[(i,r.1,r.2)]:=by
    rw[RN,ax,Sr];rfl
   have bf:cZ L sd (i,r.1,r.2)=(eO d.1 (floorOf r.2 sd) && !(sd.any<|wF r.1 r.2 d.1)):=by
    unfold cZ;rw[eZ hd,<-DG];rfl
   refine⟨b,_,rfl,fe.of b0,rfl,_,_,rfl,_,_,rfl,rfl,?_⟩;refine⟨_,rfl,_,rfl,_,rfl,md,p,s,t,y,ps,ss,ts,ys,r.2,d.1,sd,rfl,bd,bm,dk.1.1,λH8 s8=>?_⟩;have a4:cH H H8:=s7.trans s8;have al:=ok.mono a4;have bi:=sy.mono<|Tk.of a4;have b3:=s8 _ _ O;rw[show eO d.1 (floorOf r.2 sd)=(eO d.1 (floorOf r.2 sd) && !((sd.take 0).any<|wF r.1 r.2 d.1)) by rw[Ul];exact(Uu _).symm];refine⟨_,rfl,md,_,rfl,al.dy,y,rfl,⟨_,cN.of al.hy⟩,c4 (K:=X.K) (a:=y) (xs:=ys) (λm σ H9=>∃XW:Xu V,σ=[some<|.ref md,some<|.ref l,some<|.int i,some<|.int d.1,some<|.str d.2.1,some<|.str d.2.2.1,some<|.str d.2.2.2,some<|.str r.1,some<|.str r.2,some<|.bl<|eO d.1 (floorOf r.2 sd) && !((sd.take m).any<|wF r.1 r.2 d.1),XW]/\cH H8 H9) ⟨am,rfl,cH.refl _⟩ ?_ ?_ ?_⟩
   ·rintro m σ H9 hm ⟨XW,rfl,s9⟩
    exact cN.of<|s9 _ _ al.hy
   ·rintro m v σ H9 bv ⟨XW,rfl,s9⟩
    obtain⟨g,c,hg,rfl,hc⟩:=bi.at bv;have G:=s9 _ _ hc;have bc:(eO d.1 (floorOf r.2 sd) && !((sd.take<|m+1).any<|wF r.1 r.2 d.1))=(((eO d.1 (floorOf r.2 sd) && !((sd.take m).any<|wF r.1 r.2 d.1)) && !(qA r.1 d.1 g)) && !(vS r.2 r.1 g)):=by
     rw[RN,hg,W7];show(eO d.1 (floorOf r.2 sd) && !((sd.take m).any (wF r.1 r.2 d.1)||((qA r.1 d.1 g||vS r.2 r.1 g)||false)))=_;cases eO d.1 (floorOf r.2 sd)<;>cases (sd.take m).any (wF r.1 r.2 d.1)<;>cases qA r.1 d.1 g<;>cases vS r.2 r.1 g<;>rfl
    rw[bc];generalize (eO d.1 (floorOf r.2 sd) && !((sd.take m).any<|wF r.1 r.2 d.1))=gg;refine Gx (λa3 H'=>a3=[some<|.ref md,some<|.ref l,some<|.int i,some<|.int d.1,some<|.str d.2.1,some<|.str d.2.2.1,some<|.str d.2.2.2,some<|.str r.1,some<|.str r.2,some<|.bl<|gg && !(qA r.1 d.1 g),some<|.ref c]/\H'=H9) ?_ (qA r.1 d.1 g) (λQ' q'=>?_) (λe hR=>?_) λe=>?_
    ·rintro a3 H' ⟨rfl,rfl⟩
     refine⟨_,rfl,_,rfl,_,rfl,uB,λc2 a9=>?_⟩;have F:=cH.upd (o:=.tup [.str "barred",.str r.2,.str r.1]) a9;refine⟨c,c2,_,_,rfl,rfl,F _ _ G,cE,jv g,rfl,_,rfl,?_⟩;rw[Am];refine dD (λad=>⟨some<|.ref c,?_,s9.trans F⟩) λno=>⟨some<|.ref c,?_,s9.trans F⟩
     ·rw[ad,Bool.not_true,SF]
      rfl
     ·rw[UG no,Bool.not_false,Uu]
    ·cases g with
     |knew z i'=>exact⟨_,rfl,xT G rfl ⟨rfl,_,rfl,iN q'⟩⟩
     |unh z i'=>exact⟨_,rfl,xT G rfl ⟨rfl,_,rfl,iN q'⟩⟩
     |bar z z'=>exact⟨_,rfl,xT G rfl ⟨rfl,_,rfl,iN q'⟩⟩
     |sil z b1 b2=>
      have q2:Q' (decide (z=r.1)&&(if b1<=d.1 then decide (d.1<=b2) else false)) H9:=q';refine⟨_,rfl,xT G rfl ⟨rfl,_,rfl,iP ⟨_,rfl,xT G rfl ⟨_,rfl,rfl,_,rfl,dD (λhz=>⟨_,rfl,xT G rfl ⟨_,rfl,_,_,rfl,rfl,_,rfl,dD (λhb=>⟨_,rfl,xT G rfl ⟨_,_,rfl,rfl,_,rfl,?_⟩⟩) λhb=>⟨_,rfl,?_⟩⟩⟩) λhz=>?_⟩⟩⟩⟩
      ·rw[QR<|QT hb,dT0<|V.str.inj<|QT hz,Sd]at q2
       exact q2
      ·rw[QO λe=>hb<|dT0 e,SF]at q2
       exact q2
      ·rw[QU λe=>hz<|dT0<|RP V.str e,SU]at q2
       exact q2
    ·refine hR _ _ ⟨?_,rfl⟩
     rw[e,Bool.not_true,SF];rfl
    ·refine⟨?_,rfl⟩
     rw[e,Bool.not_false,Uu];rfl
   ·rintro σ H9 ⟨XW,rfl,s9⟩
    rw[sy.1,RX,<-bf];have Y:=s8.trans s9;have S:=Y _ _ O;have aq:∀b o,H6 b=some o->b≠l->H9 b=some o:=λb o e n=>Y _ _<|kp b o e n;refine⟨_,rfl,_,rfl,dD (λad=>?_) λno=>?_⟩
    ·refine⟨_,rfl,.inl ⟨rfl,_,cN.of S⟩,_,rfl,_,rfl,_,rfl,uB,λt3 n3=>?_⟩
     have F:=cH.upd (o:=.tup [.int i,.str r.1,.str r.2]) n3;refine⟨l,I,.ref t3,rfl,rfl,F _ _ S,by lia,?_⟩;have bn:t3≠l:=(cF S n3).symm;have tk:=(Tk.of<|Y.trans F).trans<|Tk.upd (F _ _ S) (ys:=I++[.ref t3]);refine⟨I++[.ref t3],_,_,_,_,rfl,λb o e n=>by rw[cG n];exact F _ _<|aq b o e n,cE,by rw[QK];show I.length+1<=_;lia,?_⟩;rw[ap,<-QS,SJ];show dU _ _ (_++List.filter (cZ L sd) [(i,r.1,r.2)]);rw[Sf,QR ad];exact Lz.snoc (R:=rg) (M.mono tk) ⟨t3,rfl,by rw[cG bn];exact cE⟩
    ·refine⟨I,_,_,_,_,rfl,aq,S,by lia,?_⟩
     rw[ap,<-QS,SJ];show dU _ _ (_++List.filter (cZ L sd) [(i,r.1,r.2)]);rw[Sf,QO no];show dU _ _ (_++[]);rw[Ry];exact M.mono<|Tk.of Y
  ·rintro σ H7 ⟨I,f7,f8,f9,am,rfl,kp,O,as,M⟩
   rw[lz.1,RX,<-eo,<-es]at M;exact⟨I,_,_,_,_,_,_,_,_,_,rfl,λb o e=>keep kp e,O,by lia,M⟩
 ·rintro σ H2 ⟨us,e2,e3,e4,e5,e6,e7,e8,e9,XW,rfl,s2,W,ul,tu⟩
  rw[VN,qs.1,show L.length=(fm L).length from (QM ..).symm,RX]at tu;exact⟨_,rfl,k l us H2 s2 hl W tu⟩
inductive Pz(C:Xp)(vs:Xw V)(H:Hp)(Q:VK):Prop
 |mk(a p s t y:Xp)(ps:Xw Xx)(ss f ys:Xw V)(e:vs=[.ref a])(po:fP ps)(ok:i5 ps H a p s t y ss f ys)
   (k:∀(x g s' t' h:Xp)(H':Hp),cH H H'->H x=none->Bk C H' x g s' t' h ps ss f ys->Q (.ref x) H')
def Jq(C:Xp):Sp:=λa H Q _=>Pz C a H Q
def BL:cK ["_law_made_here"] ["_law_made_here"] (cI pR):={}
def Di (D:Df K mg "_law_book" pR ["_law_made_here"] f fd) (T:Txt K mg kw C) (B:Kd P w K mg base 7 "Book" C (C0 C)):Gd P w K mg base 9 "_law_book" (Jq C):=by
 refine aG D BL λX H vs Q E v h=>?_;obtain⟨r,p,s,t,y,g,Y,ts,ys,rfl,po,ok,k⟩:=h;have z:=dZ v.room;obtain⟨q,_⟩:=v.fc [0];have a:=v.b T.b_list;refine⟨_,ag<|aw<|J.Po (v.Po B rfl (by decide)<|by decide)<|bQ (bo a bD eC<|aj<|aK z (aa q) ao ah) (bo a bD eC<|aj<|aK z (aa q) ao ah) (bo a bD eC<|aj<|aK z (aa q) ao ah)<|bo a bD eC<|aj<|aK z (aa q) ao ah,?_⟩;have ll:=ok.lt;have pa:Parts H g Y ts ys:=⟨po,ok.ls,ok.gs,by lia,ok.gt,ok.ly,ok.gy⟩;refine⟨_,rfl,r,_,rfl,ok.dp,p,_,rfl,.inl<|cN.of ok.hp,λA n1=>?_⟩;have M:=cH.upd (o:=.lst<|g.map V.str) n1;have S:upd H A (.lst<|g.map V.str) A=some (.lst<|g.map V.str):=cE;generalize upd H A (.lst<|g.map V.str)=H1 at M S;have l:=ok.mono M;refine⟨_,rfl,r,_,rfl,l.ds,s,_,rfl,.inl<|cN.of l.hs,λl2 n2=>?_⟩;generalize I:upd H1 l2 _=H2;obtain⟨s2,k2⟩:=nx n2 I;have W:=M.trans s2;have j:=ok.mono W;refine⟨_,rfl,r,_,rfl,j.dt,t,_,rfl,.inl<|cN.of j.ht,λl3 n3=>?_⟩;generalize L:upd H2 l3 _=H3;obtain⟨N,k3⟩:=nx n3 L;have U:=W.trans N;have i:=ok.mono U;refine⟨_,rfl,r,_,rfl,i.dy,y,_,rfl,.inl<|cN.of i.hy,λl4 n4=>?_⟩;generalize O:upd H3 l4 _=Z;obtain⟨n,k4⟩:=nx n4 O;have F:=U.trans n;intro x R nx G ab;have m:cH Z (upd (upd Z R<|.own x) x<|.ins C R []):=λb o e=>by
  rw[cG<|cF e nx,cG<|cF e G];exact e
 have t5:=F.trans m;refine⟨x,R,A,l2,l3,l4,g,Y,ts,ys,rfl,cE,m _ _<|n _ _<|N _ _<|s2 _ _ S,m _ _<|n _ _<|N _ _ k2,m _ _<|n _ _ k3,m _ _ k4,pa.mono<|Tk.of t5,λp' s' t' y' H6 _ _ _ _ bk kp=>⟨rfl,?_⟩⟩;exact k x p' s' t' y' H6 (λb o e=>kp b o (t5 _ _ e)<|cF e<|F.free nx) (F.free nx) bk
inductive EW
 |saw (i:Nat)
 |hrd (k:Nat)(a:Xx)
abbrev ED:=Xx×Int×EW
def BS(H:Hp)(a:Xp):EW->Prop
 |.saw i=>H a=some (.tup [.str "saw",.int (i:Nat)])
 |.hrd k e=>H a=some (.tup [.str "heard",.int (k:Nat),.str e])
def lZ(H:Hp)(a:Xp)(d:ED):Prop:=∃e,H a=some (.tup [.str d.1,.int d.2.1,.ref e])/\BS H e d.2.2
def BS.mono{H H':Hp}(s:Tk H H'){a:Xp}{w:EW}(h:BS H a w):BS H' a w:=by
 cases w with
 |saw i=>exact s _ _ h
 |hrd k e=>exact s _ _ h
def lZ.mono{H H':Hp}(s:Tk H H'){a:Xp}{d:ED}(h:lZ H a d):lZ H' a d:=by
 obtain⟨f,e,g⟩:=h;exact⟨f,s _ _ e,g.mono s⟩
structure PU(H:Hp)(XD:Xw (Key×V))(F:FH):Prop where
 no:∀z,F z=none->dR XD (Sum.inr z)=none
 yes:∀z h,F z=some h->∃a w,dR XD (Sum.inr z)=some (.ref a)/\H a=some (.tup [.str z,.int h,w])
def Cw(F:FH)(d:ED):Bool:=match d.2.2 with
 |.saw _=>true
 |.hrd _ e=>match F e with
  |none=>false
  |some a=>decide<|a<d.2.1
inductive Nn  (vs:Xw V)(H:Hp)(Q:VK):Prop
 |mk(a:Xp)(z:Xx)(h:Int)(w:V)(h0:vs=[.ref a])(e:H a=some (.tup [.str z,.int h,w]))(f:Q (.int h) H)
def GN  :Sp:=λa H Q _=>Nn  a H Q
inductive Nu  (vs:Xw V)(H:Hp)(Q:VK):Prop
 |mk(e a:Xp)(XD:Xw (Key×V))(F:FH)(d:ED)(h0:vs=[.ref e,.ref a])(h:H e=some (.dK XD))(f:PU H XD F)(i:lZ H a d)(g:Q (.bl (Cw F d)) H)
def Nr  :Sp:=λa H Q _=>Nu  a H Q
def x6:cK ["entry"] ["entry"] (cI mQ):={}
def Oj (D:Df K mg "hour_of" mQ ["entry"] f fd):Gd P w K mg base 1 "hour_of" GN:=by
 refine aG D x6 λX H j Q E g h=>?_;obtain⟨a,z,h,w,rfl,e,k⟩:=h;obtain⟨i,_⟩:=g.fc [0];exact⟨_,ag<|aw<|ai aE (aa i) ae ah,_,rfl,xT e rfl k⟩
def qZ:cK ["known","entry","way"] ["known","entry"] (cI iM):={}
def Mn (D:Df K mg "can_follow" iM ["known","entry"] f fd) (s:Gd P w K mg base 1 "hour_of" GN):Gd P w K mg base 2 "can_follow" Nr:=by
 refine aG D qZ λX H M Q E p h=>?_;obtain⟨r,a,O,F,d,rfl,q,x,⟨R,A,l⟩,k⟩:=h;have g:=p.gK s rfl (by lia) (by decide);have y:=dZ p.room;obtain⟨v,B,o,_⟩:=p.fc [0,1,2];refine⟨_,(af (au o p.nd<|ai aE (aa B) ae ah)
 (af (aH (aF aO (ai aE (aa o) ae ah) ao<|cL _)
 (ag<|aw bj)
 aI)
 (ag<|aw<|aV (J.vb y (ai aE (aa o) ae ah)<|aa v)<|a8<|ba bW (ak g<|aj<|aK y (aa v) (ai aE (aa o) ae ah) cv) (ak g<|aj<|aa B)<|cL _))),?_⟩
 refine⟨_,rfl,xT A rfl ?_⟩;obtain⟨z,h,way⟩:=d;cases way with
 |saw i=>exact⟨_,rfl,xT l rfl ⟨rfl,_,rfl,iP k⟩⟩
 |hrd N e=>
  refine⟨_,rfl,xT l rfl ⟨rfl,_,rfl,iN ?_⟩⟩;have j:=dI.k (k:=Sum.inr e) q;have m:Q (.bl<|match F e with|none=>false|some a=>decide<|a<h) H:=k;cases n:F e with
  |none=>
   rw[n]at m;rw[x.no e n]at j;exact⟨_,rfl,xT l rfl ⟨_,rfl,r,_,rfl,j,_,rfl,dG m⟩⟩
  |some b=>
   rw[n]at m;obtain⟨I,L,G,C⟩:=x.yes e b n;rw[G]at j;exact⟨_,rfl,xT l rfl ⟨_,rfl,r,_,rfl,j,_,rfl,fL ⟨_,rfl,_,rfl,xT l rfl ⟨r,_,rfl,j,I,e,b,L,rfl,C,_,rfl,a,z,h,_,rfl,A,_,_,rfl,rfl,m⟩⟩⟩⟩
def xS(F:FH)(z:Xx)(h:Int):FH:=λy=>if y=z then some h else F y
def kC{F:FH}{z:Xx}{h:Int}:xS F z h z=some h:=QR rfl
def iL{F:FH}{z y:Xx}{h:Int}(n:¬y=z):xS F z h y=F y:=QO n
def L3(H:Hp)(a:Xp):Int:=match H a with
 |some (.tup [_,.int h,_])=>h
 |_=>0
def yI{H:Hp}{a:Xp}{d:ED}(h:lZ H a d):L3 H a=d.2.1:=by
 obtain⟨f,e,_⟩:=h;unfold L3;rw[e]
def F5{H:Hp}{a:Xp}{w f:EW}(h:BS H a w)(h':BS H a f):w=f:=by
 cases w with
 |saw i=>
  cases f with
  |saw j=>
   have e:=(show H a=_ from h).symm.trans<|show H a=_ from h';grind
  |hrd k g=>
   have e:=(show H a=_ from h).symm.trans<|show H a=_ from h';simp at e
 |hrd k g=>
  cases f with
  |saw j=>
   have e:=(show H a=_ from h).symm.trans<|show H a=_ from h';simp at e
  |hrd m l=>
   have e:=(show H a=_ from h).symm.trans<|show H a=_ from h';grind
def zy{H:Hp}{a:Xp}{d d':ED}(h:lZ H a d)(h':lZ H a d'):d=d':=by
 obtain⟨o,m,l⟩:=h;obtain⟨j,g,f⟩:=h';have e:=m.symm.trans g;simp only[Option.some.injEq,HO.tup.injEq,List.cons.injEq,V.int.injEq,V.str.injEq,V.ref.injEq,and_true]at e;obtain⟨i,n,rfl⟩:=e;exact Wh i<|Wh n<|F5 l f
def JP{F:FH}{d e:ED}{z:Xx}{h:Int}(l:Cw (xS F z h) e=true)(le:e.2.1<=h):Cw F e=true:=by
 obtain⟨y,i,w⟩:=e;cases w with
 |saw _=>rfl
 |hrd k g=>
  have f:(match xS F z h g with|none=>false|some a=>decide<|a<i)=true:=l;by_cases c:g=z
  ·subst c
   rw[kC]at f;have j:=f;rw[Rz]at j;grind
  ·rwa [iL c]at f
def Ax{F:FH}{d:ED}{z:Xx}{h:Int}(n:F z=none)(c:Cw F d=true):Cw (xS F z h) d=true:=by
 obtain⟨y,i,w⟩:=d;cases w with
 |saw _=>rfl
 |hrd k g=>
  have f:(match F g with|none=>false|some a=>decide<|a<i)=true:=c;show(match xS F z h g with|none=>false|some a=>decide<|a<i)=true;rw[iL λe=>by rw[e,n]at f;cases f];exact f
def FN(ds:Xw ED)(F:FH):Prop:=∀d∈ds,Cw F d=true->∃b,b<=d.2.1/\F d.1=some b
def PX(H:Hp)(XD:Xw (Key×V))(ds:Xw ED)(F:FH):Prop:=∀z h,F z=some h->∃a d,dR XD (Sum.inr z)=some (.ref a)/\lZ H a d/\d∈ds/\d.1=z/\d.2.1=h/\Cw F d=true
inductive IG(H:Hp)(n g l:Xp)(zs:Xw Xp)(ds:Xw ED)(i:Nat)(σ:St)(f:Hp):Prop
 |mk(o:Xu V)(XD:Xw (Key×V))(F:FH)(e:σ=[some (.ref n),some (.ref g),o])(s:cH H f)(q:f l=some (.lst (zs.map V.ref)))(p:f g=some (.dK XD))(v:XD.length<=i)(w:PU f XD F)(c:∀j a d,j<i->zs[j]? =some a->lZ H a d->Cw F d=true->∃b,b<=d.2.1/\F d.1=some b)(r:PX H XD ds F)(m:∀z h,F z=some h->∀j a,i<=j->zs[j]? =some a->h<=L3 H a)
inductive Qz(vs:Xw V)(H:Hp)(Q:VK):Prop
 |mk(g:Xp)(as:Xw Xp)(ds:Xw ED)(e:vs=[.ref g])(he:H g=some (.lst (as.map V.ref)))(al:as.length<=400)(i:∀a∈as,∃d∈ds,lZ H a d)(h:∀d∈ds,∃a∈as,lZ H a d)
   (k:∀(f:Xp)(XD:Xw (Key×V))(F:FH)(H':Hp),cH H H'->H f=none->H' f=some (.dK XD)->PX H' XD ds F->FN ds F->Q (.ref f) H')
def Mm:Sp:=λa H Q _=>Qz a H Q
def m7:cK ["entries","known","entry"] ["entries"] (cI fZ):={}
def NH (D:Df K mg "first_entries" fZ ["entries"] f fd) (T:Txt K mg kw C) (av:Gd P w K mg base 1 "hour_of" GN) (aq:Gd P w K mg base 2 "can_follow" Nr):Gd P w K mg base 4 "first_entries" Mm:=by
 refine aG D m7 λX H vs Q E L h=>?_;obtain⟨en,as,ds,rfl,he,al,ed,de,k⟩:=h;have hu:=dZ L.room;have XO:=Rh;obtain⟨S0,S1,S2,_⟩:=L.fc [0,1,2];refine⟨_,(af (au S1 L.nd J.kj)
 (af (aZ L.own L.calm (aQ<|J.MD (L.b T.b_sorted) (L.OF av rfl (by first|decide|exact QP _)<|by decide)<|aj<|aa S0) (aN S2 L.nd)
 (ag (aH (a7<|bg (J.sR hu (ai aE (aa S2) ae ah)<|aa S1)<|bq<|bh<|ak (L.c aq)<|aB (aa S1)<|aa S2)
 (ag<|bN hu (aa S1) (ai aE (aa S2) ae ah)<|aa S2)
 aI)))
 (ag<|aw<|aa S1))),?_⟩
 intro A ac;generalize ap:upd H A _=H1;obtain⟨s1,ax⟩:=nx ac ap;refine⟨_,rfl,en,as,L3 H,rfl,cN.of<|s1 _ _ he,λa B Q' q'=>?_,λl G nl pm pw _=>?_⟩
 ·obtain⟨d,_,ad⟩:=ed a B
  rw[yI ad]at q';obtain⟨wa,h1,_⟩:=ad;exact⟨a,_,_,_,rfl,s1 _ _ h1,q'⟩
 have s2:=s1.trans<|cH.upd (o:=.lst<|G.map V.ref) nl;have ab:upd H1 l (.lst<|G.map V.ref) l=some (.lst<|G.map V.ref):=cE;have am:=cH.upd (o:=.lst<|G.map V.ref) nl _ _ ax;generalize upd H1 l (.lst<|G.map V.ref)=H2 at s2 ab am;have zl:G.length<=400:=by rw[pm.length_eq];exact al
 have an:∀{i j:Nat}{a b:Xp},i<j->G[i]? =some a->G[j]? =some b->L3 H a<=L3 H b:=λ{i j a b} ij B hb=>by
  obtain⟨h1,I⟩:=gI0.mp B;obtain⟨h2,O⟩:=gI0.mp hb;have:=UO.mp pw i j h1 h2 ij
  rwa [I,O]at this
 refine⟨l,rfl,⟨_,cN.of ab⟩,c4 (xs:=G.map V.ref) (IG H en A l G ds) ⟨none,[],λ_=>none,rfl,s2,ab,am,QP 0,⟨λ_ _=>rfl,λ_ _ e=>by cases e⟩,λj a d Y=>by lia,(λ_ _ e=>by cases e),λ_ _ e=>by cases e⟩ ?_ ?_ ?_⟩
 ·rintro i σ H3 hi ⟨O,XD,F,rfl,R,s,p,kl,S,c,so,m⟩
  exact cN.of s
 ·rintro i v σ H3 hv ⟨O,XD,F,rfl,R,s,p,kl,S,c,so,m⟩
  rw[QY]at hv;obtain⟨a,B,rfl⟩:=RC.mp hv;have il:=(gI0.mp B).1;obtain⟨d,md,N⟩:=(λh=>ed _<|pm.mem_iff.mp<|QN h) B;have W:=yI N;obtain⟨wa,h1,h2⟩:=id N;have h3:=R _ _ h1;have dg:=dI.k (k:=Sum.inr d.1) p;have gH:(Cw F d=true->∃b,b<=d.2.1/\F d.1=some b)->IG H en A l G ds (i+1) [some<|.ref en,some<|.ref A,some<|.ref a] H3:=λcd=>
   ⟨_,XD,F,rfl,R,s,p,by lia,S,λj M d' Y g y cf=>by
    by_cases e:j=i
    ·subst e
     rw[B]at g;cases g;rw[<-zy N y]at cf ⊢;exact cd cf
    ·exact c j M d' (by lia) g y cf,so,λz h e j M Y g=>m z h e j M (by lia) g⟩
  cases Z:F d.1 with
  |some b=>
   obtain⟨ea,w2,I,_⟩:=S.yes _ _ Z;rw[I]at dg;exact⟨_,rfl,xT h3 rfl ⟨_,rfl,A,_,rfl,dg,_,rfl,dG<|dG<|gH λ_=>⟨b,by rw[<-W];exact m _ _ Z i a (QP _) B,Z⟩⟩⟩
  |none=>
   rw[S.no _ Z]at dg;refine⟨_,rfl,xT h3 rfl ⟨_,rfl,A,_,rfl,dg,_,rfl,fL ⟨_,rfl,_,rfl,A,a,XD,F,d,rfl,p,S,N.mono<|Tk.of R,_,rfl,?_⟩⟩⟩;cases hc:Cw F d with
   |false=>exact dG (gH λh=>by rw[hc]at h;cases h)
   |true=>
    refine fL ⟨_,rfl,_,rfl,_,rfl,xT h3 rfl ⟨A,_,rfl,j8.k (k:=Sum.inr d.1) p<|by lia,?_⟩⟩;have ay:a≠A:=λe=>by rw[e,p]at h3;cases h3
    have ar:l≠A:=λe=>by rw[e,p]at s;cases s
    have kp:∀b o,b≠A->H3 b=some o->upd H3 A (.dK<|putK XD (Sum.inr d.1)<|.ref a) b=some o:=λb o n e=>by rw[cG n];exact e
    refine⟨_,putK XD (Sum.inr d.1)<|.ref a,xS F d.1 d.2.1,rfl,λb o e=>kp b o (cF e ac)<|R _ _ e,kp _ _ ar s,cE,Rn (di _ _ _)<|by lia,⟨λz e=>?_,λz h e=>?_⟩,λj M d' Y g y cf=>?_,λz h e=>?_,λz h e j M Y g=>?_⟩
    ·by_cases q:z=d.1
     ·rw[q,kC]at e
      cases e
     ·rw[iL q]at e
      rw[cP,QO λx=>q<|Tc x];exact S.no z e
    ·by_cases q:z=d.1
     ·rw[q,kC]at e
      cases e;exact⟨a,.ref wa,by rw[cP,QR<|by rw[q]],by rw[q];exact kp _ _ ay h3⟩
     ·rw[iL q]at e
      obtain⟨ea,w2,I,U⟩:=S.yes z h e;exact⟨ea,w2,by rw[cP,QO λx=>q<|Tc x];exact I,kp _ _ (λx=>by rw[x,p]at U;cases U) U⟩
    ·by_cases e:j=i
     ·subst e
      rw[B]at g;cases g;rw[<-zy N y];exact⟨_,UB _,kC⟩
     ·have le:d'.2.1<=d.2.1:=by
       rw[<-yI y,<-W];exact an (by lia) g B
      obtain⟨b,b1,b2⟩:=c j M d' (by lia) g y<|JP (d:=d) cf le;exact⟨b,b1,by rw[iL λx=>by rw[x,Z]at b2;cases b2];exact b2⟩
    ·by_cases q:z=d.1
     ·rw[q,kC]at e
      cases e;exact⟨a,d,by rw[cP,QR<|by rw[q]],N,md,q.symm,rfl,Ax Z hc⟩
     ·rw[iL q]at e
      obtain⟨M,d',I,O,e3,e4,e5,e6⟩:=so z h e;exact⟨M,d',by rw[cP,QO λx=>q<|Tc x];exact I,O,e3,e4,e5,Ax Z e6⟩
    ·by_cases q:z=d.1
     ·rw[q,kC]at e
      cases e;rw[<-W];exact an (by lia) B g
     ·rw[iL q]at e
      exact m z h e j M (by lia) g
 ·rintro σ H3 ⟨O,XD,F,rfl,R,s,p,kl,S,c,so,m⟩
  refine⟨_,rfl,k A XD F H3 R ac p (λz h e=>let ⟨a,d,I,O,r⟩:=so z h e;⟨a,d,I,O.mono<|Tk.of R,r⟩) λd hd cf=>?_⟩;obtain⟨a,B,N⟩:=de d hd;obtain⟨j,Y⟩:=Rg<|pm.mem_iff.mpr B;have jl:=(gI0.mp Y).1;exact c j a d (by rw[QM];exact jl) Y N cf
def kW(H:Hp)(v:V)(d:ED):Prop:=∃a,v=.ref a/\lZ H a d
def kW.mono{H H':Hp}(s:Tk H H')(v:V)(d:ED)(h:kW H v d):kW H' v d:=by
 obtain⟨a,e,h⟩:=h;exact⟨a,e,h.mono s⟩
def Ge(a:Xw GD)(i:Nat):ED:=match a[i]? with
 |some g=>(g.1,g.2,.saw i)
 |none=>("",0,.saw i)
def Hu(a:Xw QD)(t:TK):ED:=(t.2.2,cJ a t.1,.hrd t.1 t.2.1)
def IH(a:Xw GD)(e:Xw QD)(sd:Xw SD):Xw ED:=((List.range a.length).filter<|n9 a<|cS sd).map (Ge a)++((fu 0<|fm e).filter<|cZ e sd).map (Hu e)
inductive Mo(x n tb l:Xp)(p:Hp)(f:Xw ED)(h:Xw ED)(i:Nat)(σ:St)(a:Hp):Prop
 |mk(us:Xw V)(m g j:Xu V)(e:σ=[some (.ref x),some (.ref n),some (.ref tb),some (.ref l),m,g,j])(q:∀b o,p b=some o->b≠l->a b=some o)(r:a l=some (.lst us))(ul:us.length<=24+i)(s:Lz kW a us (f++h.take i))
inductive Qm(C:Xp)(vs:Xw V)(H:Hp)(Q:VK):Prop
 |mk(x p s t y:Xp)(ps:Xw Xx)(ss g ys:Xw V)(f:Xw GD)(a:Xw QD)(sd:Xw SD)(e:vs=[.ref x])(bk:Bk C H x p s t y ps ss g ys)(q:ps.length<=24)(sl:ss.length<=24)(h:g.length<=120)(n:Lz dH H ss f)(m:∀d∈f,d.1∈ps)(o:Lz dw H g a)(i:∀d∈a,lV ps d)(j:Sys H ys sd)(l:ys.length<=60)
   (k:∀(l:Xp)(us:Xw V)(H':Hp),cH H H'->H l=none->H' l=some (.lst us)->Lz kW H' us (IH f a sd)->us.length<=400->Q (.ref l) H')
def Nq(C:Xp):Sp:=λa H Q _=>Qm C a H Q
def oz:cK ["book","sights","talks","entries","k","teller","hearer"] ["book"] (cI gD):={}
def Oh (D:Df K mg "open_entries" gD ["book"] f fd) (T:Txt K mg kw C) (a9:Md P w K mg base 1 C "sights" (dB C λ_ s _ _=>s)) (be:Md P w K mg base 1 C "talks" (dB C λ_ _ t _=>t)) (bb:Gd P w K mg base 4 "open_sights" (t8 C)) (a3:Gd P w K mg base 4 "open_tellings" (uQ C)):Gd P w K mg base 5 "open_entries" (Nq C):=by
 refine aG D oz λX H vs Q E z h=>?_;obtain⟨x,p,s,t,y,ps,ss,G,ys,r,g,sd,rfl,bk,pl,sl,tl,gs,gp,qs,qk,sy,XZ,k⟩:=h;have XO:=Rh;obtain⟨S0,S1,S2,S3,S4,S5,S6,_⟩:=z.fc [0,1,2,3,4,5,6];refine⟨_,(af (au S1 z.nd<|bE (z.met a9<|by decide) (aa S0) rfl)
 (af (au S2 z.nd<|bE (z.met be<|by decide) (aa S0) rfl)
 (af (bY (is:=[1]) (xs:=["i"]) (ns:=["sights"]) S3 z.nd z.calm (aQ<|ak (z.gK bb rfl (by lia)<|by decide)<|aj<|aa S0) {} (λ_ _ _ _ _=>a6 (i:=0)) (λ_ _ _ _ _=>bU) (λ_ _ _ _ _=>aL<|aP (ai bp (ai cD (aS (i:=1)) (aM (i:=0)) aR) ae ah) (ai bp (ai cD (aS (i:=1)) (aM (i:=0)) aR) ae ah)<|aL<|aB ao<|aM (i:=0)) z.hsc z.hN (by decide+kernel))
 (af (aZ z.own z.calm (aQ<|ak (z.gK a3 rfl (by lia)<|by decide)<|aj<|aa S0) (bO z.calm<|aT (aN S4 z.nd)<|aT (aN S5 z.nd)<|aT (aN S6 z.nd) bH)
 (ag<|br<|bw RZ RA RE bF (aa S3)<|aj<|aL<|aP (aa S6) (ai aE (ai aU (aa S2) (aa S4) aR) ae ah)<|aL<|aP ao (aa S4)<|aa S5))
 (ag<|aw<|aa S3))))),?_⟩
 obtain⟨⟨dx,hx⟩,hp,hs,ht,hy⟩:=id bk;refine⟨_,rfl,x,dx,_,rfl,hx,fU _ _ _ _ (by decide+kernel) (by decide+kernel) (by decide+kernel)<|by decide+kernel,x,p,s,t,y,ss,rfl,⟨dx,hx⟩,hs,λsb a2=>?_⟩;generalize bc:upd H sb _=H1;obtain⟨s1,al⟩:=nx a2 bc;refine⟨_,rfl,x,dx,_,rfl,s1 _ _ hx,fU _ _ _ _ (by decide+kernel) (by decide+kernel) (by decide+kernel)<|by decide+kernel,x,p,s,t,y,G,rfl,⟨dx,s1 _ _ hx⟩,s1 _ _ ht,λtb ap=>?_⟩;have s2:=s1.trans<|cH.upd (o:=.lst G) ap;have N:=cH.upd (o:=.lst G) ap _ _ al;have L:upd H1 tb (.lst G) tb=some (.lst G):=cE;generalize upd H1 tb (.lst G)=H2 at s2 N L;refine⟨_,rfl,x,p,s,t,y,ps,ss,G,ys,r,sd,rfl,bk.mono s2,pl,sl,gs.mono<|dH.mono<|Tk.of s2,gp,sy.mono<|Tk.of s2,XZ,λlo H3 s3 cd Yt=>?_⟩;have J:=s2.trans s3;have M:=s3 _ _ L;have gl:=gs.1;have ol:=za r sd r.length;refine⟨lo,rfl,⟨_,cN.of Yt⟩,wN (λj H' v=>∃i,((List.range r.length).filter<|n9 r<|cS sd)[j]? =some i/\kW H' v (Ge r i)) (λj v H H' A ⟨i,e,h⟩=>⟨i,e,h.mono A⟩) (cN.of Yt) (by lia) ?_ ?_⟩
 ·intro j v H4 K1 O s4 k1
  unfold lu at O;rw[QY]at O;obtain⟨i,hi,rfl⟩:=RC.mp O;have il:i<r.length:=Su.mp (Ra.mp<|QN hi).1;obtain⟨vg,ac⟩:∃vg,ss[i]? =some vg:=⟨_,QJ<|by lia⟩;have hg:r[i]? =some r[i]:=QJ il;obtain⟨ga,b3,rfl,bf⟩:=gs.2 _ _ _ ac hg;have ax:=s4 _ _<|J _ _ bf;have as:=s4 _ _<|s3 _ _ N;have a4:Ge r i=(r[i].1,r[i].2,.saw i):=by
   unfold Ge;rw[hg]
  refine⟨_,rfl,_,rfl,xL as (dj ac)<|xT ax rfl ⟨_,rfl,_,rfl,xL as (dj ac)<|xT ax rfl ⟨_,rfl,tf,λwa Z=>⟨uB,λta I=>?_⟩⟩⟩⟩;refine k1 _ _ ((cH.upd Z).trans<|cH.upd I) ⟨i,hi,ta,rfl,?_⟩;rw[a4];exact⟨wa,cE,cH.upd I _ _ cE⟩
 ·intro l W H4 nl s4 hl bx ur
  have F:=J.trans s4;have bi:Lz kW H4 W (((List.range r.length).filter<|n9 r<|cS sd).map<|Ge r):=by
   refine⟨by rw[bx,QM];unfold lu;rw[QM],λj v d O hd=>?_⟩;obtain⟨i,hi,he⟩:=ur j v O;rw[QY,hi]at hd;cases hd;exact he
  have b1:W.length<=24:=by lia
  refine⟨_,rfl,x,p,s,t,y,ps,ss,G,ys,g,sd,rfl,bk.mono F,pl,tl,qs.mono<|dw.mono<|Tk.of F,qk,sy.mono<|Tk.of F,XZ,λm vs H5 s5 nm hm tu=>?_⟩;have av:=F.trans s5;have a1:=s5 _ _ hl;have ad:=s5 _ _<|s4 _ _ M;have b4:=tu.1;have b2:=iY (fm g) 0;have ca:(fm g).length=g.length:=QM _;have cc:=qs.1;have fl:=RJ (cZ g sd)<|fu 0<|fm g;have bn:m≠l:=λe=>by rw[e,hl]at nm;cases nm
  have bd:tb≠l:=λe=>by rw[<-e,M]at nl;cases nl
  refine⟨m,rfl,⟨_,cN.of hm⟩,c4 (K:=X.K) (a:=m) (xs:=vs) (Mo x sb tb l H5 (((List.range r.length).filter<|n9 r<|cS sd).map<|Ge r)<|((fu 0<|fm g).filter<|cZ g sd).map<|Hu g) ⟨W,none,none,none,rfl,λb o e _=>e,a1,by lia,by rw[Ul,Ry];exact bi.mono<|kW.mono<|Tk.of s5⟩ ?_ ?_ ?_⟩
  ·rintro i σ H6 hi ⟨Y,e4,e5,e6,rfl,R,B,ul,lz⟩
   exact cN.of<|R _ _ hm bn
  ·rintro i v σ H6 O ⟨Y,e4,e5,e6,rfl,R,B,ul,lz⟩
   have il:=(gI0.mp O).1;obtain⟨A,Yd⟩:∃A,((fu 0<|fm g).filter<|cZ g sd)[i]? =some A:=⟨_,QJ<|by rw[<-tu.1];exact il⟩;obtain⟨a,rfl,ha⟩:=tu.2 _ _ _ O Yd;obtain⟨q,hq,_⟩:=pP qk (Ra.mp<|QN Yd).1;obtain⟨vq,ay⟩:∃vq,G[A.1]? =some vq:=⟨_,QJ<|by rw[qs.1];exact(gI0.mp hq).1⟩;obtain⟨aq,rfl,b0⟩:=qs.2 _ _ _ ay hq;have S:∀{b:Xp}{zs:Xw V},H5 b=some (.tup zs)->b≠l:=λh e=>by rw[e,a1]at h;cases h
   have U:=av _ _ b0;have bv:=R _ _ ha<|S ha;have am:=R _ _ U<|S U;have an:=R _ _ ad bd;refine⟨a,_,rfl,fe.of bv,rfl,_,_,rfl,_,_,rfl,_,_,rfl,rfl,?_⟩;refine⟨_,rfl,.inl ⟨rfl,_,cN.of B⟩,_,rfl,_,rfl,_,rfl,xL an (dj ay)<|xT am rfl ⟨_,rfl,_,rfl,uB,λwa Z=>⟨uB,λta I=>?_⟩⟩⟩;have sA:=cH.upd (o:=.tup [.str "heard",.int (A.1:Nat),.str A.2.1]) Z;have sB:=cH.upd (o:=.tup [.str A.2.2,.int q.1,.ref wa]) I;have ab:=sA.trans sB;have a0:=ab _ _ B;refine⟨l,Y,.ref ta,rfl,rfl,a0,by lia,?_⟩;have ar:=Tk.upd a0 (ys:=Y++[.ref ta]);have bm:Hu g A=(A.2.2,q.1,.hrd A.1 A.2.1):=by
    unfold Hu;rw[eZ hq]
   have tt:(((fu 0<|fm g).filter<|cZ g sd).map<|Hu g).take (i+1)=(((fu 0<|fm g).filter<|cZ g sd).map<|Hu g).take i++[Hu g A]:=by
    rw[RN,QY,Yd];rfl
   refine⟨Y++[.ref ta],_,_,_,rfl,λb o e n=>by rw[cG n];exact ab _ _<|R b o e n,cE,by rw[QK];show Y.length+1<=_;lia,?_⟩;rw[tt,<-QS];refine Lz.snoc ((lz.mono<|kW.mono<|Tk.of ab).mono<|kW.mono ar) ⟨ta,rfl,?_⟩;rw[bm];exact lZ.mono ar ⟨wa,cE,sB _ _ cE⟩
  ·rintro σ H6 ⟨Y,e4,e5,e6,rfl,R,B,ul,lz⟩
   refine⟨_,rfl,k l Y H6 (λb o e=>R b o (av _ _ e)<|cF e<|J.free nl) (J.free nl) B ?_ (by lia)⟩;rw[Se<|by rw[QM];lia]at lz;exact lz
end K43
namespace K43
variable {P:Xr}{w:Xs}{K:Frag}{mg:XB}{base:Heap}{kw C:Xp}{f:Xp}{fd:FuncData}
abbrev Pl:=NK.Pl
def jh(z:Xx):Pl:=.inl<|.inr z
def ne_nil(l:σ[i]? =some (some<|.ref a))(h:H a=some (.lst xs))(k:∀H',cH H H'->Q (.bl<|!xs.isEmpty) H'):Fm (λx y H Q=>FP K x y H Q) (jd i) (FA kU) σ H Q:=by
 refine⟨_,l,by decide,λe n=>?_⟩;have f:=cH.upd (o:=.lst []) n;cases xs with
 |nil=>exact .same a e [] [] [] rfl rfl (cN.of<|f _ _ h) (cN.of cE) rfl rfl (λi u v c m=>by cases m)<|k _ f
 |cons g j=>exact .other a e (g::j) [] rfl rfl (cN.of<|f _ _ h) (cN.of cE) (by grind)<|k _ f
theorem iV{α:Type} [DecidableEq α]:∀{xs ys:Xw α},xs.Nodup->(∀x∈xs,x∈ys)->xs.length<=ys.length
 |[],_,_,_=>RQ _
 |x::xs,ys,nd,h=>by
  obtain⟨f,g⟩:=Tj.mp nd;have m:=h x<|.head _;have:=iV (ys:=ys.erase x) g λy a=>(List.mem_erase_of_ne λe=>f<|by rw[<-e];exact a).mpr<|h y<|.tail _ a;grind
section
variable (P:Xr)(w:Xs)
structure L6(H:Hp)(a:Xp)(f:Pl->Xu Int)(B:Nat):Prop where
 ex:∃kv,H a=some (.ext (Dφ (eQ P w) a kv))/\DD (eQ P w) H a kv/\kv.length<=B/\∀v,jF kv v=(f v).map V.int
structure d5(H:Hp)(r:Xp)(K:Pl->Bool)(G:Pl->Pl->Xu Int)(ia:Pl->Xp)(B:Nat):Prop where
 ex:∃XD,H r=some (.ext (Dφ (eQ P w) r XD))/\DD (eQ P w) H r XD/\XD.length<=B/\∀u,jF XD u=if K u=true then some (.ref (ia u)) else none
 inn:∀u,K u=true->L6 P w H (ia u) (G u) B
 ne:∀u,K u=true->ia u≠r
 inj:∀u v,K u=true->K v=true->ia u=ia v->u=v
 no:∀u,K u=false->∀v,G u v=none
def fJ(H:Hp)(d:Xp)(L:Xw (Pl×Pl))(a:Pl×Pl->Int):Prop:=∃f,DD (nC P w) H d f/\f.map (λe=>(e.1,e.2.2))=L.map λl=>([l.1,l.2],V.int<|a l)
end
def qy(G:Pl->Pl->Xu Int)(u v:Pl)(n:Int):Pl->Pl->Xu Int:=λx y=>if x=u/\y=v then some n else G x y
section
variable {P:Xr}{w:Xs}{H H':Hp}{a r:Xp}{f:Pl->Xu Int}{K:Pl->Bool}{G:Pl->Pl->Xu Int}{ia:Pl->Xp}{B B':Nat}{u v:Pl}{y:V}
def L6.keep(h:L6 P w H a f B)(e:H' a=H a)(t:Tk H H')(l:B<=B'):L6 P w H' a f B':=by
 obtain⟨n,j,g,m,i⟩:=h.ex;exact⟨n,by rw[e];exact j,g.mono e t,Rn m l,i⟩
def d5.there(h:d5 P w H r K G ia B)(k:K u=true):∃o,H (ia u)=some o:=let ⟨_,e,_⟩:=(h.inn u k).ex;⟨_,e⟩
def d5.same(h:d5 P w H r K G ia B)(s:cH H H')(l:B<=B'):d5 P w H' r K G ia B':=by
 obtain⟨f,i,a,j,g⟩:=h.ex;refine⟨⟨f,s _ _ i,a.same s,Rn j l,g⟩,λu k=>?_,h.ne,h.inj,h.no⟩;obtain⟨o,e⟩:=h.there k;exact(h.inn u k).keep (by rw[e,s _ _ e]) (Tk.of s) l
def vz [DecidableEq κ]{x:κ}{v:V}(h:jF XD x=some v):∃e,jf XD x=some e/\e.2.2=v:=by
 unfold jF at h;obtain⟨e,a,f⟩:=RC.mp h;grind
def d5.get{Q:VK}(h:d5 P w H r K G ia B)(k:K u=true)(g:iF H u y)(q:Q (.ref<|ia u) H):Al (eQ P w) (.ref r) y H Q:=by
 obtain⟨i,m,f,n,j⟩:=h.ex;have:=j u;rw[QR k]at this;obtain⟨e,a,l⟩:=vz this;exact⟨r,i,u,e,rfl,f,g,a,by rw[l];exact q⟩
def L6.get{n:Int}(h:L6 P w H a f B)(g:f v=some n)(l:iF H v y)(q:Q (.int n) H):Al (eQ P w) (.ref a) y H Q:=by
 obtain⟨m,r,j,s,o⟩:=h.ex;have:=o v;rw[g]at this;obtain⟨e,i,p⟩:=vz this;exact⟨a,m,v,e,rfl,j,l,i,by rw[p];exact q⟩
def d5.put(h:d5 P w H r K G ia B)(k:K u=true)(m:iF H v y)(l:B+2<sizeLine)(bl:B+1<=B'\/((G u v).isSome=true/\B<=B'))(q:∀H',(∀b,b≠ia u->H' b=H b)->d5 P w H' r K (qy G u v n) ia B'->Q H'):wg (eQ P w) (.ref<|ia u) y (.int n) H Q:=by
 obtain⟨g,f,i,M,J⟩:=(h.inn u k).ex;refine⟨ia u,g,v,rfl,i,f,m,q _ (λb p=>cG p) ?_⟩;have t:Tk H (upd H (ia u)<|.ext<|Dφ (eQ P w) (ia u)<|fA g v y<|.int n):=λb L e=>by
  rw[cG λz=>by rw[z,f]at e;cases e];exact e
 obtain⟨F,E,s,I,D⟩:=h.ex;have j:r≠ia u:=λe=>h.ne u k e.symm;have o:=bl.elim (λz=>by lia) λz=>z.2;refine⟨⟨F,by rw[cG j];exact E,s.mono (cG j) t,Rn I o,D⟩,λx a=>?_,h.ne,h.inj,λx a z=>?_⟩
 ·by_cases e:x=u
  ·subst e
   refine⟨_,cE,i.put f m<|by lia,?_,λz=>?_⟩
   ·obtain bl|⟨bl,N⟩:=bl
    ·have:=l5 g v y (.int n)
     lia
    ·rw[wz<|by grind,QM]
     lia
   ·rw[u9]
    unfold qy;by_cases q:z=v
    ·grind
    ·grind
  ·have A:=λz=>e (h.inj x u a k z)
   have C:qy G u v n x=G x:=funext λz=>QO λq=>e q.1;rw[C];exact(h.inn x a).keep (cG A) t o
 ·exact(QO λ(q:x=u/\z=v)=>by rw[q.1,k]at a;cases a).trans (h.no x a z)
def d5.sd(h:d5 P w H r K G ia B)(U:iF H u y)(D:H q=none)(L:(q==sysModules)=false)(l:B+2<sizeLine)
  (k:∀z H' C f,(∀b o,H b=some o->b≠r->H' b=some o)->d5 P w H' r C G f (B+1)->C u=true->(∀x,C x=true↔(K x=true\/x=u))->(∀x,C x=true->(K x=true/\f x=ia x)\/H (f x)=none)->Q z H'):Oc (eQ P w) r y (.ref q) (upd H q<|.ext<|Dφ (eQ P w) q []) Q:=by
 have s:=cH.upd (o:=.ext<|Dφ (eQ P w) q []) D;have F:upd H q (.ext<|Dφ (eQ P w) q []) q=some (.ext<|Dφ (eQ P w) q []):=cE;generalize upd H q (.ext<|Dφ (eQ P w) q [])=H1 at s F;have I:=h.same (B':=B) s<|QP _;obtain⟨E,J,M,Y,T⟩:=I.ex;have i:=U.mono<|Tk.of s;have g:=T u;refine⟨E,u,M,J,i,λe p=>?_,λp=>?_⟩
 ·have m:K u=true:=by
   unfold jF at g;rw[p]at g;by_cases z:K u=true
   ·exact z
   ·grind
  exact k _ H1 K ia (λb o e _=>s _ _ e) (I.same (cH.refl _)<|by lia) m (λx=>⟨.inl,λz=>z.elim id λz=>by rw[z];exact m⟩) λx a=>.inl ⟨a,rfl⟩
 ·have W:jF E u=none:=by
   unfold jF;rw[p];rfl
  have m:K u=false:=by grind
  rw[<-qh W];obtain⟨_,R,_⟩:=h.ex;have A:q≠r:=λe=>by rw[e,R]at D;cases D
  have t:Tk H1 (upd H1 r<|.ext<|Dφ (eQ P w) r<|fA E u y<|.ref q):=λb X e=>by
   rw[cG λz=>by rw[z,J]at e;cases e];exact e
  have key:∀x,(decide (x=u)||K x)=true↔(K x=true\/x=u):=λx=>by grind
  have no:∀x,K x=true->ia x≠q/\x≠u:=λx a=>by
   obtain⟨o,e⟩:=h.there a;exact⟨cF e D,λz=>by rw[z,m]at a;cases a⟩
  refine k _ _ (λx=>decide (x=u)||K x) (λx=>if x=u then q else ia x) (λb o e n=>by rw[cG n];exact s _ _ e) ⟨⟨_,cE,M.put J i<|by lia,?_,λx=>?_⟩,λx a=>?_,λx a=>?_,λx z a S e=>?_,λx a z=>?_⟩ ((key u).mpr<|.inr rfl) key λx a=>?_
  ·have:=l5 E u y (.ref q)
   lia
  ·rw[u9]
   by_cases e:x=u
   ·grind
   ·grind
  ·by_cases e:x=u
   ·subst e
    rw[QR rfl];exact⟨[],by rw[cG A];exact F,⟨.inl<|by rw[cG A];exact F,(λe p=>nomatch p),UE,L,by grind⟩,RQ _,λv=>by rw[h.no x m v];rfl⟩
   ·have j:=((key x).mp a).resolve_right e
    rw[QO e];exact(I.inn x j).keep (cG<|h.ne x j) t (by lia)
  ·by_cases e:x=u
   ·grind
   ·rw[QO e]
    exact h.ne x<|((key x).mp a).resolve_right e
  ·by_cases O:x=u
   ·grind
   ·by_cases N:z=u
    ·grind
    ·rw[QO O,QO N]at e
     exact h.inj x z (((key x).mp a).resolve_right O) (((key z).mp S).resolve_right N) e
  ·exact h.no x (RH.mpr λq=>by rw[(key x).mpr<|.inl q]at a;cases a) z
  ·grind
end
def zb(L:Xw (Pl×Pl))(u v:Pl):Prop:=(u,v)∈L\/(v,u)∈L
noncomputable instance decL (l:Pl×Pl)(L:Xw (Pl×Pl)):Decidable (l∈L):=Classical.propDecidable _
noncomputable instance decA (L:Xw (Pl×Pl))(u v:Pl):Decidable (zb L u v):=Classical.propDecidable _
noncomputable def jQ (L:Xw (Pl×Pl))(R:Pl->Pl->Int):Pl->Pl->Xu Int:=λu v=>if zb L u v then some (R u v) else none
noncomputable def R0 (L:Xw (Pl×Pl))(a:Pl×Pl->Int):Pl->Pl->Int:=λu v=>if(u,v)∈L then a (u,v) else 0
def FT(n:(b,a) ∉ L)(ne:a≠b):jQ (L++[(a,b)]) (R0 (L++[(a,b)]) cap)=qy (qy (jQ L<|R0 L cap) a b<|cap (a,b)) b a 0:=by
 funext u v
 have mem:∀x y:Pl,(x,y)∈L++[(a,b)]↔((x,y)∈L\/(x=a/\y=b)):=λx y=>by grind
 unfold qy;by_cases q:u=b/\v=a
 ·rw[QR q,q.1,q.2]
  unfold jQ R0;rw[QR<|.inr<|(mem a b).mpr<|.inr ⟨rfl,rfl⟩,QO λz=>((mem b a).mp z).elim n λw=>ne w.2]
 ·rw[QO q]
  by_cases e:u=a/\v=b
  ·rw[QR e,e.1,e.2]
   unfold jQ R0;have m:=(mem a b).mpr<|.inr ⟨rfl,rfl⟩;rw[QR<|.inl m,QR m]
  ·rw[QO e]
   have g:zb (L++[(a,b)]) u v↔zb L u v:=or_congr (by grind) (by grind);unfold jQ R0;by_cases f:(u,v)∈L
   ·grind
   ·grind
inductive QE(P:Xr)(w:Xs)(vs:Xw V)(H:Hp)(Q:VK):Prop
 |mk(d:Xp)(L:Xw (Pl×Pl))(a:Pl×Pl->Int)(e:vs=[.ref d])(g:fJ P w H d L a)(js:FL.Net L)(h:L.length<=100000)
  (k:∀(r:Xp)(H':Hp)(K:Pl->Bool)(f:Pl->Xp),(∀b o,H b=some o->b≠d->H' b=some o)->fJ P w H' d L a->d5 P w H' r K (jQ L (R0 L a)) f (4*L.length)->H r=none->(∀u,K u=true->H (f u)=none)->(∀u,K u=true↔∃v,zb L u v)->Q (.ref r) H')
def KW(P:Xr)(w:Xs):Sp:=λa H Q _=>QE P w a H Q
inductive MH(P:Xr)(w:Xs)(d r:Xp)(g:Hp)(L:Xw (Pl×Pl))(a:Pl×Pl->Int)(i:Nat)(σ:St)(f:Hp):Prop
 |mk(n l m j:Xu V)(K:Pl->Bool)(h:Pl->Xp)(e:σ=[some (.ref d),some (.ref r),n,l,m,j])(rd:d5 P w f r K (jQ (L.take i) (R0 (L.take i) a)) h (4*i))(q:∀b o,g b=some o->f b=some o)(fr:∀u,K u=true->g (h u)=none)(p:∀u,K u=true↔∃v,zb (L.take i) u v)
def fJ.at{P:Xr}{w:Xs}{H:Hp}{d:Xp}{L:Xw (Pl×Pl)}{a:Pl×Pl->Int}{XD:Xw (Xw Pl×V×V)}(v:DD (nC P w) H d XD)(p:XD.map (λe=>(e.1,e.2.2))=L.map λl=>([l.1,l.2],V.int<|a l)){i:Nat}{e:Xw Pl×V×V}(he:XD[i]? =some e):∃l b g m,L[i]? =some l/\e.1=[l.1,l.2]/\e.2.1=.ref b/\e.2.2=.int (a l)/\H b=some (.tup [g,m])/\iF H l.1 g/\iF H l.2 m:=by
 have h:(XD.map λe=>(e.1,e.2.2))[i]? =some (e.1,e.2.2):=by rw[QY,he];rfl
 rw[p,QY]at h;obtain⟨l,s,q⟩:=RC.mp h;obtain⟨q1,z⟩:=Ug q;obtain⟨b,A,o,f,j⟩:=v.r e<|QN he;rw[<-q1]at j;cases j with
 |cons x t=>
  cases t with
  |cons y n=>
   cases n;exact⟨l,b,_,_,s,q1.symm,o,z.symm,f,x,y⟩
def xn:cK ["links","room","link","most","one","other"] ["links"] (cI k7):={}
def N2 {fd:FuncData}(D:Df K mg "rooms_of" k7 ["links"] f fd):Gd P w K mg base 1 "rooms_of" (KW P w):=by
 refine aG D xn λX H vs Q E j h=>?_;obtain⟨d,L,bi,rfl,⟨a,G,ek⟩,js,ll,k⟩:=h;obtain⟨rfl,rfl⟩:=And.intro j.pr j.wd;have g:=jb j.room;have XO:=Rh;have kl:a.length=L.length:=by
  have:=RP List.length ek
  rwa [QM,QM]at this
 obtain⟨S0,O,S2,S3,S4,S5,_⟩:=j.fc [0,1,2,3,4,5];refine⟨_,(af (au O j.nd J.zC)
 (af (aZ j.own j.calm (J.LD<|aa S0) (bO j.calm<|aT (aN S2 j.nd)<|aT (aN S3 j.nd) bH)
 (af (au S4 j.nd<|ai aE (aa S2) ae ah)
 (af (au S5 j.nd<|ai aE (aa S2) ae ah)
 (af (br<|J.Eg g (aa O) (aa S4) J.zC)
 (af (br<|J.Eg g (aa O) (aa S5) J.zC)
 (af (J.Ew g (bM g (aa O) (aa S4) aR) (aa S5)<|aa S3)
 (ag<|J.Ew g (bM g (aa O) (aa S5) aR) (aa S4) ae)))))))
 (ag<|aw<|aa O))),?_⟩
 intro r nr bf;have s1:=cH.upd (o:=.ext<|Dφ (eQ X.prog X.w) r []) nr;have s:upd H r (.ext<|Dφ (eQ X.prog X.w) r []) r=some (.ext<|Dφ (eQ X.prog X.w) r []):=cE;generalize upd H r (.ext<|Dφ (eQ X.prog X.w) r [])=H1 at s1 s;obtain⟨od,hd⟩:∃od,H d=some od:=G.h.elim (λz=>⟨_,z⟩) λ⟨_,z⟩=>⟨_,z⟩;have x:r≠d:=λe=>by rw[e,hd]at nr;cases nr
 refine⟨_,rfl,d,a,rfl,G.same s1,λo H2 eb ed=>?_⟩;have an:∀b u,upd H d (.ext<|Fz d o<|Dφ (nC X.prog X.w) d a) b=some u->H2 b=some u:=λb u e=>by
  by_cases z:b=d
  ·rw[z]at e ⊢
   rw[cE]at e;rw[ed];exact e
  ·rw[cG z]at e
   rw[eb b z];exact s1 _ _ e
 have A:upd H d (.ext<|Fz d o<|Dφ (nC X.prog X.w) d a) r=none:=by rw[cG x];exact nr
 have M:upd H d (.ext<|Fz d o<|Dφ (nC X.prog X.w) d a) d=some (.ext<|Fz d o<|Dφ (nC X.prog X.w) d a):=cE;have back:∀b u,H b=some u->b≠d->upd H d (.ext<|Fz d o<|Dφ (nC X.prog X.w) d a) b=some u:=λb u e n=>by rw[cG n];exact e
 have non:∀b,upd H d (.ext<|Fz d o<|Dφ (nC X.prog X.w) d a) b=none->H b=none:=λb e=>by
  by_cases z:b=d
  ·grind
  ·rw[cG z]at e
   exact e
 have B:DD (nC X.prog X.w) (upd H d<|.ext<|Fz d o<|Dφ (nC X.prog X.w) d a) d a:=by
  have t:∀b N,H b=some (.tup N)->upd H d (.ext<|Fz d o<|Dφ (nC X.prog X.w) d a) b=some (.tup N):=λb N e=>back b _ e λz=>by
   rw[z]at e;rcases G.h with h|⟨_,h⟩<;>(rw[h]at e;cases e)
  exact⟨.inr ⟨o,M⟩,λe he=>(nC X.prog X.w).mono t<|G.r e he,G.nd,G.ns,G.l⟩
 generalize upd H d (.ext<|Fz d o<|Dφ (nC X.prog X.w) d a)=m at an A M back non B;refine JN (MH X.prog X.w d r m L bi) ⟨none,none,none,none,λ_=>false,λ_=>0,rfl,⟨⟨[],by rw[eb r x];exact s,⟨.inl<|by rw[eb r x];exact s,(λe he=>nomatch he),UE,bf,by show 0<sizeLine;decide⟩,RQ _,λu=>rfl⟩,(λu k=>by cases k),(λu k=>by cases k),(λu v k=>by cases k),λu _ v=>?_⟩,an,(λu k=>by cases k),λu=>⟨(λz=>by cases z),λ⟨v,z⟩=>by rw[Ul]at z;exact z.elim (λz=>nomatch z) λz=>nomatch z⟩⟩ ?_ ?_ ?_
 ·rw[Ul]
  exact QO λz=>z.elim (λz=>nomatch z) λz=>nomatch z
 ·rintro i σ H3 hi ⟨e2,e3,e4,e5,K',ia,rfl,rd,F,fr,Y⟩
  exact F _ _ M
 ·rintro i e p σ H3 he np ⟨e2,e3,e4,e5,K',ia,rfl,rd,F,fr,Y⟩
  obtain⟨l,b,y1,y2,hl,ea,a0,ev,hb,p1,p2⟩:=fJ.at (B.same F) ek he;have il:i<L.length:=(gI0.mp hl).1;have ml:l∈L:=QN hl;have tk:L.take (i+1)=L.take i++[(l.1,l.2)]:=by
   rw[RN,hl];rfl
  rw[a0,ev];generalize bm:upd H3 p _=H4;obtain⟨Z,ay⟩:=nx np bm;have T:=rd.same (B':=4*i) Z<|QP _;have aq:∀b o,m b=some o->H4 b=some o:=λb o e=>Z _ _<|F b o e;have ar:=Z _ _ hb;have U:=p1.mono<|Tk.of Z;have ax:=p2.mono<|Tk.of Z;refine⟨p,_,rfl,fe.of ay,rfl,_,_,rfl,_,_,rfl,rfl,?_⟩;refine⟨_,rfl,xT ar rfl ⟨_,rfl,xT ar rfl ?_⟩⟩;obtain⟨bb,r1,r2,r3,r4⟩:=T.ex;refine⟨_,rfl,r,bb,rfl,r2,_,rfl,λq nq I=>T.sd U nq I (by lia) λz5 H5 K5 ac f5 am k5 bn a1=>?_⟩;have ap:∀b o,m b=some o->H5 b=some o:=λb o e=>f5 b o (aq b o e)<|cF e A;have a4:∀u,K5 u=true->m (ac u)=none:=λu k=>(a1 u k).elim (λz=>by rw[z.2];exact fr u z.1) λz=>by
   cases w:m (ac u) with
   |none=>rfl
   |some o=>rw[aq _ _ w]at z;cases z
  have t5:Tk H4 H5:=λb N e=>f5 b _ e ((λe z=>by rw[z,r1]at e;cases e) e);have as:=U.mono t5;have W:=ax.mono t5;obtain⟨ab,a2,av,b0,bx⟩:=am.ex;refine⟨_,rfl,r,ab,rfl,av,_,rfl,λq nq I=>am.sd W nq I (by lia) λz6 H6 K6 C f6 y k6 S a9=>?_⟩;have b1:∀b o,m b=some o->H6 b=some o:=λb o e=>f6 b o (ap b o e)<|cF e A;have a3:∀u,K6 u=true->m (C u)=none:=λu k=>(a9 u k).elim (λz=>by rw[z.2];exact a4 u z.1) λz=>by
   cases w:m (C u) with
   |none=>rfl
   |some o=>rw[ap _ _ w]at z;cases z
  have t6:Tk H5 H6:=λb N e=>f6 b _ e λz=>by rw[z,a2]at e;cases e
  have al:=as.mono t6;have ad:=W.mono t6;have YC:K6 l.1=true:=(S _).mpr<|.inl k5;refine⟨_,rfl,_,rfl,_,rfl,y.get YC al ⟨_,rfl,y.put (B':=4*i+3) YC ad (by lia) (.inl<|by lia) λH7 f7 R=>?_⟩⟩;have t7:Tk H6 H7:=λb N e=>by
   rw[f7 b λz=>by
    obtain⟨kv,e1,_⟩:=(y.inn _ YC).ex;rw[z,e1]at e;cases e]
   exact e
  have bv:∀b o,m b=some o->H7 b=some o:=λb o e=>by grind
  have bc:=al.mono t7;have be:=ad.mono t7;refine⟨_,rfl,_,rfl,R.get k6 be ⟨_,rfl,R.put (B':=4*(i+1)) k6 bc (by lia) (.inl<|by lia) λH8 f8 bd=>?_⟩⟩;refine⟨_,_,_,_,K6,C,rfl,?_,λb o e=>?_,a3,λu=>?_⟩
  ·rw[tk,FT (λz=>js.one l ml<|SR z)<|js.ne l ml]
   exact bd
  ·grind
  ·rw[S,bn,Y,tk]
   constructor
   ·rintro((⟨v,z⟩|z)|z)
    ·exact⟨v,z.elim (λz=>.inl<|Rj _ z) λz=>.inr<|Rj _ z⟩
    ·exact⟨l.2,.inl<|by grind⟩
    ·exact⟨l.1,.inr<|by grind⟩
   ·rintro⟨v,z|z⟩
    ·obtain z|z:=Ro.mp z
     ·exact .inl<|.inl ⟨v,.inl z⟩
     ·grind
    ·obtain z|z:=Ro.mp z
     ·exact .inl<|.inl ⟨v,.inr z⟩
     ·grind
 ·rintro σ H3 ⟨e2,e3,e4,e5,K',ia,rfl,rd,F,fr,Y⟩
  rw[kl,RX]at rd Y;exact⟨_,rfl,k r H3 K' ia (λb o e n=>F b o<|back b o e n) ⟨a,B.same F,ek⟩ rd nr (λu z=>non _<|fr u z) Y⟩
def ja(R:Hp->V->δ->Prop)(dl:Xw δ)(p:δ->Bool)(mono:∀v d H H',Tk H H'->R H v d->R H' v d)(hz:dl.length<=sizeLine)(T:∀i a,cH H a->i<dl.length->J.go i a)(W:∀a,cH H a->J.stop dl.length a)
  (he:∀(i:Nat)(F:St) v d a E (O:VK)(M:Hp->Prop),dl[i]? =some d->F.length=n->cH H a->J.yld i a v E->(p d=true->∀y x,cH a x->R x y d->O y x)->(p d=false->∀l,cH a l->M l)->
   g v (F++d8 is σ) E λj H4=>(∃r:St,r.length=n/\j=r++d8 is σ)/\tc j H4 λb l=>if b=true then te j l O else M l)
  (q:∀D ys H',H D=none->cH H H'->H' D=some (.lst ys)->Lz R H' ys (dl.filter p)->Q (.ref D) H'):eF J n is g tc te σ H Q:=by
 intro D s;refine⟨λi m ys a=>m=dl.length-i/\i<=dl.length/\cH H a/\a D=some (.lst ys)/\Lz R a ys ((dl.take i).filter p),⟨_,rfl,RQ _,cH.upd s,cE,rfl,λi v d h=>by cases h⟩,?_⟩;rintro i m ys a ⟨rfl,X,C,A,G⟩;refine⟨A,?_⟩;have U:ys.length<=i:=by
  rw[G.1];grind
 by_cases f:i<dl.length
 ·have I:=QJ f
  have N:dl.take (i+1)=dl.take i++[dl[i]]:=by simp_all
  refine .inr ⟨T i a C f,λF v E K y=>he i F v dl[i] a E _ _ I K C y (λP z x B S=>⟨B _ _ A,by lia,dl.length-(i+1),by lia,rfl,f,λb o e=>?_,cE,?_⟩) λP l L=>⟨dl.length-(i+1),by lia,rfl,f,C.trans L,L _ _ A,?_⟩⟩
  ·rw[cG<|cF e s]
   exact B _ _<|C _ _ e
  ·have w:=Tk.upd (B _ _ A) (ys:=ys++[z])
   rw[N,SJ,show List.filter p [dl[i]]=[dl[i]] by rw[Sf,QR P];rfl];exact Lz.snoc (G.mono λv d h=>mono v d _ _ ((Tk.of B).trans w) h)<|mono _ _ _ _ w S
  ·rw[N,SJ,show List.filter p [dl[i]]=[] by rw[Sf,QO<|by grind];rfl,Ry]
   exact G.mono λv d h=>mono _ _ _ _ (Tk.of L) h
 ·grind
def Pf(n:Nat):seqIndex? 0 (n+1)=some 0:=by
 unfold seqIndex?;grind
def Fl{os:St}(h:os.length=1):∃o,os=[o]:=by
 cases os with
 |nil=>cases h
 |cons a r=>exact⟨a,by rw[Rm<|SE h]⟩
def Ot{os:St}(h:os.length=2):∃o e,os=[o,e]:=by
 cases os with
 |nil=>cases h
 |cons a r=>
  obtain⟨o,rfl⟩:=Fl<|SE h;exact⟨a,o,rfl⟩
def xW{f:δ->V}(h:Lz (λ_ v d=>v=f d) H ys ds):ys=ds.map f:=by
 refine UU λi=>?_;rw[QY];by_cases g:i<ys.length
 ·have e:=QJ g
  have a:ds[i]? =some (ds[i]'(by rw[<-h.1];exact g)):=QJ _;rw[e,a,h.2 i _ _ e a];rfl
 ·rw[Tx<|by lia,Tx<|by rw[<-h.1];lia]
  rfl
def tE:V->Bool
 |.int n=>decide<|0<n
 |_=>false
def KN(s:Xx)(G:Pl->Pl->Xu Int)(XD:Xw (Pl×V×V)):Prop:=∀(j:Nat) e,XD[j]? =some e->(j=0/\e.1=jh s/\e.2.2=.non)\/∃(f:Nat) (a:Pl×V×V) (n:Int),f<j/\XD[f]? =some a/\e.2.2=a.2.1/\G a.1 e.1=some n/\0<n
structure ju(P:Xr)(w:Xs)(H:Hp)(cm:Xp)(s:Xx)(G:Pl->Pl->Xu Int)(XD:Xw (Pl×V×V)):Prop where
 hm:H cm=some (.ext (Dφ (eQ P w) cm XD))
 dd:DD (eQ P w) H cm XD
 ck:KN s G XD
 st:jh s∈XD.map (·.1)
 cl:∀u∈XD.map (·.1),∀v n,G u v=some n->0<n->v∈XD.map (·.1)
 sub:∀e∈XD,e.1=jh s\/∃u n,G u e.1=some n
inductive Qw(P:Xr)(w:Xs)(vs:Xw V)(H:Hp)(Q:VK):Prop
 |mk(r:Xp)(s:Xx)(K:Pl->Bool)(G:Pl->Pl->Xu Int)(g:Pl->Xp)(B:Nat)(f:Xw Pl)(e:vs=[.ref r,.str s])(hr:d5 P w H r K G g B)(bl:B<=400000)(i:∀u v n,G u v=some n->v∈f)(h:f.length<=400000)
  (k:∀(a:Xp)(XD:Xw (Pl×V×V))(H':Hp),cH H H'->H a=none->ju P w H' a s G XD->Q (.ref a) H')
def J1(P:Xr)(w:Xs):Sp:=λa H Q _=>Qw P w a H Q
inductive IJ(P:Xr)(w:Xs)(r:Xp)(s:Xx)(H1:Hp)(f g:Xp)(G:Pl->Pl->Xu Int)(o:Xw Pl)(m:Nat)(σ:St)(a:Hp):Prop
 |mk(p h l q:Xu V)(XD:Xw (Pl×V×V))(i:Nat)(e:σ=[some (.ref r),some (.str s),some (.ref f),some (.ref g),p,h,l,q])(hm:m=o.length+1-i)(y:cH H1 a)(z:a f=some (.ext (Dφ (eQ P w) f XD)))(B:DD (eQ P w) a f XD)(hw:a g=some (.lst ((XD.drop i).map (·.2.1))))(x:i<=XD.length)(A:KN s G XD)(st:jh s∈XD.map (·.1))
  (cl:∀(j:Nat) e v n,j<i->XD[j]? =some e->G e.1 v=some n->0<n->v∈XD.map (·.1))(sub:∀e∈XD,e.1=jh s\/∃u n,G u e.1=some n)
inductive Na(P:Xr)(w:Xs)(r:Xp)(s:Xx)(H1 i:Hp)(g h fl:Xp)(pv:V)(XD fr:Xw (Pl×V×V))(wl:Xw V)(j:Nat)(σ:St)(a:Hp):Prop
 |mk(l m:Xu V)(e:σ=[some (.ref r),some (.str s),some (.ref g),some (.ref h),some pv,l,some (.ref fl),m])(n:cH H1 a)(o:Tk i a)(p:a g=some (.ext (Dφ (eQ P w) g (XD++(fr.take j).map λf=>(f.1,f.2.1,pv)))))(q:DD (eQ P w) a g (XD++(fr.take j).map λf=>(f.1,f.2.1,pv)))(hw:a h=some (.lst wl))(hf:a fl=some (.lst (fr.map (·.2.1))))
def ox:cK ["room","start","came","waiting","place","around","fresh","other"] ["room","start"] (cI gG):={}
def MV (D:Df K mg "reached_from" gG ["room","start"] f fd):Gd P w K mg base 1 "reached_from" (J1 P w):=by
 refine aG D ox λX H vs Q E R h=>?_;obtain⟨r,s,K',G,ia,B,PL,rfl,hr,bl,pl,ll,k⟩:=h;obtain⟨rfl,rfl⟩:=And.intro R.pr R.wd;have hu:=dZ R.room;have a4:=jb R.room;have XO:sizeLine=16777216:=Rh;obtain⟨S0,S1,S2,S3,S4,S5,S6,S7,_⟩:=R.fc [0,1,2,3,4,5,6,7];refine⟨_,(af (au S2 R.nd<|J.q1 (aa S1) bL)
 (af (au S3 R.nd<|a5<|aj<|aa S1)
 (af (cy R.own (aF (J.lN hu) (aa S3) (a5 bz)<|cL _)
 (af (au S4 R.nd<|bw RZ PySem.F.slot_list_pop PySem.F.type_list_pop J.p5 (aa S3)<|aj ae)
 (af (au S5 R.nd<|J.Ks a4 (aa S0) (aa S4) J.zC)
 (af (J.Mu<|bY (is:=[2,5]) (xs:=["other"]) (ns:=["came","around"]) S6 R.nd R.calm (J.N4<|aa S5) {} (λ_ _ _ _ _=>a6 (i:=0)) (λ_ _ _ _ _=>bC<|a7<|bg (aF bR (J.xE a4 (aS (i:=2)) (aM (i:=0)) aR) ae<|cL _)<|bq<|J.og a4 (aM (i:=0))<|aS (i:=1)) (λ_ _ _ _ _=>aM (i:=0)) R.hsc R.hN (by decide+kernel))
 (af (aZ R.own R.calm (aQ<|aa S6) (aN S7 R.nd)
 (ag<|J.Ew a4 (aa S2) (aa S7)<|aa S4))
 (ag<|br<|bw RZ PySem.F.slot_list_extend PySem.F.type_list_extend J.mP (aa S3)<|aj<|aa S6))))))
 (ag<|aw<|aa S2)))),?_⟩
 intro I a1 b4;refine⟨_,rfl,_,_,rfl,s,rfl,cE,?_⟩;rw[zE];have s1:=cH.upd (o:=.ext<|Dφ (eQ X.prog X.w) I [(.inl<|.inr s,.str s,.non)]) a1;have b2:upd H I (.ext<|Dφ (eQ X.prog X.w) I [(.inl<|.inr s,.str s,.non)]) I=some (.ext<|Dφ (eQ X.prog X.w) I [(jh s,.str s,.non)]):=cE;generalize upd H I (.ext<|Dφ (eQ X.prog X.w) I [(.inl<|.inr s,.str s,.non)])=H1 at s1 b2;refine⟨_,rfl,L7,λN bf=>?_⟩;have s2:=cH.upd (o:=.lst [.str s]) bf;have cp:upd H1 N (.lst [.str s]) N=some (.lst [.str s]):=cE;generalize upd H1 N (.lst [.str s])=H2 at s2 cp;have as:=s2 _ _ b2;have ay:H N=none:=s1.free bf;have ar:I≠N:=λe=>by rw[<-e,b2]at bf;cases bf
 refine⟨IJ X.prog X.w r s H I N G PL,⟨_,none,none,none,none,[(jh s,.str s,.non)],0,rfl,rfl,s1.trans s2,as,⟨.inl as,λe C=>by rw[QQ.mp C];exact rfl,TB _ _,b4,by show 1<sizeLine;decide⟩,cp,RQ _,λj e C=>?_,QQ.mpr rfl,λj e v n hj=>by lia,λe C=>.inl<|by rw[QQ.mp C]⟩,?_⟩
 ·cases j with
  |zero=>
   cases C;exact .inl ⟨rfl,rfl,rfl⟩
  |succ j=>cases C
 rintro m σ H3 ⟨e4,e5,e6,e7,q,i,rfl,rfl,kp,hc,dd,hw,il,ck,st,cl,bv⟩;have dk:q.length<=PL.length+1:=by
  have:=iV (ys:=jh s::PL) dd.nd λx hx=>by
   obtain⟨e,C,rfl⟩:=Ru.mp hx;obtain z|⟨u,n,z⟩:=bv e C
   ·rw[z]
    exact .head _
   ·exact .tail _<|pl _ _ _ z
  rwa [QM,RG]at this
 refine ne_nil (K:=X.K) rfl hw λH4 s4=>⟨_,rfl,?_⟩;cases aq:q.drop i with
 |nil=>
  refine dG ?_;have hi:i=q.length:=by
   have:=RP List.length aq;rw[Sy]at this;have z:([]:Xw (Pl×V×V)).length=0:=rfl;lia
  subst hi;exact⟨_,rfl,k I q H4 (kp.trans s4) a1 ⟨s4 _ _ hc,dd.same s4,ck,st,λu hu v n g p=>by
   obtain⟨e,C,rfl⟩:=Ru.mp hu;obtain⟨j,hj⟩:=Rg C;exact cl j e v n (gI0.mp hj).1 hj g p,bv⟩⟩
 |cons A Y=>
  have db:i<q.length:=by
   have:=RP List.length aq;rw[Sy,RG]at this;lia
  have YQ:q[i]? =some A:=by
   have:(q.drop i)[0]? =some A:=by rw[aq];rfl
   rw[TN]at this;exact this
  have cn:q.drop (i+1)=Y:=by
   rw[<-drop_drop,aq];rfl
  refine fL ⟨IJ X.prog X.w r s H I N G PL<|PL.length+1-(i+1),λdm H' z=>⟨_,by lia,z⟩,?_⟩;rw[aq]at hw;have dc:=kp.trans s4;have c1:=s4 _ _ hc;have c2:=dd.same s4;have bn:=s4 _ _ hw;clear hc dd hw kp s4;refine⟨_,rfl,.inl ⟨rfl,_,cN.of bn⟩,N,_,0,0,A.2.1,rfl,rfl,bn,by decide,by decide,Pf _,rfl,?_⟩;have bi:cH H (upd H4 N<|.lst<|Y.map (·.2.1)):=λb o e=>by
   rw[cG<|cF e ay];exact dc _ _ e
  have b0:upd H4 N (.lst<|Y.map (·.2.1)) N=some (.lst<|Y.map (·.2.1)):=cE;have be:upd H4 N (.lst<|Y.map (·.2.1)) I=some (.ext<|Dφ (eQ X.prog X.w) I q):=by rw[cG ar];exact c1
  have bb:DD (eQ X.prog X.w) (upd H4 N<|.lst<|Y.map (·.2.1)) I q:=c2.mono (cG ar)<|Tk.upd bn;show eR 4 A.2.1 _ (upd H4 N<|.lst<|Y.map (·.2.1)) _;generalize upd H4 N (.lst<|Y.map (·.2.1))=H5 at bi b0 be bb;have am:iF H5 A.1 A.2.1:=bb.r A<|QN YQ;have b1:=hr.same (B':=B) bi<|QP _;obtain⟨bc,r1,r2,r3,r4⟩:=b1.ex;refine⟨_,rfl,r,bc,rfl,r2,_,rfl,λp np co=>?_⟩;have s6:=cH.upd (o:=.ext<|Dφ (eQ X.prog X.w) p []) np;have a9:upd H5 p (.ext<|Dφ (eQ X.prog X.w) p []) p=some (.ext<|Dφ (eQ X.prog X.w) p []):=cE;generalize upd H5 p (.ext<|Dφ (eQ X.prog X.w) p [])=H6 at s6 a9;refine⟨bc,A.1,r2.same s6,am.mono<|Tk.of s6,?_⟩;have around:∃O L,((jf bc A.1).map (·.2.2)).getD (.ref p)=.ref O/\H6 O=some (.ext<|Dφ (eQ X.prog X.w) O L)/\DD (eQ X.prog X.w) H6 O L/\L.length<=400000/\(∀v,jF L v=(G A.1 v).map V.int)/\I≠O:=by
   have c5:(jf bc A.1).map (·.2.2)=_:=r4 A.1;rw[c5];cases hk:K' A.1 with
   |true=>
    obtain⟨L,h1,h2,h3,h4⟩:=(b1.inn _ hk).ex;obtain⟨o,ho⟩:=hr.there hk;exact⟨_,L,rfl,s6 _ _ h1,h2.same s6,Rn h3 bl,h4,(cF ho a1).symm⟩
   |false=>exact⟨p,[],rfl,a9,⟨.inl a9,(λe C=>nomatch C),UE,co,by show 0<sizeLine;decide⟩,RQ _,λv=>by rw[hr.no _ hk v];rfl,cF be np⟩
  obtain⟨O,L,ea,ap,M,cd,va,b3⟩:=around;rw[ea];have de:=bi.trans s6;have a0:=s6 _ _ b0;have a3:=s6 _ _ be;have cs:=bb.same s6;have dg:=am.mono<|Tk.of s6;clear s6 a9 r4 r3 r2 r1 b1 ea np co bi b0 be bb am;refine⟨_,rfl,O,L,rfl,M,λo H7 S W=>?_⟩;have t7:Tk H6 H7:=λb xs e=>by
   rw[S b λz=>by rw[z,ap]at e;cases e];exact e
  have al:DD (eQ X.prog X.w) H7 O L:=⟨.inr ⟨o,W⟩,λe C=>(M.r e C).mono t7,M.nd,M.ns,M.l⟩;have ct:H7 I=some (.ext<|Dφ (eQ X.prog X.w) I q):=by rw[S I b3];exact a3
  have cr:DD (eQ X.prog X.w) H7 I q:=cs.mono (S I b3) t7;have cg:N≠O:=λe=>by rw[<-e,a0]at ap;cases ap
  have da:H7 N=some (.lst<|Y.map (·.2.1)):=by rw[S N cg];exact a0
  refine ja (λ_ v (f:Pl×V×V)=>v=f.2.1) L (λf=>tE f.2.2 && !(jf q f.1).isSome) (λv d _ _ _ h=>h) (by lia) (λj H8 s8 hj=>⟨s8 _ _ W,hj⟩) (λH8 s8=>⟨s8 _ _ W,QP _⟩) ?_ ?_
  ·intro j os v d H8 H9 K1 K2 hd c3 s8 y k1 k2
   obtain⟨e9,d',ce,rfl⟩:=y;subst e9;rw[hd]at ce;cases ce;obtain⟨o1,rfl⟩:=Fl c3;have md:=QN hd;have cc:=EZ M.nd md;obtain⟨n,gn,dn⟩:∃n,G A.1 d.1=some n/\d.2.2=.int n:=by
    have:=va d.1;unfold jF at this;rw[cc]at this;cases hg:G A.1 d.1 with
    |none=>rw[hg]at this;cases this
    |some n=>rw[hg]at this;exact⟨n,rfl,Rr this⟩
   have av:=(al.same s8).r d md;refine⟨⟨[some d.2.1],rfl,rfl⟩,⟨_,rfl,_,rfl,O,L,d.1,d,rfl,al.same s8,av,cc,?_⟩⟩;rw[dn]at k1 k2 ⊢;refine⟨n,0,rfl,rfl,_,rfl,?_⟩;by_cases hn:0<n
   ·have hp:tE (.int n)=true:=dT0 hn
    rw[hp,Sd]at k1 k2;refine fE (dT0 hn) ⟨_,rfl,_,rfl,I,q,d.1,rfl,cr.same s8,av,_,rfl,dD (λz=>⟨_,rfl,k1 z _ _ (cH.refl _) rfl⟩) λz=>k2 (RH.mpr z) _<|cH.refl _⟩
   ·have hp:tE (.int n)=false:=QU hn
    rw[hp,SU]at k2;exact gM (λz=>hn<|QT z)<|dG<|k2 rfl _<|cH.refl _
  ·intro fl ys H8 a2 s8 bx lz
   have ey:=xW (f:=λf:Pl×V×V=>f.2.1) lz;clear lz;subst ey;have fk:∀f∈L.filter λf=>tE f.2.2 && !(jf q f.1).isSome,f∈L/\f.1 ∉ q.map (·.1)/\∃n,G A.1 f.1=some n/\0<n:=λf hf=>by
    obtain⟨h1,h2⟩:=Ra.mp hf;rw[R6]at h2;refine⟨h1,λz=>?_,?_⟩
    ·have:=iK.mpr z
     unfold jF at this;rw[T7]at this;rw[this]at h2;exact absurd h2.2 (by decide)
    ·have:=va f.1
     unfold jF at this;rw[EZ M.nd h1]at this;cases hg:G A.1 f.1 with
     |none=>rw[hg]at this;cases this
     |some n=>
      rw[hg]at this;have e:f.2.2=.int n:=Rr this;rw[e]at h2;exact⟨n,rfl,QT h2.1⟩
   have fa:∀v n,G A.1 v=some n->0<n->v ∉ q.map (·.1)->v∈(L.filter λf=>tE f.2.2 && !(jf q f.1).isSome).map (·.1):=λv n g hn nv=>by
    have:=va v;rw[g]at this;obtain⟨f,hf,ef⟩:=vz this;obtain⟨k1,k2⟩:=oP hf;refine Ru.mpr ⟨f,Ra.mpr ⟨k2,?_⟩,k1⟩;have z:(jf q f.1).isSome=false:=RH.mpr λw=>nv (by
     rw[<-k1];refine iK.mp ?_;unfold jF;rw[T7];exact w)
    rw[z,ef];exact Vh.mpr ⟨dT0 hn,rfl⟩
   have ca:((L.filter λf=>tE f.2.2 && !(jf q f.1).isSome).map (·.1)).Nodup:=SV (List.Sublist.map _ Tq) M.nd;have c7:(L.filter λf=>tE f.2.2 && !(jf q f.1).isSome).length<=400000:=Rn (RJ _ _) cd;have an:∀f∈L.filter λf=>tE f.2.2 && !(jf q f.1).isSome,iF H6 f.1 f.2.1:=λf hf=>M.r f (fk f hf).1;generalize L.filter (λf=>tE f.2.2 && !(jf q f.1).isSome)=T at fk fa ca c7 an bx;refine⟨O,o,L,s8 _ _ W,?_⟩;have ch:fl≠O:=λe=>by rw[e,W]at a2;cases a2
   have U:cH H6 (upd H8 O<|.ext<|Dφ (eQ X.prog X.w) O L):=λb u e=>by
    by_cases z:b=O
    ·rw[z]at e ⊢
     rw[cE,<-e,ap]
    ·rw[cG z]
     exact s8 _ _<|(S b z).trans e
   have ab:upd H8 O (.ext<|Dφ (eQ X.prog X.w) O L) fl=some (.lst<|T.map (·.2.1)):=by rw[cG ch];exact bx
   have ax:H6 fl=none:=by rw[<-S fl ch];exact a2
   generalize upd H8 O (.ext<|Dφ (eQ X.prog X.w) O L)=H9 at U ab;have cx:I≠fl:=cF a3 ax;have dl:N≠fl:=cF a0 ax;clear a2 s8 bx S W t7 al ct cr cg da ap M cd va b3;dsimp only;refine⟨_,rfl,fl,rfl,⟨_,cN.of ab⟩,c4 (K:=X.K) (a:=fl) (xs:=T.map (·.2.1)) (Na X.prog X.w r s H H6 I N fl A.2.1 q T<|Y.map (·.2.1)) ?_ ?_ ?_ ?_⟩
   ·exact⟨_,e7,rfl,de.trans U,Tk.of U,by rw[Ul];exact(Ry q).symm ▸ U _ _ a3,by rw[Ul];exact(Ry q).symm ▸ cs.same U,U _ _ a0,ab⟩
   ·rintro j σ HA hj ⟨e5,e7,rfl,kp,tk,hc,dd,hw,hf⟩
    exact cN.of hf
   ·rintro j v σ HA hv ⟨e5,e7,rfl,kp,tk,hc,dd,hw,hf⟩
    rw[QY]at hv;obtain⟨f,bd,rfl⟩:=RC.mp hv;have jl:=(gI0.mp bd).1;have mf:=QN bd;refine⟨_,rfl,_,rfl,_,rfl,I,_,f.1,rfl,dd,hc,(an f mf).mono tk,?_⟩;have vn:jF (q++(T.take j).map λf=>(f.1,f.2.1,A.2.1)) f.1=none:=by
     cases h:jF (q++(T.take j).map λf=>(f.1,f.2.1,A.2.1)) f.1 with
     |none=>rfl
     |some z=>
      exfalso
      have:=iK.mp (by rw[h];rfl);rw[Sr,Ro]at this;obtain m|m:=this
      ·exact(fk f mf).2.1 m
      ·rw[Th]at m
       obtain⟨f',Z,e'⟩:=Ru.mp m;obtain⟨j',Yv,rfl⟩:=VL Z;rw[RU]at Yv;have e2:T[j'].1=f.1:=by
        have e3:(T.take j)[j'].1=f.1:=e';rw[List.getElem_take]at e3;exact e3
       obtain⟨q1,q2⟩:=gI0.mp bd;have:j'=j:=(TZ (h₀:=by rw[QM];lia) (h₁:=by rw[QM];lia) ca).mp (by rw[Um,Um,q2,e2]);lia
    have ep:fA (q++(T.take j).map λf=>(f.1,f.2.1,A.2.1)) f.1 f.2.1 A.2.1=q++(T.take<|j+1).map λf=>(f.1,f.2.1,A.2.1):=by
     rw[qh vn,RN,bd,Sr,QS];rfl
    have c0:(q++(T.take j).map λf=>(f.1,f.2.1,A.2.1)).length+1<sizeLine:=by
     rw[QK,QM,RU];lia
    have cf:=dd.put (v:=A.2.1) hc ((an f mf).mono tk) c0;rw[ep]at cf ⊢;refine⟨_,_,rfl,λb u e=>?_,λb xs e=>?_,cE,cf,?_,?_⟩
    ·rw[cG<|cF e a1]
     exact kp _ _ e
    ·rw[cG λz=>by rw[z,a3]at e;cases e]
     exact tk _ _ e
    ·rw[cG ar.symm]
     exact hw
    ·rw[cG cx.symm]
     exact hf
   ·rintro σ HA ⟨e5,e7,rfl,kp,tk,hc,dd,hw,hf⟩
    rw[QM,RX]at hc dd;refine⟨_,rfl,.inl ⟨rfl,_,cN.of hw⟩,_,rfl,N,fl,_,_,rfl,rfl,hw,hf,?_,?_⟩
    ·rw[QM,QM,<-cn,Sy]
     lia
    have ew:Y.map (·.2.1)++T.map (·.2.1)=((q++T.map λf=>(f.1,f.2.1,A.2.1)).drop<|i+1).map (·.2.1):=by
     rw[List.drop_append_of_le_length db,cn,Sr,Th];rfl
    rw[ew];have bm:∀{j:Nat}{e:Pl×V×V},q[j]? =some e->(q++T.map λf=>(f.1,f.2.1,A.2.1))[j]? =some e:=λh=>by
     rw[Rf (gI0.mp h).1];exact h
    have ac:∀{x:Pl},x∈q.map (·.1)->x∈(q++T.map λf=>(f.1,f.2.1,A.2.1)).map (·.1):=λh=>by
     rw[Sr];exact Rj _ h
    refine⟨_,_,_,_,q++T.map λf=>(f.1,f.2.1,A.2.1),i+1,rfl,rfl,λb u e=>?_,?_,?_,cE,?_,λj e C=>?_,ac st,λj e v n hj C g hn=>?_,λe C=>?_⟩
    ·rw[cG<|cF e ay]
     exact kp _ _ e
    ·rw[cG ar]
     exact hc
    ·exact dd.mono (cG ar)<|Tk.upd hw
    ·rw[QK]
     lia
    ·by_cases jl:j<q.length
     ·rw[Rf jl]at C
      obtain z|⟨j',e',n,h1,h2,h3⟩:=ck j e C
      ·exact .inl z
      ·exact .inr ⟨j',e',n,h1,bm h2,h3⟩
     ·rw[QW<|by lia,QY]at C
      obtain⟨f,Z,rfl⟩:=RC.mp C;obtain⟨_,_,n,g,hn⟩:=fk f<|QN Z;exact .inr ⟨i,A,n,by lia,bm YQ,rfl,g,hn⟩
    ·by_cases ji:j<i
     ·rw[Rf<|by lia]at C
      exact ac<|cl j e v n ji C g hn
     ·have ej:j=i:=by lia
      subst ej;rw[bm YQ]at C;cases C;by_cases m:v∈q.map (·.1)
      ·exact ac m
      ·rw[Sr,Th]
       exact QV _<|fa v n g hn m
    ·obtain h|h:=Ro.mp C
     ·exact bv e h
     ·obtain⟨f,Z,rfl⟩:=Ru.mp h
      obtain⟨_,_,n,g,_⟩:=fk f Z;exact .inr ⟨A.1,n,g⟩
def NY(m:zb L b a)(ne:b≠a):qy (qy (jQ L R) b a<|R b a-1) a b (R a b+1)=jQ L (FL.way R b a):=by
 funext x y
 unfold qy;by_cases q:x=a/\y=b
 ·rw[QR q,q.1,q.2]
  unfold jQ;rw[QR<|show zb L a b from m.symm,FL.tR ne]
 ·rw[QO q]
  by_cases e:x=b/\y=a
  ·rw[QR e,e.1,e.2]
   unfold jQ;rw[QR m,FL.ub]
  ·rw[QO e]
   unfold jQ;rw[FL.nM e q]
def Ho{L:Xw (Pl×Pl)}{R:Pl->Pl->Int}{s:Xx}{XD:Xw (Pl×V×V)}(nd:(XD.map (·.1)).Nodup)(W:KN s (jQ L R) XD)(st:jh s∈XD.map (·.1)):
  ∃N M,FL.MB L R (jh s) (XD.map (·.1)) N M/\(∀(j:Nat) e,XD[j]? =some e->M e.1=j)/\∀(j:Nat) e,XD[j]? =some e->e.1≠jh s->∃(m:Nat) (a:Pl×V×V),m<j/\XD[m]? =some a/\e.2.2=a.2.1/\N e.1=a.1:=by
 have B:∀{i j:Nat}{e f:Pl×V×V},XD[i]? =some e->XD[j]? =some f->e.1=f.1->i=j:=λ{i j e f} C A h=>by
  obtain⟨a1,a2⟩:=gI0.mp C;obtain⟨b1,X⟩:=gI0.mp A;exact(TZ (h₀:=by rw[QM];lia) (h₁:=by rw[QM];lia) nd).mp (by rw[Um,Um,a2,X,h])
 have pick:∀x:Pl,∃p:Nat×Pl,∀(j:Nat) e,XD[j]? =some e->e.1=x->p.1=j/\(x≠jh s->∃(m:Nat) (a:Pl×V×V) (n:Int),m<j/\XD[m]? =some a/\e.2.2=a.2.1/\p.2=a.1/\jQ L R a.1 x=some n/\0<n):=λx=>by
  by_cases h:x∈XD.map (·.1)
  ·obtain⟨e,r,rfl⟩:=Ru.mp h
   obtain⟨j,w⟩:=Rg r;obtain ⟨_,z,_⟩|⟨m,a,n,C,A,Y,T,U⟩:=W j e w
   ·exact⟨(j,e.1),λi f D H=>⟨B w D H.symm,λl=>absurd z l⟩⟩
   ·refine⟨(j,a.1),λi f D H=>?_⟩
    have S:=B w D H.symm;subst S;rw[w]at D;cases D;exact⟨rfl,λ_=>⟨m,a,n,C,A,Y,rfl,T,U⟩⟩
  ·exact⟨(0,x),λj e r I=>absurd (Ru.mpr ⟨e,QN r,I⟩) h⟩
 obtain⟨F,G⟩:=U5 pick;have get:∀x∈XD.map (·.1),∃(j:Nat) (e:Pl×V×V),XD[j]? =some e/\e.1=x:=λx o=>by
  obtain⟨e,r,rfl⟩:=Ru.mp o;obtain⟨j,w⟩:=Rg r;exact⟨j,e,w,rfl⟩
 have key:∀x∈XD.map (·.1),x≠jh s->(F x).2∈XD.map (·.1)/\(F (F x).2).1<(F x).1/\∃n,jQ L R (F x).2 x=some n/\0<n:=λx o l=>by
  obtain⟨j,e,w,I⟩:=get x o;obtain⟨C,A⟩:=G x j e w I;obtain⟨m,a,n,K,E,P,J,Z,Q⟩:=A l;have:=(G a.1 m a E rfl).1;rw[J,this,C];exact⟨Ru.mpr ⟨a,QN E,rfl⟩,K,n,Z,Q⟩
 have y:∀{u v:Pl}{n:Int},jQ L R u v=some n->zb L u v/\R u v=n:=λ{u v n} h=>by
  unfold jQ at h;by_cases q:zb L u v
  ·rw[QR q]at h
   exact⟨q,Rr h⟩
  ·rw[QO q]at h
   cases h
 refine⟨λx=>(F x).2,λx=>(F x).1,⟨st,λx o l=>(key x o l).1,λx o l=>(key x o l).2.1,λx o l=>?_,λx o l=>?_⟩,λj e r=>(G e.1 j e r rfl).1,λj e r l=>?_⟩
 ·obtain⟨_,_,n,g,O⟩:=key x o l
  show 0<R (F x).2 x;rw[(y g).2];exact O
 ·obtain⟨_,_,n,g,O⟩:=key x o l
  exact(y g).1
 ·obtain⟨m,a,n,K,E,P,J,_⟩:=(G e.1 j e r rfl).2 l
  exact⟨m,a,K,E,P,J⟩
inductive Qr(P:Xr)(w:Xs)(vs:Xw V)(H:Hp)(Q:VK):Prop
 |mk(r g:Xp)(s t:Xx)(K:Pl->Bool)(f:Pl->Xp)(B:Nat)(L:Xw (Pl×Pl))(a:Pl×Pl->Int)(R:Pl->Pl->Int)(XD:Xw (Pl×V×V))(e:vs=[.ref r,.ref g,.str t])(hr:d5 P w H r K (jQ L R) f B)(bl:B<=400000)(cd:ju P w H g s (jQ L R) XD)(mt:jh t∈XD.map (·.1))(js:FL.Net L)(l:FL.gP L a R)(ne:s≠t)(i:∀u,K u=true↔∃v,zb L u v)(j:∀u,K u=true->f u≠g)
  (k:∀(H':Hp)(h:Pl->Pl->Int),(∀b o,H b=some o->(∀u,K u=true->b≠f u)->H' b=some o)->d5 P w H' r K (jQ L h) f B->FL.gP L a h->(∀n,FL.Flow L a (FL.fl R) (jh s) (jh t) n->FL.Flow L a (FL.fl h) (jh s) (jh t) (n+1))->Q .non H')
def Kw(P:Xr)(w:Xs):Sp:=λa H Q _=>Qr P w a H Q
inductive Ja(P:Xr)(w:Xs)(r j:Xp)(s t:Xx)(H1:Hp)(K:Pl->Bool)(h:Pl->Xp)(B:Nat)(L:Xw (Pl×Pl))(a:Pl×Pl->Int)(R:Pl->Pl->Int)(XD:Xw (Pl×V×V))(i:Pl->Pl)(n:Pl->Nat)(m:Nat)(σ:St)(f:Hp):Prop
 |mk(l:Xu V)(e:Pl×V×V)(g:Pl->Pl->Int)(es:σ=[some (.ref r),some (.ref j),some (.str t),some e.2.1,l])(he:XD[m]? =some e)(q:∀b o,H1 b=some o->(∀u,K u=true->b≠h u)->f b=some o)(hr:d5 P w f r K (jQ L g) h B)(p:FL.tO L a R g (jh s) (jh t) (XD.map (·.1)) i n e.1)
def KI{H:Hp}:∀{x:Pl}{y:V},iF H x y->y≠.non
 |.inl (.inr _),_,h,e=>by rw[e]at h;cases h
 |.inl (.inl _),_,h,_=>h.elim
 |.inr _,_,⟨b,h,_⟩,e=>by rw[e]at h;cases h
def wC:cK ["room","came","end","place","before"] ["room","came","end"] (cI kQ):={}
def Oi (D:Df K mg "take_way" kQ ["room","came","end"] f fd):Gd P w K mg base 1 "take_way" (Kw P w):=by
 refine aG D wC λX H vs Q E v h=>?_;obtain⟨r,N,s,t,U,ia,B,L,ac,R,M,rfl,hr,bl,q,mt,js,rm,ne,ku,nc,k⟩:=h;obtain⟨rfl,rfl⟩:=And.intro v.pr v.wd;have g:=jb v.room;have XO:sizeLine=16777216:=Rh;obtain⟨S0,S1,S2,I,S4,_⟩:=v.fc [0,1,2,3,4];refine⟨_,(af (au I v.nd<|aa S2)
 (ag (cy v.own (aF J.oQ (bM g (aa S1) (aa I) aR) bL<|cL _)
 (af (au S4 v.nd<|bM g (aa S1) (aa I) aR)
 (af (J.Js g JR (bM g (aa S0) (aa S4) aR) (aa I) ae λ_ _ _=>rfl)
 (af (J.Js g JZ (bM g (aa S0) (aa I) aR) (aa S4) ae λ_ _ _=>rfl)
 (ag<|au I v.nd<|aa S4))))))),?_⟩
 obtain⟨bf,rk,x,Z,ar⟩:=Ho q.dd.nd q.ck q.st;obtain⟨et,met,ab⟩:=Ru.mp mt;obtain⟨jt,ap⟩:=Rg met;have aq:et.2.1=.str t:=by
  have:=q.dd.r et met;rw[ab]at this;exact this
 refine⟨_,rfl,Ja X.prog X.w r N s t H U ia B L ac R M bf rk,⟨jt,none,et,R,by rw[aq];rfl,ap,λb o e _=>e,hr,by rw[ab];exact FL.tO.first rm mt⟩,?_⟩;rintro m σ H2 ⟨e4,e,A,rfl,W,kp,j,wi⟩;have t2:Tk H H2:=λb xs e=>kp b _ e λu hu z=>by
  obtain⟨_,z1,_⟩:=(hr.inn u hu).ex;rw[<-z,e]at z1;cases z1
 have am:H2 N=H N:=by rw[q.hm];exact kp _ _ q.hm λu hu z=>nc u hu z.symm
 have l:=q.dd.mono am t2;have me:=QN W;have p:=l.r e me;have O:=EZ l.nd me;refine⟨_,rfl,_,rfl,N,M,e.1,e,rfl,l,p,O,rfl,_,rfl,?_⟩;by_cases S:e.1=jh s
 ·have C:e.2.2=.non:=by
   obtain ⟨_,_,z⟩|⟨j',i,n,h1,h2,h3,h4,h5⟩:=q.ck m e W
   ·exact z
   ·exfalso
    obtain⟨C,YQ⟩:∃C,M[0]? =some C:=⟨_,QJ (by have:=(gI0.mp W).1;lia)⟩;obtain ⟨_,z,_⟩|⟨j2,_,_,h,_⟩:=q.ck 0 C YQ
    ·have:=Z 0 C YQ
     rw[z,<-S,Z m e W]at this;lia
    ·lia
  rw[C];refine iN<|k H2 A kp j wi.rm λn F=>?_;rw[S]at wi;exact wi.last (λz=>ne<|by injection z with z;injection z) F
 ·obtain⟨j',i,h1,h2,h3,h4⟩:=ar m e W S
  have ad:=QN h2;have a:=l.r i ad;have nn:(!decide (e.2.2=V.non))=true:=by
   rw[QU<|by rw[h3];exact KI a];rfl
  refine fE nn ⟨Ja X.prog X.w r N s t H U ia B L ac R M bf rk j',λas H' z=>⟨j',h1,z⟩,?_⟩;have mS:e.1∈M.map (·.1):=Ru.mpr ⟨e,me,rfl⟩;have G:zb L i.1 e.1:=by
   have:=x.link e.1 mS S;rw[h4]at this;exact this
  have T:i.1≠e.1:=G.elim (λz=>js.ne _ z) λz=>(js.ne _ z).symm;have Y:U i.1=true:=(ku _).mpr ⟨_,G⟩;have k2:U e.1=true:=(ku _).mpr ⟨_,G.symm⟩;have g1:jQ L A i.1 e.1=some (A i.1 e.1):=QR G;refine⟨_,rfl,_,rfl,N,M,e.1,e,rfl,l,p,O,?_⟩;rw[h3];refine⟨_,rfl,_,rfl,j.get Y a ⟨_,rfl,(j.inn _ Y).get g1 p ⟨_,_,rfl,rfl,j.put (B':=B) Y p (by lia) (.inr ⟨by rw[g1];rfl,QP _⟩) λH3 f3 y=>?_⟩⟩⟩;have al:∀b o,H b=some o->(∀u,U u=true->b≠ia u)->H3 b=some o:=λb o e n=>by
   rw[f3 b<|n _ Y];exact kp b o e n
  have t3:Tk H2 H3:=λb xs e=>by
   rw[f3 b λz=>by
    obtain⟨_,z1,_⟩:=(j.inn _ Y).ex;rw[z,z1]at e;cases e]
   exact e
  have g2:qy (jQ L A) i.1 e.1 (A i.1 e.1-1) e.1 i.1=some (A e.1 i.1):=by
   unfold qy;rw[QO λz=>T z.1.symm];exact QR G.symm
  refine⟨_,rfl,_,rfl,y.get k2 (p.mono t3) ⟨_,rfl,(y.inn _ k2).get g2 (a.mono t3) ⟨_,_,rfl,rfl,y.put (B':=B) k2 (a.mono t3) (by lia) (.inr ⟨by rw[g2];rfl,QP _⟩) λH4 f4 an=>?_⟩⟩⟩;refine⟨_,rfl,_,i,FL.way A i.1 e.1,rfl,h2,λb o e n=>?_,?_,?_⟩
  ·rw[f4 b<|n _ k2]
   exact al b o e n
  ·rw[<-NY G T]
   exact an
  ·have:=wi.step js x S
   rw[h4]at this;exact this
def vi(H:Hp)(v:V)(l:Pl×Pl):Prop:=∃a e f,v=.ref a/\H a=some (.tup [e,f])/\iF H l.1 e/\iF H l.2 f
def vi.mono(t:Tk H H')(h:vi H v l):vi H' v l:=by
 obtain⟨a,j,m,e,g,f,i⟩:=h;exact⟨a,j,m,e,t _ _ g,f.mono t,i.mono t⟩
def ju.mono(h:ju P w H cm s G XD)(x:cH H H'):ju P w H' cm s G XD:=⟨x _ _ h.hm,h.dd.same x,h.ck,h.st,h.cl,h.sub⟩
def ju.keep(h:ju P w H cm s G XD)(e:H' cm=H cm)(t:Tk H H'):ju P w H' cm s G XD:=⟨e.trans h.hm,h.dd.mono e t,h.ck,h.st,h.cl,h.sub⟩
def d5.keep{K:Pl->Bool}(h:d5 P w H r K G ia B)(e:H' r=H r)(j:∀u,K u=true->H' (ia u)=H (ia u))(t:Tk H H'):d5 P w H' r K G ia B:=by
 obtain⟨f,i,a,l,g⟩:=h.ex;exact⟨⟨f,e.trans i,a.mono e t,l,g⟩,λu k=>(h.inn u k).keep (j u k) t<|QP _,h.ne,h.inj,h.no⟩
inductive O3(P:Xr)(w:Xs)(vs:Xw V)(H:Hp)(Q:VK):Prop
 |mk(d:Xp)(s t:Xx)(L:Xw (Pl×Pl))(a:Pl×Pl->Int)(e:vs=[.ref d,.str s,.str t])(h:fJ P w H d L a)(js:FL.Net L)(i:L.length<=100000)(ne:s≠t)(j:∀l∈L,0<=a l)
  (k:∀(g ul f:Xp)(us:Xw V)(XD:Xw (Pl×V×V))(R:Pl->Pl->Int)(n:Int)(H':Hp),(∀b o,H b=some o->b≠d->H' b=some o)->H' g=some (.tup [.ref ul,.ref f])->H' ul=some (.lst us)->Lz vi H' us (L.filter λl=>decide (0<R l.2 l.1))->ju P w H' f s (jQ L R) XD->jh t ∉ XD.map (·.1)->FL.gP L a R->FL.Flow L a (FL.fl R) (jh s) (jh t) n->Q (.ref g) H')
def CB(P:Xr)(w:Xs):Sp:=λa H Q _=>O3 P w a H Q
inductive Ex(P:Xr)(w:Xs)(d r:Xp)(s t:Xx)(H1:Hp)(K:Pl->Bool)(h:Pl->Xp)(L:Xw (Pl×Pl))(a:Pl×Pl->Int)(m:Nat)(σ:St)(f:Hp):Prop
 |mk(g:Xp)(i:Xu V)(XD:Xw (Pl×V×V))(R:Pl->Pl->Int)(n:Int)(e:σ=[some (.ref d),some (.str s),some (.str t),some (.ref r),some (.ref g),i])(hm:m=((L.map λl=>FL.ind (l.1=jh s) (a l)).sum-n).toNat)(j:∀b o,H1 b=some o->b≠d->f b=some o)(p:fJ P w f d L a)(hr:d5 P w f r K (jQ L R) h (4*L.length))(cd:ju P w f g s (jQ L R) XD)(v:FL.gP L a R)(x:FL.Flow L a (FL.fl R) (jh s) (jh t) n)(q:∀u,K u=true->h u≠g)(nd:g≠d)
def fJ.mono(h:fJ P w H d L cap)(e:H' d=H d)(t:Tk H H'):fJ P w H' d L cap:=let ⟨f,g,a⟩:=h;⟨f,g.mono e t,a⟩
def fJ.same(h:fJ P w H d L cap)(s:cH H H'):fJ P w H' d L cap:=let ⟨e,f,a⟩:=h;⟨e,f.same s,a⟩
def fJ.there(h:fJ P w H d L cap):∃φ,H d=some (.ext φ):=let ⟨e,a,_⟩:=h;a.h.elim (λz=>⟨_,z⟩) λ⟨_,z⟩=>⟨_,z⟩
def N5(h:jQ L R u v=some n):v∈L.map (·.1)++L.map (·.2):=by
 unfold jQ at h;by_cases q:zb L u v
 ·exact q.elim (λz=>QV _<|Ru.mpr ⟨_,z,rfl⟩) λz=>Rj _<|Ru.mpr ⟨_,z,rfl⟩
 ·grind
def Ba:cK ["links","start","end","room","came","used"] ["links","start","end"] (cI ph):={}
def JJ {fd:FuncData}(D:Df K mg "filled" ph ["links","start","end"] f fd) (b3:Gd P w K mg base 1 "rooms_of" (KW P w)) (bc:Gd P w K mg base 1 "reached_from" (J1 P w)) (b0:Gd P w K mg base 1 "take_way" (Kw P w)):Gd P w K mg base 2 "filled" (CB P w):=by
 refine aG D Ba λX H vs Q E g h=>?_;obtain⟨d,s,t,L,a,rfl,p,js,ll,ne,cp,k⟩:=h;obtain⟨rfl,rfl⟩:=And.intro g.pr g.wd;have an:=g.gK bc rfl (by lia) (by decide);have U:=jb g.room;have XO:=Rh;obtain⟨S0,S1,S2,S3,S4,S5,_⟩:=g.fc [0,1,2,3,4,5];refine⟨_,(af (au S3 g.nd<|ak (g.gK b3 rfl (by lia)<|by decide)<|aj<|aa S0)
 (af (au S4 g.nd<|ak an<|aB (aa S3)<|aa S1)
 (af (cy g.own (J.AH U (aa S2)<|aa S4)
 (af (br<|ak (g.gK b0 rfl (by lia)<|by decide)<|aP (aa S3) (aa S4)<|aa S2)
 (ag<|au S4 g.nd<|ak an<|aB (aa S3)<|aa S1)))
 (af (bY (is:=[3]) (xs:=["one","other"]) (ns:=["room"]) S5 g.nd g.calm (J.Oa<|aa S0) {} (λ_ _ _ _ _=>J.uW (n:=2) g.calm<|aT (a6 (i:=0))<|aT (a6 (i:=1)) bH) (λ_ _ _ _ _=>bC<|aF bR (J.xE U (J.xE U (aS (i:=2)) (aM (i:=1)) aR) (aM (i:=0)) aR) ae<|cL _) (λ_ _ _ _ _=>aL<|aB (aM (i:=0))<|aM (i:=1)) g.hsc g.hN (by decide+kernel))
 (ag<|aw<|aL<|aB (aa S5)<|aa S4))))),?_⟩
 have ay:(L.map (·.1)++L.map (·.2)).length<=400000:=by
  rw[QK,QM,QM];lia
 obtain⟨φ,hd⟩:=p.there;refine⟨_,rfl,d,L,a,rfl,p,js,ll,λr H1 K' ia a4 ap M nr fr ku=>?_⟩;have bb:FL.gP L a (R0 L a):=by
  have e1:∀l∈L,R0 L a l.1 l.2=a l:=λl p=>QR p;have e2:∀l∈L,R0 L a l.2 l.1=0:=λl p=>QO<|js.one l p;exact⟨λl p=>by rw[e1 l p,e2 l p,WV],λl p=>by rw[e1 l p];exact cp l p,λl p=>by rw[e2 l p];exact UB _⟩
 have be:FL.Flow L a (FL.fl<|R0 L a) (jh s) (jh t) 0:=FL.Flow.zero (λl p=>QO<|js.one l p) cp;refine⟨_,rfl,_,rfl,r,s,K',jQ L<|R0 L a,ia,4*L.length,L.map (·.1)++L.map (·.2),rfl,M,by lia,λu v n=>N5,ay,λW S H2 s2 ar cd=>?_⟩;refine⟨Ex X.prog X.w d r s t H K' ia L a,⟨_,W,none,S,R0 L a,0,rfl,rfl,λb o e n=>s2 _ _<|a4 b o e n,ap.same s2,M.same s2<|QP _,cd,bb,be,λu C=>?_,?_⟩,?_⟩
 ·obtain⟨o,ho⟩:=M.there C
  exact cF ho ar
 ·obtain⟨cc,bv⟩:=ap.there
  exact(cF bv ar).symm
 rintro m σ H3 ⟨W,e5,S,R,n,rfl,rfl,kp,G,O,cd,rm,fw,nc,bn⟩;refine⟨_,rfl,_,rfl,W,S,jh t,rfl,cd.dd,rfl,_,rfl,dD (λN=>?_) λno=>?_⟩
 ·have mt:jh t∈S.map (·.1):=iK.mp (by unfold jF;rw[T7];exact N)
  refine⟨λa2 H'=>Ex X.prog X.w d r s t H K' ia L a (((L.map λl=>FL.ind (l.1=jh s)<|a l).sum-(n+1)).toNat) a2 H'/\n+1<=(L.map λl=>FL.ind (l.1=jh s)<|a l).sum,λa2 H' z=>⟨_,by have:=z.2;lia,z.1⟩,?_⟩;refine⟨_,rfl,_,rfl,_,rfl,r,W,s,t,K',ia,4*L.length,L,a,R,S,rfl,O,by lia,cd,mt,js,rm,ne,ku,nc,λZ R' I F b4 av=>?_⟩;have t4:Tk H3 Z:=λb xs e=>I b _ e λu C z=>by
   obtain⟨_,z1,_⟩:=(O.inn u C).ex;rw[<-z,e]at z1;cases z1
  have ce:∀u,K' u=true->d≠ia u:=λu C=>cF hd<|fr u C;obtain⟨b1,am⟩:=G.there;have bx:=G.mono (by grind) t4;have ab:∀b o,H b=some o->b≠d->Z b=some o:=λb o e n=>I b o (kp b o e n) λu C=>cF e<|fr u C;refine⟨_,rfl,_,rfl,r,s,K',jQ L R',ia,4*L.length,L.map (·.1)++L.map (·.2),rfl,F,by lia,λu v n=>N5,ay,λa9 ad H5 x al a3=>?_⟩;refine⟨⟨a9,e5,ad,R',n+1,rfl,rfl,λb o e n=>x _ _<|ab b o e n,bx.same x,F.same x<|QP _,a3,b4,av n fw,λu C=>?_,?_⟩,(av n fw).bound⟩
  ·obtain⟨o,ho⟩:=F.there C
   exact cF ho al
  ·grind
 ·have nt:jh t ∉ S.map (·.1):=λz=>no (by
   have:=iK.mpr z;unfold jF at this;rw[T7]at this;exact this)
  obtain⟨T,A,ek⟩:=id G;have kl:T.length=L.length:=by
   have:=RP List.length ek
   rwa [QM,QM]at this
  refine⟨_,rfl,d,T,rfl,A,λo Z B Y=>?_⟩;have bm:∀{b:Xp}{xs:Xw V},H3 b=some (.tup xs)->b≠d:=λe z=>by
   obtain⟨b1,am⟩:=G.there;rw[z,am]at e;cases e
  have t4:Tk H3 Z:=λb xs e=>by rw[B b<|bm e];exact e
  have ac:DD (nC X.prog X.w) Z d T:=⟨.inr ⟨o,Y⟩,λe he=>(nC X.prog X.w).mono t4<|A.r e he,A.nd,A.ns,A.l⟩;have bf:=cd.keep (B W bn) t4;have F:=O.keep (B r (cF hd nr).symm) (λu C=>B _ (cF hd<|fr u C).symm) t4;have I:∀b o,H b=some o->b≠d->Z b=some o:=λb o e n=>by
   rw[B b n];exact kp b o e n
  refine ja vi L (λl=>decide<|0<R l.2 l.1) (λv d _ _ t h=>h.mono t) (by lia) (λj H5 x hj=>⟨x _ _ Y,by rw[kl];exact hj⟩) (λH5 x=>⟨x _ _ Y,SA kl⟩) ?_ ?_
  ·intro j os v l H5 H6 K1 K2 as bi x y k1 k2
   obtain⟨e6,e,he,rfl⟩:=y;subst e6;obtain⟨o1,o2,rfl⟩:=Ot bi;obtain⟨l',b,y1,y2,a0,ea,eb,ev,hb,p1,p2⟩:=fJ.at (ac.same x) ek he;rw[as]at a0;cases a0;rw[eb];have ml:=QN as;have a1:zb L l.2 l.1:=.inr ml;have g1:jQ L R l.2 l.1=some (R l.2 l.1):=QR a1;have aq:=(ku l.2).mpr ⟨_,a1⟩;have ax:=F.same (B':=4*L.length) x<|QP _;refine⟨b,_,rfl,fe.of hb,rfl,_,_,rfl,_,_,rfl,rfl,⟨[some y1,some y2],rfl,rfl⟩,?_⟩;refine⟨_,rfl,_,rfl,ax.get aq p2 ⟨_,rfl,(ax.inn _ aq).get g1 p1 ⟨_,_,rfl,rfl,_,rfl,dD (λN=>?_) λno=>k2 (RH.mpr no) _<|cH.refl _⟩⟩⟩;exact⟨_,rfl,_,rfl,tf,λq nq=>k1 N _ _ (cH.upd nq) ⟨q,y1,y2,rfl,cE,p1.mono<|Tk.of<|cH.upd nq,p2.mono<|Tk.of<|cH.upd nq⟩⟩
  ·intro ul us H5 ca x b2 lz
   refine⟨_,rfl,_,rfl,tf,λtp bd=>?_⟩;have s6:=cH.upd (o:=.tup [.ref ul,.ref W]) bd;exact k tp ul W us S R n _ (λb o e n=>s6 _ _<|x _ _<|I b o e n) cE (s6 _ _ b2) (lz.mono λ_ _ h=>h.mono<|Tk.of s6) (bf.mono<|x.trans s6) nt rm fw
def dW(k:Nat):Pl:=.inr [.inr "into",.inl (k:Int)]
def eK(k:Nat):Pl:=.inr [.inr "out",.inl (k:Int)]
abbrev sP:Pl:=jh "start"
abbrev eP:Pl:=jh "end"
def IP:¬("out" :Xx)= "into" :=by decide+kernel
def IY:("start" :Xx)≠ "end" :=by decide+kernel
def kR(h:dW k=dW l):k=l:=by
 injection (Tc h) with _ h2
 grind
def qu(h:eK k=eK l):k=l:=by
 injection (Tc h) with _ h2
 grind
def kK(h:dW k=eK l):False:=by
 injection (Tc h) with h2
 exact IP (Tc h2).symm
def fq(h:dW k=jh z):False:=nomatch h
def eI(h:eK k=jh z):False:=nomatch h
def Jd(h:sP=eP):False:=IY (by injection h with h;injection h)
def qM(f:Xw QD)(F:FH)(z:Xx)(a:Xw TK)(u v:Pl):Prop:=(∃t∈a,u=dW t.1/\v=eK t.1)\/(∃t∈a,eU F t.2.1 (cJ f t.1)=true/\u=sP/\v=dW t.1)\/(∃t∈a,t.2.2=z/\u=eK t.1/\v=eP)\/∃t∈a,∃e∈a,eJ f t e=true/\u=eK t.1/\v=dW e.1
def eV(l:Pl×Pl):Int:=match l.1 with
 |.inr (.inr a::_)=>if a= "into" then 1 else 2
 |_=>2
def yM:eV (dW k,v)=1:=by
 show(if("into" :Xx)= "into" then(1:Int) else 2)=1;grind
def uz:eV (eK k,v)=2:=by
 show(if("out" :Xx)= "into" then(1:Int) else 2)=2;exact QO IP
def Ll(l:Pl×Pl):0<=eV l:=by
 unfold eV;split
 ·split<;>decide
 ·decide
structure kF(qd:Xw QD)(F:FH)(z:Xx)(tl:Xw TK)(L:Xw (Pl×Pl)):Prop where
 nd:L.Nodup
 mem:∀u v,(u,v)∈L↔qM qd F z tl u v
section
variable {qd:Xw QD}{F:FH}{z:Xx}{tl:Xw TK}{L:Xw (Pl×Pl)}{f:Pl×Pl->Int}{n:Int}
def kE{t u:TK}(h:eJ qd t u=true):t.2.2=u.2.1/\cJ qd t.1<cJ qd u.1:=by
 unfold eJ at h;rw[R6]at h;exact⟨QT h.1,QT h.2⟩
def qM.pD(h:qM qd F z tl (dW k) v):v=eK k/\∃t∈tl,t.1=k:=by
 obtain ⟨t,m,a,e⟩|⟨t,m,_,a,e⟩|⟨t,m,_,a,e⟩|⟨t,m,f,g,_,a,e⟩:=h
 ·have:=kR a
  grind
 ·exact(fq a).elim
 ·exact(kK a).elim
 ·exact(kK a).elim
def qM.Ea{k:Nat}{u:Pl}(h:qM qd F z tl u (dW k)):∃t∈tl,t.1=k/\((u=sP/\eU F t.2.1 (cJ qd k)=true)\/∃t'∈tl,eJ qd t' t=true/\u=eK t'.1):=by
 obtain ⟨t,m,e,a⟩|⟨t,m,s,e,a⟩|⟨t,m,_,e,a⟩|⟨t,m,t',f,l,e,a⟩:=h
 ·exact(kK a).elim
 ·have:=kR a
  exact⟨t,m,this.symm,.inl ⟨e,by rw[this];exact s⟩⟩
 ·exact(fq a).elim
 ·exact⟨t',f,(kR a).symm,.inr ⟨t,m,l,e⟩⟩
def qM.qm(h:qM qd F z tl (eK k) v):∃t∈tl,t.1=k/\((v=eP/\t.2.2=z)\/∃t'∈tl,eJ qd t t'=true/\v=dW t'.1):=by
 obtain ⟨t,m,a,e⟩|⟨t,m,s,a,e⟩|⟨t,m,q,a,e⟩|⟨t,m,t',f,l,a,e⟩:=h
 ·exact(kK a.symm).elim
 ·exact(eI a).elim
 ·exact⟨t,m,(qu a).symm,.inl ⟨e,q⟩⟩
 ·exact⟨t,m,(qu a).symm,.inr ⟨t',f,l,e⟩⟩
def qM.IE(h:qM qd F z tl u (eK k)):u=dW k:=by
 obtain ⟨t,m,e,a⟩|⟨t,m,s,e,a⟩|⟨t,m,q,e,a⟩|⟨t,m,g,f,l,e,a⟩:=h
 ·rw[e,qu a]
 ·exact(kK a.symm).elim
 ·exact(eI a).elim
 ·exact(kK a.symm).elim
def qM.w4(h:qM qd F z tl u sP):False:=by
 obtain ⟨t,m,e,a⟩|⟨t,m,s,e,a⟩|⟨t,m,q,e,a⟩|⟨t,m,g,f,l,e,a⟩:=h
 ·exact eI a.symm
 ·exact fq a.symm
 ·exact Jd a
 ·exact fq a.symm
def qM.LG(h:qM qd F z tl eP v):False:=by
 obtain ⟨t,m,a,e⟩|⟨t,m,s,a,e⟩|⟨t,m,q,a,e⟩|⟨t,m,g,f,l,a,e⟩:=h
 ·exact fq a.symm
 ·exact Jd a.symm
 ·exact eI a.symm
 ·exact eI a.symm
def qM.Pe{v:Pl}(h:qM qd F z tl sP v):∃t∈tl,eU F t.2.1 (cJ qd t.1)=true/\v=dW t.1:=by
 obtain ⟨t,m,a,e⟩|⟨t,m,s,a,e⟩|⟨t,m,q,a,e⟩|⟨t,m,g,f,l,a,e⟩:=h
 ·exact(fq a.symm).elim
 ·exact⟨t,m,s,e⟩
 ·exact(eI a.symm).elim
 ·exact(eI a.symm).elim
def kF.js(T:kF qd F z tl L):FL.Net L:=by
 have key:∀u v,qM qd F z tl u v->u≠v/\¬qM qd F z tl v u:=λu v h=>by
  obtain ⟨t,m,rfl,rfl⟩|⟨t,m,s,rfl,rfl⟩|⟨t,m,q,rfl,rfl⟩|⟨t,m,i,j,l,rfl,rfl⟩:=h
  ·refine⟨λe=>kK e,λh=>?_⟩
   obtain⟨a,_,g,⟨e,_⟩|⟨b,_,l,e⟩⟩:=h.qm
   ·exact fq e
   ·have:=(kE l).2
    rw[g,<-kR e]at this;lia
  ·exact⟨λe=>fq e.symm,λh=>h.w4⟩
  ·exact⟨λe=>eI e,λh=>h.LG⟩
  ·refine⟨λe=>kK e.symm,λh=>?_⟩
   have:=(kE l).2;have e:=qu h.pD.1;grind
 exact⟨T.nd,λl f=>(key _ _<|(T.mem _ _).mp f).1,λl f h=>(key _ _<|(T.mem _ _).mp f).2<|(T.mem _ _).mp h⟩
def kF.Ir(T:kF qd F z tl L)(m:t∈tl):(dW t.1,eK t.1)∈L:=(T.mem _ _).mpr<|.inl ⟨t,m,rfl,rfl⟩
def kF.BW(T:kF qd F z tl L)(W:FL.Flow L eV f sP eP n)(m:(dW k,eK k)∈L):f (dW k,eK k)<=1:=by
 have:=W.hi _ m
 rwa [yM]at this
def kF.into(T:kF qd F z tl L)(W:FL.Flow L eV f sP eP n)(m:(u,dW k)∈L):(dW k,eK k)∈L/\f (u,dW k)<=f (dW k,eK k):=by
 obtain⟨t,i,e,_⟩:=((T.mem _ _).mp m).Ea;have g:=T.Ir i;rw[e]at g;exact⟨g,W.into T.nd m g rfl (λe=>fq e) (λe=>fq e) λq h e=>by
  obtain⟨a,b⟩:=q;have e:=e;subst e;rw[((T.mem _ _).mp h).pD.1]⟩
def kF.vY(T:kF qd F z tl L)(W:FL.Flow L eV f sP eP n)(m:(eK k,v)∈L):(dW k,eK k)∈L/\f (eK k,v)<=f (dW k,eK k):=by
 obtain⟨t,i,e,_⟩:=((T.mem _ _).mp m).qm;have g:=T.Ir i;rw[e]at g;exact⟨g,W.vY T.nd m g rfl (λe=>eI e) (λe=>eI e) λq h e=>by
  obtain⟨a,b⟩:=q;have e:=e;subst e;rw[((T.mem _ _).mp h).IE]⟩
def kF.low(T:kF qd F z tl L)(W:FL.Flow L eV f sP eP n)(m:(u,v)∈L):f (u,v)<=1/\(eV (u,v)=2\/∃k,u=dW k/\v=eK k):=by
 obtain ⟨t,a,rfl,rfl⟩|⟨t,a,s,rfl,rfl⟩|⟨t,a,q,rfl,rfl⟩|⟨t,a,g,e,l,rfl,rfl⟩:=(T.mem _ _).mp m
 ·exact⟨T.BW W m,.inr ⟨_,rfl,rfl⟩⟩
 ·have h:=T.into W m
  have:=T.BW W h.1;exact⟨by have:=h.2;lia,.inl rfl⟩
 ·have h:=T.vY W m
  have:=T.BW W h.1;exact⟨by have:=h.2;lia,.inl uz⟩
 ·have h:=T.vY W m
  have:=T.BW W h.1;exact⟨by have:=h.2;lia,.inl uz⟩
theorem vo{β:Type} [DecidableEq β]{g:β->Int}{x y:β}:∀{M:Xw β},(∀l∈M,0<=g l)->x∈M->y∈M->x≠y->g x+g y<=(M.map g).sum
 |[],_,h,_,_=>nomatch h
 |a::r,p,hx,hy,ne=>by
  rw[RL,TH];have q:=p a<|.head _;have f:=λl n=>p l<|.tail _ n;obtain j|i:=Rq.mp hx
  ·subst j
   have:=FL.qe f<|(Rq.mp hy).resolve_left λe=>ne e.symm;lia
  ·obtain o|m:=Rq.mp hy
   ·subst o
    have:=FL.qe f i;lia
   ·have:=vo f i m ne
    lia
def kF.zN(T:kF qd F z tl L)(W:FL.Flow L eV f sP eP n){v i:Pl}(m:(eK k,v)∈L)(r:(eK k,i)∈L)(p:0<f (eK k,v))(y:0<f (eK k,i)):v=i:=by
 apply RR;intro j;obtain⟨g,_⟩:=T.vY W m;have l:=FL.k8 L f<|eK k;rw[W.no _ (λe=>eI e) λe=>eI e]at l;have s:FL.Iq L f (eK k)<=f (dW k,eK k):=by
  have:=FL.iX (f:=λq:Pl×Pl=>FL.ind (q.2=eK k)<|f q) T.nd (FL.gX<|W.lo _ g) λq h j=>FL.c6 λw=>j (by
   obtain⟨a,b⟩:=q;have w:=w;subst w;rw[((T.mem _ _).mp h).IE])
  rwa [FL.c8 rfl]at this
 have o:=vo (g:=λq:Pl×Pl=>FL.ind (q.1=eK k)<|f q) (λq h=>FL.gX<|W.lo q h) m r λe=>j (Ug e).2;rw[FL.c8 rfl,FL.c8 rfl]at o;have x:_=FL.ro L f (eK k):=rfl;have:=T.BW W g;unfold FL.ro at l;lia
def kF.xQ(T:kF qd F z tl L)(W:FL.Flow L eV f sP eP n){u j:Pl}(m:(u,dW k)∈L)(o:(j,dW k)∈L)(p:0<f (u,dW k))(v:0<f (j,dW k)):u=j:=by
 apply RR;intro i;obtain⟨g,_⟩:=T.into W m;have l:=FL.k8 L f<|dW k;rw[W.no _ (λe=>fq e) λe=>fq e]at l;have s:FL.ro L f (dW k)<=f (dW k,eK k):=by
  have:=FL.iX (f:=λq:Pl×Pl=>FL.ind (q.1=dW k)<|f q) T.nd (FL.gX<|W.lo _ g) λq h i=>FL.c6 λw=>i (by
   obtain⟨a,b⟩:=q;have w:=w;subst w;rw[((T.mem _ _).mp h).pD.1])
  rwa [FL.c8 rfl]at this
 have r:=vo (g:=λq:Pl×Pl=>FL.ind (q.2=dW k)<|f q) (λq h=>FL.gX<|W.lo q h) m o λe=>i (Ug e).1;rw[FL.c8 rfl,FL.c8 rfl]at r;have:=T.BW W g;unfold FL.Iq at l;lia
structure qS(qd:Xw QD)(F:FH)(z:Xx)(tl:Xw TK)(S:Xw Pl):Prop where
 nd:S.Nodup
 s:sP∈S
 e:eP ∉ S
 Ir:∀u v,qM qd F z tl u v->u∈S->v ∉ S->∃k,u=dW k/\v=eK k
noncomputable instance decP (x:Pl)(S:Xw Pl):Decidable (x∈S):=Classical.propDecidable _
noncomputable def gU (S:Xw Pl)(N:Nat):Xw Nat:=(List.range N).filter λk=>decide (dW k∈S/\eK k ∉ S)
theorem kg{β:Type}(p:β->Prop) [DecidablePred p]:∀M:Xw β,(M.map λl=>if p l then(1:Int) else 0).sum=((M.filter λl=>decide<|p l).length:Int)
 |[]=>rfl
 |a::r=>by
  rw[RL,TH,kg p r,Sf];by_cases h:p a
  ·grind
  ·grind
def pQ{S:Xw Pl}{N:Nat}(T:kF qd F z tl L)(C:qS qd F z tl S)(i:∀t∈tl,t.1<N){l:Pl×Pl}(m:l∈L)(h:l.1∈S/\l.2 ∉ S):eV l=1/\∃k∈gU S N,l=(dW k,eK k):=by
 obtain⟨u,v⟩:=l;have f:=(T.mem _ _).mp m;obtain⟨k,a,e⟩:=C.Ir u v f h.1 h.2;have a:u=dW k:=a;have e:v=eK k:=e;subst a e;obtain⟨_,t,g,j⟩:=f.pD;refine⟨yM,k,Ra.mpr ⟨Su.mpr<|by rw[<-j];exact i t g,dT0 h⟩,rfl⟩
def sv{S:Xw Pl}{N:Nat}(T:kF qd F z tl L)(C:qS qd F z tl S)(f:∀t∈tl,t.1<N):(L.filter λl=>decide<|l.1∈S/\l.2 ∉ S).length<=(gU S N).length:=by
 have:=iV (xs:=L.filter λl=>decide<|l.1∈S/\l.2 ∉ S) (ys:=(gU S N).map λk=>(dW k,eK k)) (SV Tq T.nd) λl a=>by
  obtain⟨m,h⟩:=Ra.mp a;obtain⟨_,k,mk,e⟩:=pQ T C f m<|QT h;exact Ru.mpr ⟨k,mk,e.symm⟩
 rwa [QM]at this
def kF.Fd(T:kF qd F z tl L)(W:FL.Flow L eV f sP eP n)(C:qS qd F z tl S)(i:∀t∈tl,t.1<N):n<=((gU S N).length:Int):=by
 have v:n=(L.map λl=>FL.ind (l.1∈S) (f l)-FL.ind (l.2∈S) (f l)).sum:=by
  have j:=FL.tZ L f C.nd;rw[FL.zR C.nd C.s W.ns λx r o=>W.no x o λq=>C.e<|by rw[<-q];exact r]at j;rw[j];grind
 have m:(L.map λl=>FL.ind (l.1∈S) (f l)-FL.ind (l.2∈S) (f l)).sum<=(L.map λl=>if l.1∈S/\l.2 ∉ S then(1:Int) else 0).sum:=FL.lH λl g=>by
  by_cases a:l.1∈S
  ·by_cases b:l.2∈S
   ·grind
   ·rw[FL.c8 a,FL.c6 b,QR ⟨a,b⟩]
    have:=W.hi l g;rw[(pQ T C i g ⟨a,b⟩).1]at this;lia
  ·rw[FL.c6 a,QO λh=>a h.1]
   have:=FL.gX (p:=l.2∈S)<|W.lo l g;lia
 rw[kg]at m;have w:=sv T C i;lia
def kF.cut(T:kF qd F z tl L)(W:FL.Flow L eV (FL.fl R) sP eP n)(j:FL.gP L eV R)(nd:S.Nodup)(s:sP∈S)(he:eP ∉ S)(cl:∀u∈S,∀v n,jQ L R u v=some n->0<n->v∈S)(y:∀t∈tl,t.1<N)(sub:∀x∈S,x=sP\/∃u n,jQ L R u x=some n):qS qd F z tl S/\n=((gU S N).length:Int):=by
 have w:∀l∈L,l.1∈S->l.2 ∉ S->R l.1 l.2=0:=λl f a b=>by
  apply RR;intro o;have:=j.on l f;exact b (cl _ a l.2 _ (QR<|.inl f)<|by lia)
 have C:qS qd F z tl S:=⟨nd,s,he,λu v A a b=>by
  have m:=(T.mem _ _).mpr A;obtain⟨J,i⟩:=T.low W m;obtain i|i:=i
  ·have I:=j.all _ m
   have E:=w _ m a b;have M:FL.fl R (u,v)=R v u:=rfl;grind
  ·exact i⟩
 refine⟨C,?_⟩;have H:=FL.cut W nd s he (λl f a b=>by
  have I:=j.all l f;have E:=w l f a b;show R l.2 l.1=eV l;lia) λl f a b=>by
  apply RR;intro o;have:0<=R l.2 l.1:=j.off l f;have o:¬R l.2 l.1=0:=o;exact a (cl _ b l.1 (R l.2 l.1) (QR<|.inr f)<|by lia)
 have e:n=(L.map λl=>if l.1∈S/\l.2 ∉ S then(1:Int) else 0).sum:=by
  rw[<-H];refine FL.eD λl f=>?_;by_cases h:l.1∈S/\l.2 ∉ S
  ·rw[QR h,QR h,(pQ T C y f h).1]
  ·grind
 rw[kg]at e;have K:=sv T C y;have D:=iV (xs:=(gU S N).map λk=>(dW k,eK k)) (ys:=L.filter λl=>decide<|l.1∈S/\l.2 ∉ S) (by
  refine Vo.mpr<|List.Pairwise.imp (λh e=>h<|kR (Ug e).1)<|show(gU S N).Nodup from SV Tq VZ) λl f=>by
  obtain⟨k,mk,rfl⟩:=Ru.mp f;have p:=QT (Ra.mp mk).2;refine Ra.mpr ⟨?_,dT0 p⟩;obtain e|⟨u,n,g⟩:=sub _ p.1
  ·exact(fq e).elim
  ·have G:zb L u (dW k):=by
    apply RR;intro q;unfold jQ at g;grind
   have B:∃t∈tl,t.1=k:=by
    obtain h|h:=G
    ·obtain⟨t,r,e,_⟩:=((T.mem _ _).mp h).Ea
     grind
    ·exact((T.mem _ _).mp h).pD.2
   obtain⟨t,r,rfl⟩:=B;exact T.Ir r
 rw[QM]at D;lia
end
def Ei(a:Xw QD)(F:FH)(z:Xx)(e:Xw TK)(N n:Nat):Prop:=(∃L f,kF a F z e L/\FL.Flow L eV f sP eP (n:Int))/\∃S,qS a F z e S/\(gU S N).length=n
def Ei.one(g:∀t∈tl,t.1<N)(a:Ei qd F z tl N n)(b:Ei qd F z tl N m):n=m:=by
 obtain⟨⟨L,f,T,W⟩,S,C,e⟩:=a;obtain⟨⟨r,q,i,j⟩,l,h,s⟩:=b;have p:=T.Fd W h g;have o:=i.Fd j C g;lia
def rF(L:Xw (Pl×Pl))(f:Pl×Pl->Int)(u v:Pl):Prop:=(u,v)∈L/\0<f (u,v)
inductive Way(U:Pl->Pl->Prop):Nat->Xw Nat->Prop
 |fin {k:Nat}(a:U (dW k) (eK k))(b:U (eK k) eP):Way U k [k]
 |led {k e:Nat}{f:Xw Nat}(a:U (dW k) (eK k))(b:U (eK k) (dW e))(r:Way U e f):Way U k (k::f)
theorem uk{α:Type}{p q:α->Bool}{x:α}:∀{l:Xw α},(∀y∈l,p y=true->q y=true)->x∈l->q x=true->p x=false->(l.filter p).length<(l.filter q).length
 |[],_,h,_,_=>nomatch h
 |a::r,h,m,hq,hp=>by
  have le:∀{l:Xw α},(∀y∈l,p y=true->q y=true)->(l.filter p).length<=(l.filter q).length:=λ{l} h=>by
   induction l with
   |nil=>grind
   |cons b s g=>grind
  rw[Sf,Sf];obtain e|m:=Rq.mp m
  ·grind
  ·have:=uk (λy f=>h y<|.tail _ f) m hq hp
   grind
section
variable {qd:Xw QD}{F:FH}{z:Xx}{tl:Xw TK}{L:Xw (Pl×Pl)}{f:Pl×Pl->Int}{n:Int}
def Kf(T:kF qd F z tl L)(W:FL.Flow L eV f sP eP n):∀(m k:Nat),(tl.filter λt=>decide<|cJ qd k<cJ qd t.1).length<=m->rF L f (dW k) (eK k)->∃x,Way (rF L f) k x:=λm=>by
 induction m with
 |zero=>
  intro k C u;obtain⟨⟨a,v⟩,j,e,o⟩:=W.on u.1 u.2 (λe=>eI e) λe=>eI e;have e:=e;subst e;obtain⟨t,B,A,⟨rfl,_⟩|⟨r,i,l,rfl⟩⟩:=((T.mem _ _).mp j).qm
  ·exact⟨[k],.fin u ⟨j,o⟩⟩
  ·exfalso
   have s:=(kE l).2;rw[A]at s;have:r∈tl.filter λt=>decide (cJ qd k<cJ qd t.1):=Ra.mpr ⟨i,dT0 s⟩;grind
 |succ m D=>
  intro k C u;obtain⟨⟨a,v⟩,j,e,o⟩:=W.on u.1 u.2 (λe=>eI e) λe=>eI e;have e:=e;subst e;obtain⟨t,B,A,⟨rfl,_⟩|⟨r,i,l,rfl⟩⟩:=((T.mem _ _).mp j).qm
  ·exact⟨[k],.fin u ⟨j,o⟩⟩
  ·have s:=(kE l).2
   rw[A]at s;have lt:=uk (p:=λt:TK=>decide<|cJ qd r.1<cJ qd t.1) (q:=λt:TK=>decide<|cJ qd k<cJ qd t.1) (λy _ h=>dT0<|by grind) i (dT0 s) (QU<|by lia);have g:=T.into W j;obtain⟨x,w⟩:=D r.1 (by lia) ⟨g.1,by have:=g.2;have o:0<f (eK k,dW r.1):=o;lia⟩;exact⟨k::x,.led u ⟨j,o⟩ w⟩
def Way.first{U:Pl->Pl->Prop}{k:Nat}{e:Xw Nat}(w:Way U k e):e[0]? =some k/\∀(i a b:Nat),e[i]? =some a->e[i+1]? =some b->U (eK a) (dW b):=by
 induction w with
 |fin a b=>exact⟨rfl,λi a b _ h=>by cases i<;>cases h⟩
 | @led k k' e a b r ih=>
  refine⟨rfl,λi x y g f=>?_⟩;cases i with
  |zero=>
   have f:e[0]? =some y:=f;rw[ih.1]at f;cases f;cases g;exact b
  |succ i=>exact ih.2 i x y g f
def Br(T:kF qd F z tl L)(W:FL.Flow L eV f sP eP n){s x:Nat}{r o:Xw Nat}(A:Way (rF L f) s r)(w:Way (rF L f) x o)(s1:rF L f sP (dW s))(s2:rF L f sP (dW x)):∀(p q j:Nat),r[p]? =some j->o[q]? =some j->s=x:=λp=>by
 have l:∀{B:Xw Nat}{i j:Nat},B[i+1]? =some j->∃a,B[i]? =some a:=λh=>⟨_,QJ<|by grind⟩
 induction p with
 |zero=>
  intro q j m g;rw[A.first.1]at m;cases m;cases q with
  |zero=>
   rw[w.first.1]at g;cases g;rfl
  |succ q=>
   obtain⟨a,y⟩:=l g;have u:=w.first.2 q a s y g;exact absurd (T.xQ W s1.1 u.1 s1.2 u.2).symm λe=>eI e
 |succ p D=>
  intro q j m g;obtain⟨a,y⟩:=l m;have u:=A.first.2 p a j y m;cases q with
  |zero=>
   rw[w.first.1]at g;cases g;exact absurd (T.xQ W u.1 s2.1 u.2 s2.2) λe=>eI e
  |succ q=>
   obtain⟨b,C⟩:=l g;have v:=w.first.2 q b j C g;have e:=qu<|T.xQ W u.1 v.1 u.2 v.2;grind
def Way.rise(T:kF qd F z tl L){k:Nat}{i:Xw Nat}(w:Way (rF L f) k i):(∀j∈i,(∃t∈tl,t.1=j)/\(j=k\/cJ qd k<cJ qd j))/\i.Nodup:=by
 induction w with
 | @fin k a b=>exact⟨λj g=>by rw[QQ.mp g];exact⟨((T.mem _ _).mp a.1).pD.2,.inl rfl⟩,TB _ _⟩
 | @led k k' i a b r ih=>
  obtain⟨t,o,m,⟨e,_⟩|⟨p,n,l,e⟩⟩:=((T.mem _ _).mp b.1).qm
  ·exact(fq e).elim
  have lt:=(kE l).2;rw[m,<-kR e]at lt;have up:∀j∈i,cJ qd k<cJ qd j:=λj g=>by
   obtain h|h:=(ih.1 j g).2
   ·rw[h]
    exact lt
   ·lia
  refine⟨λj g=>?_,Tj.mpr ⟨λh=>?_,ih.2⟩⟩
  ·obtain rfl|g:=Rq.mp g
   ·exact⟨⟨t,o,m⟩,.inl rfl⟩
   ·exact⟨(ih.1 j g).1,.inr<|up j g⟩
  ·have:=up k h
   lia
end
def GV(m:t∈fu 0 (fm qd))(l:t'∈fu 0 (fm qd))(e:t'.1=t.1):t'.2.2=t.2.1\/t'.2.2=t.2.2:=by
 obtain⟨j,d,i,o,f⟩:=lM m;obtain⟨h,p,g,n,a⟩:=lM l;have:h=j:=by lia
 subst this;rw[i]at g;cases g;rcases f with f|f<;>rcases a with a|a<;>rw[f,a]
 ·grind
 ·grind
 ·grind
 ·grind
def l9(a:Xw Nat)(d:ED):Bool:=match d.2.2 with
 |.saw _=>true
 |.hrd k _=>decide<|k∈a
def AZ{m:Xw QD}{F:FH}{z:Xx}{s:Xw TK}{L:Xw (Pl×Pl)}{f:Pl×Pl->Int}{E:Xw ED}{B:Xw Nat}{Fk:FH}{h:Int}(T:kF m F z s L)(P:FN (E.filter<|l9 B) Fk)(I:∀t∈s,Hu m t∈E)(p:∀t∈s,t∈fu 0 (fm m)/\cJ m t.1<=h){k:Nat}{y:Xw Nat}(w:Way (rF L f) k y):
  (∀j∈y,j∈B)->∀t∈s,t.1=k->(∃a,Fk t.2.1=some a/\a<cJ m k)->∃b,Fk z=some b/\b<=h:=by
 have both:∀(k:Nat) (t:TK),k∈B->t∈s->t.1=k->(∃a,Fk t.2.1=some a/\a<cJ m k)->∀o∈s,o.1=k->∃b,Fk o.2.2=some b/\b<=cJ m k:=λk t mk q v ⟨a,G,M⟩ o i g=>by
  subst v;have R:=P (Hu m t) (Ra.mpr ⟨I t q,dT0 mk⟩) (by
   show(match Fk t.2.1 with|none=>false|some a=>decide<|a<cJ m t.1)=true;rw[G];exact dT0 M)
  obtain e|e:=GV (p t q).1 (p o i).1 g
  ·rw[e]
   exact⟨a,G,by lia⟩
  ·obtain⟨b,H,N⟩:=R
   rw[e];exact⟨b,N,H⟩
 induction w with
 | @fin k a b=>
  intro n t q v A;obtain⟨o,i,g,⟨_,K⟩|⟨_,_,_,e⟩⟩:=((T.mem _ _).mp b.1).qm
  ·obtain⟨c,x,J⟩:=both k t (n k<|.head _) q v A o i g
   rw[K]at x;have:=(p t q).2;rw[v]at this;exact⟨c,x,by lia⟩
  ·exact(fq e.symm).elim
 | @led k k' y a b r ih=>
  intro n t q v A;obtain⟨o,i,g,⟨e,_⟩|⟨u,O,l,e⟩⟩:=((T.mem _ _).mp b.1).qm
  ·exact(fq e).elim
  ·obtain⟨c,x,J⟩:=both k t (n k<|.head _) q v A o i g
   have D:=kE l;rw[D.1]at x;have lt:=D.2;have C:=kR e;rw[g,<-C]at lt;exact ih (λj Q=>n j<|.tail _ Q) u O C.symm ⟨c,x,by lia⟩
theorem nH:∀(l:Xw GD) (f:FH),(∀p j,l.foldl dM f p=some j->f p=some j\/∃g∈l,g.1=p/\g.2=j)/\(∀p i,f p=some i->∃j,l.foldl dM f p=some j/\j<=i)/\∀g∈l,∃j,l.foldl dM f g.1=some j/\j<=g.2
 |[],f=>⟨λp j h=>.inl h,λp i h=>⟨i,h,UB _⟩,λg h=>nomatch h⟩
 |a::r,f=>by
  obtain⟨w,s,y⟩:=nH r<|dM f a;have z:∃m,dM f a a.1=some m/\m<=a.2/\(m=a.2\/f a.1=some m)/\∀i,f a.1=some i->m<=i:=by
   unfold dM;rw[QR rfl];cases E:f a.1 with
   |none=>grind
   |some j=>grind
  have D:∀p,p≠a.1->dM f a p=f p:=λp h=>QO h;obtain⟨m,v,B,C,A⟩:=z;refine⟨λp j h=>?_,λp i h=>?_,λg o=>?_⟩
  ·obtain h|⟨g,F,e⟩:=w p j h
   ·grind
   ·grind
  ·by_cases q:p=a.1
   ·obtain⟨j,n,x⟩:=s p m (by rw[q];exact v)
    rw[q]at h;have:=A i h;exact⟨j,n,by lia⟩
   ·simp_all
  ·obtain rfl|o:=Rq.mp o
   ·obtain⟨j,n,x⟩:=s _ m v
    exact⟨j,n,by lia⟩
   ·exact y g o
def FI(m:d∈IH sg qd sd)(e:d.2.2=.saw i):∃g∈sg.filter (cS sd),d.1=g.1/\d.2.1=g.2:=by
 unfold IH at m;obtain m|m:=Ro.mp m
 ·obtain⟨j,h,rfl⟩:=Ru.mp m
  obtain⟨n,a⟩:=Ra.mp h;have l:=Su.mp n;have f:sg[j]? =some sg[j]:=QJ l;rw[qE f]at a;refine⟨sg[j],Ra.mpr ⟨Tf _,a⟩,?_⟩;unfold Ge;rw[f];grind
 ·obtain⟨t,_,rfl⟩:=Ru.mp m
  cases e
def Hz(m:g∈sg.filter (cS sd)):∃i,(g.1,g.2,EW.saw i)∈IH sg qd sd:=by
 obtain⟨f,e⟩:=Ra.mp m;obtain⟨j,a⟩:=Rg f;refine⟨j,Rj _<|Ru.mpr ⟨j,Ra.mpr ⟨Su.mpr (gI0.mp a).1,by rw[qE a];exact e⟩,?_⟩⟩;unfold Ge;rw[a]
def HK{h:Xw GD}{a:Xw QD}{sd:Xw SD}{d:ED}{k:Nat}{f:Xx}(m:d∈IH h a sd)(e:d.2.2=.hrd k f):(k,f,d.1)∈(fu 0<|fm a).filter (cZ a sd)/\d.2.1=cJ a k:=by
 unfold IH at m;obtain m|m:=Ro.mp m
 ·obtain⟨j,i,rfl⟩:=Ru.mp m
  unfold Ge at e;split at e<;>cases e
 ·obtain⟨t,g,rfl⟩:=Ru.mp m
  cases e;exact⟨g,rfl⟩
def HF{f:Pl×Pl->Int}(T:kF qd (dz<|sg.filter<|cS sd) z tl L)(n:FN ((IH sg qd sd).filter<|l9 ks) Fk)(a:∀t∈tl,t∈(fu 0<|fm qd).filter (cZ qd sd)/\cJ qd t.1<=h)(w:Way (rF L f) k ks)(u:rF L f sP (dW k)):∃b,Fk z=some b/\b<=h:=by
 obtain⟨t,l,o,⟨_,s⟩|⟨_,_,_,e⟩⟩:=((T.mem _ _).mp u.1).Ea
 ·refine AZ T n (λt l=>QV _<|Ru.mpr ⟨t,(a t l).1,rfl⟩) (λt l=>⟨(Ra.mp (a t l).1).1,(a t l).2⟩) w (λ_ h=>h) t l o ?_
  unfold eU at s;cases m:dz (sg.filter<|cS sd) t.2.1 with
  |none=>grind
  |some j=>
   rw[m]at s;have lt:=QT s;obtain h|⟨g,q,y,v⟩:=(nH (sg.filter<|cS sd) λ_=>none).1 t.2.1 j m
   ·cases h
   ·obtain⟨i,p⟩:=Hz q
    obtain⟨b,r,x⟩:=n _ (Ra.mpr ⟨p,rfl⟩) rfl;grind
 ·exact(eI e.symm).elim
inductive Tr(a:Xw QD)(f:Xw TK)(g:Xw Nat)(z:Xx)(h:Int):Xw TK->Xx->Int->Prop
 |nil {b:Int}(l:b<=h):Tr a f g z h [] z b
 |cons {t:TK}{j:Xw TK}{p:Xx}{b i:Int}(r:Tr a f g z h j p b)(e:t.2.2=p)(n:cJ a t.1=b)(m:t∈f)(mk:t.1∈g)(lt:i<b):Tr a f g z h (t::j) t.2.1 i
section
variable {qd:Xw QD}{ot:Xw TK}{ks:Xw Nat}{z:Xx}{h:Int}{rv:Xw TK}{p:Xx}{b:Int}
def Tr.all(r:Tr qd ot ks z h rv p b):∀t∈rv,t∈ot/\t.1∈ks/\b<cJ qd t.1:=by
 induction r with
 |nil l=>grind
 |cons r e f m mk lt a=>grind
def Tr.nd(r:Tr qd ot ks z h rv p b):(rv.map (·.1)).Nodup:=by
 induction r with
 |nil l=>grind
 | @cons t rv p b b' r e eh m mk lt ih=>
  rw[RL];refine Tj.mpr ⟨λa=>?_,ih⟩;obtain⟨u,f,g⟩:=Ru.mp a;have:=(r.all u f).2.2;grind
def Tr.last(r:Tr qd ot ks z h rv p b):rv≠[]->∃l,rv.getLast? =some l/\l.2.2=z/\cJ qd l.1<=h:=by
 induction r with
 |nil l=>exact λn=>absurd rfl n
 | @cons t rv p b b' r e eh m mk lt ih=>
  intro _;cases r with
  |nil l=>exact⟨t,rfl,e,by lia⟩
  |cons o q j s g a=>
   obtain⟨l,i,f⟩:=ih (by simp);exact⟨l,by rw[WC];exact i,f⟩
def Tr.chain(r:Tr qd ot ks z h rv p b):∀(i:Nat) x y,rv[i]? =some x->rv[i+1]? =some y->eJ qd x y=true:=by
 induction r with
 |nil l=>exact λi x y a=>by cases a
 | @cons t rv p b b' r e eh m mk lt ih=>
  intro i x y a f;cases i with
  |zero=>
   cases a;cases r with
   |nil l=>cases f
   |cons o q n s j g=>
    cases f;unfold eJ;rw[dT0 e,dT0 (by lia:cJ qd t.1<cJ qd y.1)];rfl
  |succ i=>exact ih i x y a f
def Tr.line(r:Tr qd ot ks z h rv p b)(v:∀j,F z=some j->h<j)(s:F p=some j)(l:j<=b):pB F qd ot rv z h=true:=by
 cases r with
 |nil A=>grind
 | @cons t rv p b0 b' r e eh m mk lt=>
  have a:Tr qd ot ks z h (t::rv) t.2.1 b:=.cons r e eh m mk lt;obtain⟨B,o,w,C⟩:=a.last (by simp);unfold pB;rw[o];have x:=Sn.mpr λu q=>dT0 (a.all u q).1;have y:eU F t.2.1 (cJ qd t.1)=true:=by
   unfold eU;rw[s];grind
  have D:yq qd (t::rv)=true:=by
   unfold yq;refine Sn.mpr λi g=>?_;have g:=Su.mp g;have f:(t::rv)[i]? =some ((t::rv)[i]'(by lia)):=QJ _;have n:(t::rv)[i+1]? =some ((t::rv)[i+1]'(by lia)):=QJ _;rw[f,n];exact a.chain i _ _ f n
  grind
end
def yw(P:Xr)(w:Xs)(H:Hp)(d:Xp)(M:Xw (Pl×Pl)):Prop:=∃a,H d=some (.ext<|Dφ (nC P w) d a)/\DD (nC P w) H d a/\a.length<=M.length/\(∀e∈a,∃l:Pl×Pl,e.1=[l.1,l.2]/\e.2.2=.int (eV l))/\∀u v,[u,v]∈a.map (·.1)↔(u,v)∈M
def CC [DecidableEq κ]{y v:V}{e:κ×V×V}(h:e∈fA XD x y v):e∈XD\/(e.1=x/\e.2.2=v):=by
 unfold fA at h;split at h
 ·grind
 ·grind
def K0{y:V}{n:Int}{Q:Hp->Prop}(li:yw P w H d M)(r:Ov H [u,v] y)(e:n=eV (u,v))(l:M.length+2<sizeLine)(q:∀H',(∀b,b≠d->H' b=H b)->yw P w H' d (M++[(u,v)])->Q H'):wg (nC P w) (.ref d) y (.int n) H Q:=by
 obtain⟨g,f,i,A,p,s⟩:=li;refine⟨d,g,[u,v],rfl,i,f,r,q _ (λb o=>cG o) ⟨_,cE,i.put f r<|by lia,?_,λm j=>?_,λa b=>?_⟩⟩
 ·rw[QK]
  have:=l5 g [u,v] y<|.int n;show _<=M.length+1;lia
 ·obtain h|⟨z,x⟩:=CC j
  ·exact p m h
  ·grind
 ·rw[<-iK,u9,Ro,QQ,<-s,<-iK]
  by_cases h:[a,b]=[u,v]
  ·grind
  ·grind
def yw.keep(li:yw P w H d M)(s:cH H H'):yw P w H' d M:=let ⟨f,a,e,r⟩:=li;⟨f,s _ _ a,e.same s,r⟩
def yw.there(li:yw P w H d M):∃φ,H d=some (.ext φ):=let ⟨_,a,_⟩:=li;⟨_,a⟩
def yw.link(li:yw P w H d M):∃L,fJ P w H d L eV/\L.Nodup/\L.length<=M.length/\∀u v,(u,v)∈L↔(u,v)∈M:=by
 obtain⟨a,s,g,y,m,x⟩:=li;have i:∀a:Xw (Xw Pl×V×V),(∀e∈a,∃l:Pl×Pl,e.1=[l.1,l.2]/\e.2.2=.int (eV l))->∃L:Xw (Pl×Pl),a.map (λe=>(e.1,e.2.2))=L.map λl=>([l.1,l.2],V.int<|eV l):=λa=>by
  induction a with
  |nil=>simp_all
  |cons e r p=>
   intro h;obtain⟨L,f⟩:=p λe o=>h e<|.tail _ o;obtain⟨l,n,j⟩:=h e<|.head _;exact⟨l::L,by rw[RL,RL,f,n,j]⟩
 obtain⟨L,f⟩:=i a m;have q:a.map (·.1)=L.map λl=>[l.1,l.2]:=by
  have:=RP (List.map Prod.fst) f
  rwa [Th,Th]at this
 refine⟨L,⟨a,g,f⟩,?_,?_,λu v=>?_⟩
 ·have nd:=g.nd
  grind
 ·have:=RP List.length f
  grind
 ·grind
def qL(a:Xw QD)(F:FH)(z:Xx)(e:Xw TK)(t:TK):Xw (Pl×Pl):=[(dW t.1,eK t.1)]++(if eU F t.2.1 (cJ a t.1)=true then [(sP,dW t.1)] else [])++(if t.2.2=z then [(eK t.1,eP)] else [])++(e.filter<|eJ a t).map λu=>(eK t.1,dW u.1)
def Hy{i:Xw QD}{F:FH}{z:Xx}{j:Xw TK}{u v:Pl}:(u,v)∈j.flatMap (qL i F z j)↔qM i F z j u v:=by
 rw[V3];unfold qL;constructor
 ·rintro⟨t,mt,h⟩
  obtain h|h:=Ro.mp h
  ·obtain h|h:=Ro.mp h
   ·obtain h|h:=Ro.mp h
    ·obtain⟨a,f⟩:=Ug (QQ.mp h)
     exact .inl ⟨t,mt,a,f⟩
    ·by_cases q:eU F t.2.1 (cJ i t.1)=true
     ·rw[QR q]at h
      obtain⟨a,f⟩:=Ug<|QQ.mp h;exact .inr<|.inl ⟨t,mt,q,a,f⟩
     ·rw[QO q]at h
      cases h
   ·by_cases q:t.2.2=z
    ·rw[QR q]at h
     obtain⟨a,f⟩:=Ug<|QQ.mp h;exact .inr<|.inr<|.inl ⟨t,mt,q,a,f⟩
    ·rw[QO q]at h
     cases h
  ·obtain⟨n,g,e⟩:=Ru.mp h
   obtain⟨m,l⟩:=Ra.mp g;obtain⟨a,f⟩:=Ug e;exact .inr<|.inr<|.inr ⟨t,mt,n,m,l,a.symm,f.symm⟩
 ·rintro(⟨t,mt,rfl,rfl⟩|⟨t,mt,s,rfl,rfl⟩|⟨t,mt,q,rfl,rfl⟩|⟨t,mt,n,m,l,rfl,rfl⟩)
  ·exact⟨t,mt,Rj _<|Rj _<|Rj _<|.head _⟩
  ·exact⟨t,mt,Rj _<|Rj _<|QV _<|by rw[QR s];exact .head _⟩
  ·exact⟨t,mt,Rj _<|QV _<|by rw[QR q];exact .head _⟩
  ·exact⟨t,mt,QV _<|Ru.mpr ⟨n,Ra.mpr ⟨m,l⟩,rfl⟩⟩
def sO(h:∀t,t∈a↔t∈b)(l:qM qd F z a u v):qM qd F z b u v:=by
 obtain ⟨t,m,e⟩|⟨t,m,e⟩|⟨t,m,e⟩|⟨t,m,f,g,e⟩:=l
 ·exact .inl ⟨t,(h t).mp m,e⟩
 ·exact .inr<|.inl ⟨t,(h t).mp m,e⟩
 ·exact .inr<|.inr<|.inl ⟨t,(h t).mp m,e⟩
 ·exact .inr<|.inr<|.inr ⟨t,(h t).mp m,f,(h f).mp g,e⟩
def nX(a:Xw QD)(sd:Xw SD)(h:Int):Xw TK:=((fu 0<|fm a).filter<|cZ a sd).filter λt=>decide<|cJ a t.1<=h
inductive Qj(P:Xr)(w:Xs)(C:Xp)(vs:Xw V)(H:Hp)(Q:VK):Prop
 |mk(x p s t y:Xp)(ps:Xw Xx)(ss g ys:Xw V)(f:Xw GD)(a:Xw QD)(sd:Xw SD)(z:Xx)(h:Int)(e:vs=[.ref x,.str z,.int h])(bk:Bk C H x p s t y ps ss g ys)(r:ps.length<=24)(sl:ss.length<=24)(i:g.length<=120)(o:Lz dH H ss f)(n:∀d∈f,d.1∈ps)(q:Lz dw H g a)(j:∀d∈a,lV ps d)(m:Sys H ys sd)(l:ys.length<=60)
   (k:∀d L H',cH H H'->H d=none->fJ P w H' d L eV->kF a (dz (f.filter (cS sd))) z (nX a sd h) L->L.length<=100000->Q (.ref d) H')
def KP(P:Xr)(w:Xs)(C:Xp):Sp:=λa H Q _=>Qj P w C a H Q
inductive NX(P:Xr)(w:Xs)(x:Xp)(z:Xx)(h:Int)(o m to d:Xp)(l:Hp)(g:Xw QD)(F:FH)(a:Xw TK)(i:Nat)(σ:St)(f:Hp):Prop
 |mk(n p q j:Xu V)(e:σ=[some (.ref x),some (.str z),some (.int h),some (.ref o),some (.ref m),some (.ref to),some (.ref d),n,p,q,j])(s:cH l f)(li:yw P w f d ((a.take i).flatMap (qL g F z a)))(r:((a.take i).flatMap (qL g F z a)).length<=400*i)
inductive NT(P:Xr)(w:Xs)(x:Xp)(z:Xx)(h:Int)(p m to d a q g:Xp)(n H1:Hp)(l:Xw QD)(o:Xw TK)(t:TK)(M:Xw (Pl×Pl))(j:Nat)(σ:St)(f:Hp):Prop
 |mk(i:Xu V)(e:σ=[some (.ref x),some (.str z),some (.int h),some (.ref p),some (.ref m),some (.ref to),some (.ref d),some (.ref a),some (.ref q),some (.ref g),i])(r:cH n f)(s:Tk H1 f)(li:yw P w f d (M++((o.take j).filter (eJ l t)).map λu=>(eK t.1,dW u.1)))
def Ca(H:Hp)(v:V)(t:TK):Prop:=∃a,v=.ref a/\oj H a t
def rh:cK ["book","person","hour","seen","hours","told","links","telling","into","out","later"] ["book","person","hour"] (cI iS):={}
def N9 (D:Df K mg "talk_links" iS ["book","person","hour"] f fd) (c0:Gd P w K mg base 5 "seen_hours" (yX C)) (ct:Gd P w K mg base 5 "hours_of_open" (Iv C)) (ea:Gd P w K mg base 1 "saw_ahead_of" DP) (dr:Gd P w K mg base 1 "leads_to" xO):Gd P w K mg base 6 "talk_links" (KP P w C):=by
 refine aG D rh λX H vs Q E I h=>?_;obtain⟨x,p,s,t,y,ps,ss,ts,ys,sg,l,sd,z,h,rfl,bk,pl,sl,dn,gs,gp,qs,qk,sy,XZ,k⟩:=h;obtain⟨rfl,rfl⟩:=And.intro I.pr I.wd;have hu:=dZ I.room;have a2:=jb I.room;have XO:=Rh;obtain⟨S0,S1,S2,S3,S4,S5,S6,S7,S8,S9,bf,_⟩:=I.fc [0,1,2,3,4,5,6,7,8,9,10];refine⟨_,(af (au S3 I.nd<|ak (I.gK c0 rfl (by lia)<|by decide)<|aj<|aa S0)
 (af (au S4 I.nd<|ak (I.gK ct rfl (by lia)<|by decide)<|aj<|aa S0)
 (af (bY (is:=[2,4]) (xs:=["telling"]) (ns:=["hour","hours"]) S5 I.nd I.calm (J.C3<|aa S4) {} (λ_ _ _ _ _=>a6 (i:=0)) (λ_ _ _ _ _=>bC<|aF bG (aK hu (aS (i:=2)) (aM (i:=0)) aR) (aS (i:=1))<|cL _) (λ_ _ _ _ _=>aM (i:=0)) I.hsc I.hN (by decide+kernel))
 (af (au S6 I.nd J.Mw)
 (af (aZ I.own I.calm (aQ<|aa S5) (aN S7 I.nd)
 (af (au S8 I.nd<|aL<|aB ao<|ai aE (aa S7) ae ah)
 (af (au S9 I.nd<|aL<|aB ao<|ai aE (aa S7) ae ah)
 (af (J.zi a2 (aa S6) (aL<|aB (aa S8)<|aa S9) ae)
 (af (aH (bh<|ak (I.gK ea rfl (by lia)<|by decide)<|aP (aa S3) (ai aE (aa S7) ae ah)<|aK hu (aa S4) (aa S7) aR)
 (ag<|J.zi a2 (aa S6) (aL<|aB ao<|aa S8) ae)
 aI)
 (af (aH (aF aO (ai aE (aa S7) ae ah) (aa S1)<|cL _)
 (ag<|J.zi a2 (aa S6) (aL<|aB (aa S9) ao) ae)
 aI)
 (ag (aZ I.own I.calm (aQ<|aa S5) (aN bf I.nd)
 (ag (aH (bh<|ak (I.gK dr rfl (by lia)<|by decide)<|aP (aa S4) (aa S7)<|aa bf)
 (ag<|J.zi a2 (aa S6) (aL<|aB (aa S9)<|aL<|aB ao<|ai aE (aa bf) ae ah) ae)
 aI))))))))))
 (ag<|aw<|aa S6)))))),?_⟩
 refine⟨_,rfl,x,p,s,t,y,ps,ss,ts,ys,sg,sd,rfl,bk,pl,sl,gs,gp,sy,XZ,λse ce H1 s1 eh Yq sn=>?_⟩;refine⟨_,rfl,x,p,s,t,y,ps,ss,ts,ys,l,sd,rfl,bk.mono s1,pl,dn,qs.mono<|dw.mono<|Tk.of s1,qk,sy.mono<|Tk.of s1,XZ,λho O H2 s2 bb c2 an em ck=>?_⟩;have ca:=s2 _ _ Yq;have dm:=s1.trans s2;have b3:H ho=none:=s1.free bb;unfold nX at k;generalize hF:dz (sg.filter<|cS sd)=F at sn k;generalize el:(fu 0<|fm l).filter (cZ l sd)=ot at an ck k;obtain⟨B,al⟩:∃B:Xw TK,O.map (·.1)=B.map qG/\∀t∈B,t∈ot:=by
  have ex:∀XD:Xw (Xw Key×V),(∀kv∈XD,∃t∈ot,kv.1=qG t)->∃B:Xw TK,XD.map (·.1)=B.map qG/\∀t∈B,t∈ot:=λXD=>by
   induction XD with
   |nil=>exact λ_=>⟨[],rfl,λt h=>nomatch h⟩
   |cons e r ih=>
    intro h;obtain⟨T,h1,h2⟩:=ih λe he=>h e<|.tail _ he;obtain⟨t,mt,et⟩:=h e<|.head _;exact⟨t::T,by rw[RL,RL,h1,et],λu hu=>(Rq.mp hu).elim (λe=>by rw[e];exact mt)<|h2 u⟩
  exact ex O ck
 have eg:O.length=B.length:=by
  have:=RP List.length al.1
  rwa [QM,QM]at this
 have cx:∀t,t∈B↔t∈ot:=λt=>⟨al.2 t,λm=>by
  have h1:=an t;rw[QR m]at h1;have h2:qG t∈O.map (·.1):=by
   apply RR;intro no;have:dR O (qG t)=none:=by
    cases hv:dR O (qG t) with
    |none=>rfl
    |some v=>
     exfalso
     have ha:(O.any λkv=>decide<|kv.1=qG t)=true:=by
      rw[gC,hv];rfl
     obtain⟨kv,d3,e⟩:=U9.mp ha;exact no (Ru.mpr ⟨kv,d3,QT e⟩)
   rw[this]at h1;cases h1
  rw[al.1]at h2;obtain⟨u,mu,e⟩:=Ru.mp h2;rw[<-uZ e];exact mu⟩
 refine⟨_,rfl,ho,O,rfl,c2,λo H3 cm a0=>?_⟩;have d1:cH H H3:=λb u e=>by
  rw[cm b<|cF e b3];exact dm _ _ e
 have dl:se≠ho:=λe=>by rw[<-e,Yq]at bb;cases bb
 have b2:H3 se=some (.dK ce):=by rw[cm se dl];exact ca
 refine ja Ca B (λt=>decide<|cJ l t.1<=h) (λv d _ _ tk ⟨a,e,ha⟩=>⟨a,e,tk _ _ ha⟩) (by lia) (λi H4 s4 hi=>⟨s4 _ _ a0,by lia⟩) (λH4 s4=>⟨s4 _ _ a0,by lia⟩) ?_ ?_
 ·intro i os v u H4 H5 K1 K2 hu c5 s4 yl k1 k2
  obtain⟨e5,kv,b,c3,rfl,hb⟩:=yl;subst e5;have ek:kv.1=qG u:=by
   have h1:(O.map (·.1))[i]? =some kv.1:=by rw[QY,c3];rfl
   rw[al.1,QY,hu]at h1;exact(Rr h1).symm
  rw[ek]at hb;obtain⟨o1,rfl⟩:=Fl c5;have dg:=dI.tr (k:=qG u) (.inr ⟨o,s4 _ _ a0⟩) hb;rw[an u,QR<|al.2 u<|QN hu]at dg;exact⟨⟨[_],rfl,rfl⟩,⟨_,rfl,_,rfl,ho,_,rfl,dg,_,rfl,_,_,rfl,rfl,_,rfl,dD (λW=>⟨_,rfl,k1 W _ _ (cH.refl _) ⟨b,rfl,hb⟩⟩) λno=>k2 (RH.mpr no) _<|cH.refl _⟩⟩
 intro to us H4 ei s4 av lz;have ab:∀t∈B.filter λt=>decide<|cJ l t.1<=h,t∈ot:=λt ht=>al.2 t (Ra.mp ht).1;have bi:∀t,t∈B.filter (λt=>decide<|cJ l t.1<=h)↔t∈ot.filter (λt=>decide<|cJ l t.1<=h):=λt=>by rw[Ra,Ra,cx t]
 have aq:(B.filter λt=>decide<|cJ l t.1<=h).length<=240:=Rn (RJ _ _) (by lia);generalize B.filter (λt=>decide<|cJ l t.1<=h)=U at lz ab bi aq;have cg:=d1.trans s4;have b4:=s4 _ _ b2;have ar:=s4 _ _ a0;intro d nd dx;have s5:=cH.upd (o:=.ext<|Dφ (nC X.prog X.w) d []) nd;have bc:upd H4 d (.ext<|Dφ (nC X.prog X.w) d []) d=some (.ext<|Dφ (nC X.prog X.w) d []):=cE;generalize upd H4 d (.ext<|Dφ (nC X.prog X.w) d [])=H5 at s5 bc;have cn:us.length=U.length:=lz.1;refine⟨_,rfl,to,rfl,⟨_,cN.of<|s5 _ _ av⟩,c4 (K:=X.K) (a:=to) (xs:=us) (NX X.prog X.w x z h se ho to d H4 l F U) ⟨none,none,none,none,rfl,s5,⟨[],bc,⟨.inl bc,(λe he=>nomatch he),UE,dx,by show 0<sizeLine;decide⟩,QP _,(λe he=>nomatch he),λu v=>⟨(λz=>nomatch z),λz=>nomatch z⟩⟩,QP _⟩ ?_ ?_ ?_⟩
 ·rintro i σ H6 hi ⟨e7,e8,e9,XW,rfl,kp,li,ml⟩
  exact cN.of<|kp _ _ av
 ·rintro i v σ H6 hv ⟨e7,e8,e9,XW,rfl,kp,li,ml⟩
  have il:=(gI0.mp hv).1;obtain⟨t,ht,a,rfl,ha⟩:=lz.at hv;have mt:=QN ht;have Yr:(U.take<|i+1).flatMap (qL l F z U)=(U.take i).flatMap (qL l F z U)++qL l F z U t:=by
   rw[RN,ht,Xn];show _++List.flatMap _ [t]=_;rw[Wd,List.flatMap_nil,Ry]
  generalize (U.take i).flatMap (qL l F z U)=M at li ml Yr;have co:oj H6 a t:=kp _ _ ha;refine⟨_,rfl,xT co rfl ⟨tf,λia dd=>?_⟩⟩;generalize ef:upd H6 ia _=H7;obtain⟨s7,c1⟩:=nx dd ef;refine⟨_,rfl,xT (s7 _ _ co) rfl ⟨tf,λoa db=>?_⟩⟩;generalize d2:upd H7 oa _=H8;obtain⟨s8,dc⟩:=nx db d2;have b1:=s8 _ _ c1;have cr:=s7.trans s8;have cl:∀{R:Hp},Tk H8 R->iF R (dW t.1) (.ref ia):=λtk=>⟨ia,rfl,tk _ _ b1⟩;have bm:∀{R:Hp},Tk H8 R->iF R (eK t.1) (.ref oa):=λtk=>⟨oa,rfl,tk _ _ dc⟩;have da:=li.keep cr;have c7:=kp.trans cr;have put:∀{Y:Hp}{M':Xw (Pl×Pl)}{u v:Pl}{y:V}{n:Int}{Q':Hp->Prop},cH H4 Y->Tk H8 Y->yw X.prog X.w Y d M'->Ov Y [u,v] y->n=eV (u,v)->M'.length<=400*240+400->(∀R,cH H4 R->Tk H8 R->yw X.prog X.w R d (M'++[(u,v)])->Q' R)->wg (nC X.prog X.w) (.ref d) y (.int n) Y Q':=λ{Y M' u v y n Q'} sA tA lA rA eA mA kA=>
   K0 lA rA eA (by lia) λR eb lI=>by
    have d0:∀{b:Xp}{o:HO},H4 b=some o->b≠d:=λe=>cF e nd;refine kA R (λb u e=>by rw[eb b<|d0 e];exact sA _ _ e) (λb xs e=>?_) lI;rw[eb b λz=>by
     obtain⟨φ,cp⟩:=lA.there;rw[z]at e;rw[tA _ _ e]at cp;cases cp]
    exact tA _ _ e
  have ej:M.length<=400*240:=by lia
  have ay:∀{Y:Hp}{u v:Pl}{yu yv:V}{q:Xp},Y q=some (.tup [yu,yv])->iF Y u yu->iF Y v yv->Ov Y [u,v] (.ref q):=λhq pu pv=>⟨_,_,rfl,hq,.cons pu<|.cons pv .nil⟩;refine⟨_,rfl,_,rfl,_,rfl,tf,λq1 de=>?_⟩;have s9:=cH.upd (o:=.tup [.ref ia,.ref oa]) de;have t9:=Tk.of s9;refine put (c7.trans s9) t9 (da.keep s9) (ay cE (cl t9)<|bm t9) yM.symm (by lia) λY ad b0 bx=>?_;have a9:oj Y a t:=ad _ _ ha;have dg:dI Y ho (.ref a) (some<|.int<|cJ l t.1):=by
   have:=dI.tr (k:=qG t) (.inr ⟨o,ad _ _ ar⟩) a9;rw[an t,QR<|ab t mt]at this;exact this
  dsimp only;refine kB (λam R=>am=[some<|.ref x,some<|.str z,some<|.int h,some<|.ref se,some<|.ref ho,some<|.ref to,some<|.ref d,some<|.ref a,some<|.ref ia,some<|.ref oa,XW]/\cH H4 R/\Tk H8 R/\yw X.prog X.w R d (M++[(dW t.1,eK t.1)]++(if eU F t.2.1 (cJ l t.1)=true then [(sP,dW t.1)] else []))) ?_ (eU F t.2.1<|cJ l t.1) (λQ' q'=>?_) (λW bv N hR=>?_) λno bv N=>?_
  rotate_left
  ·exact⟨_,rfl,_,rfl,xT a9 rfl ⟨_,rfl,_,rfl,ho,_,rfl,dg,se,ce,F,t.2.1,cJ l t.1,rfl,ad _ _ b4,sn,_,rfl,q' _<|cH.refl _⟩⟩
  ·refine⟨_,rfl,_,rfl,tf,λq2 a3=>?_⟩
   have G:=N.trans<|cH.upd (o:=.tup [.str "start",.ref ia]) a3;have ax:=b0.trans<|Tk.of G;refine put (ad.trans G) ax (bx.keep G) (ay cE (show iF _ sP (.str "start") from rfl)<|cl ax) rfl (by rw[QK];show M.length+1<=_;lia) λa1 g S A=>hR _ _ ⟨rfl,g,S,?_⟩;rw[QR W];exact A
  ·rw[QO<|by rw[no];exact bF0,Ry]
   exact⟨rfl,ad.trans N,b0.trans<|Tk.of N,bx.keep N⟩
  rintro am bv ⟨rfl,N,bd,Z⟩;have ap:(M++[(dW t.1,eK t.1)]++(if eU F t.2.1 (cJ l t.1)=true then [(sP,dW t.1)] else [])).length<=M.length+2:=by grind
  have eM:(U.take<|i+1).flatMap (qL l F z U)=M++[(dW t.1,eK t.1)]++(if eU F t.2.1 (cJ l t.1)=true then [(sP,dW t.1)] else [])++(if t.2.2=z then [(eK t.1,eP)] else [])++(U.filter<|eJ l t).map λu=>(eK t.1,dW u.1):=by
   rw[Yr];unfold qL;simp only[append_assoc]
  clear bx ad b0 a9 dg Yr;generalize M++[(dW t.1,eK t.1)]++(if eU F t.2.1 (cJ l t.1)=true then [(sP,dW t.1)] else [])=M2 at Z ap eM;have cf:oj bv a t:=N _ _ ha;refine kB (λam R=>am=[some<|.ref x,some<|.str z,some<|.int h,some<|.ref se,some<|.ref ho,some<|.ref to,some<|.ref d,some<|.ref a,some<|.ref ia,some<|.ref oa,XW]/\cH H4 R/\Tk H8 R/\yw X.prog X.w R d (M2++(if t.2.2=z then [(eK t.1,eP)] else []))) ?_ (decide<|V.str t.2.2=V.str z) (λQ' q'=>?_) (λW cd G hR=>?_) λno cd G=>?_
  rotate_left
  ·exact⟨_,rfl,xT cf rfl ⟨_,rfl,rfl,_,rfl,q' _<|cH.refl _⟩⟩
  ·have ez:t.2.2=z:=V.str.inj (QT W)
   refine⟨_,rfl,_,rfl,tf,λq2 a3=>?_⟩;have g:=G.trans<|cH.upd (o:=.tup [.ref oa,.str "end"]) a3;have S:=bd.trans<|Tk.of g;refine put (N.trans g) S (Z.keep g) (ay cE (bm S)<|show iF _ eP (.str "end") from rfl) uz.symm (by lia) λec be a4 ac=>hR _ _ ⟨rfl,be,a4,?_⟩;rw[QR ez];exact ac
  ·rw[QO (λe=>by rw[e,dT0 rfl]at no;cases no),Ry]
   exact⟨rfl,N.trans G,bd.trans<|Tk.of G,Z.keep G⟩
  rintro am cd ⟨rfl,G,ax,as⟩;have cc:(M2++(if t.2.2=z then [(eK t.1,eP)] else [])).length<=M.length+3:=by grind
  clear Z N bd cf ap;generalize M2++(if t.2.2=z then [(eK t.1,eP)] else [])=M3 at as cc eM;refine⟨_,rfl,to,rfl,⟨_,cN.of<|G _ _ av⟩,c4 (K:=X.K) (a:=to) (xs:=us) (NT X.prog X.w x z h se ho to d a ia oa H4 H8 l U t M3) ⟨XW,rfl,G,ax,by rw[Ul];exact(Ry M3).symm ▸ as⟩ ?_ ?_ ?_⟩
  ·rintro j σ a1 hj ⟨XW,rfl,g,S,A⟩
   exact cN.of<|g _ _ av
  ·rintro j v σ a1 hv ⟨XW,rfl,g,S,A⟩
   have jl:=(gI0.mp hv).1;obtain⟨u,hu,b,rfl,hb⟩:=lz.at hv;have mu:=QN hu;have cs:oj a1 b u:=g _ _ hb;have tj:(U.take<|j+1).filter (eJ l t)=(U.take j).filter (eJ l t)++if eJ l t u=true then [u] else []:=by
    rw[RN,hu,SJ]
    congr 1
    show List.filter _ [u]=_;rw[Sf];rfl
   have lj:((U.take j).filter<|eJ l t).length<=240:=Rn (RJ _ _) (Rn (Vt _ _)<|by lia);refine⟨_,rfl,_,rfl,_,rfl,ho,a,b,O,l,ot,t,u,rfl,.inr ⟨o,g _ _ ar⟩,an,g _ _ ha,cs,ab t mt,ab u mu,_,rfl,dD (λW=>?_) λno=>?_⟩
   ·refine⟨_,rfl,_,rfl,_,rfl,xT cs rfl ⟨tf,λq3 dk=>⟨tf,λq4 ed=>?_⟩⟩⟩
    have sA:=cH.upd (o:=.tup [.str "into",.int (u.1:Nat)]) dk;have sB:=cH.upd (o:=.tup [.ref oa,.ref q3]) ed;have bn:=sA.trans sB;have ch:=S.trans<|Tk.of bn;refine put (g.trans bn) ch (A.keep bn) (ay cE (bm ch)<|show iF _ (dW u.1) (.ref q3) from ⟨q3,rfl,sB _ _ cE⟩) uz.symm (by grind) λec be a4 ac=>⟨_,rfl,be,a4,?_⟩;rw[tj,QR W,Sr,<-QS];exact ac
   ·refine⟨_,rfl,g,S,?_⟩
    rw[tj,QO no,Ry];exact A
  ·rintro σ a1 ⟨XW,rfl,g,S,A⟩
   rw[cn,RX]at A;rw[<-eM]at A;refine⟨_,_,_,_,rfl,g,A,?_⟩;have lj:(U.filter<|eJ l t).length<=240:=Rn (RJ _ _) aq;rw[eM,QK,QM];lia
 ·rintro σ H6 ⟨e7,e8,e9,XW,rfl,kp,li,ml⟩
  rw[cn,RX]at li ml;obtain⟨L,hL,nL,lL,mL⟩:=li.link;exact⟨_,rfl,k d L H6 (cg.trans kp) (cg.free nd) hL ⟨nL,λu v=>(mL u v).trans<|Hy.trans ⟨sO bi,sO λt=>(bi t).symm⟩⟩<|by lia⟩
def nums(a:Xw Nat):Xw V:=a.map λk=>V.int (k:Nat)
def Way.inv{U:Pl->Pl->Prop}{k:Nat}{f:Xw Nat}(w:Way U k f):∃e v,f=k::e/\U (dW k) (eK k)/\U (eK k) v/\((v=eP/\e=[])\/∃g,v=dW g/\Way U g e):=by
 cases w with
 |fin a b=>exact⟨[],eP,rfl,a,b,.inl ⟨rfl,rfl⟩⟩
 |led a b r=>exact⟨_,_,rfl,a,b,.inr ⟨_,rfl,r⟩⟩
inductive Qy(P:Xr)(w:Xs)(vs:Xw V)(H:Hp)(Q:VK):Prop
 |mk(f:Xp)(XD:Xw (Pl×V×V))(g:Nat)(pv:V)(a:Xw Nat)(U:Pl->Pl->Prop)(e:vs=[.ref f,pv])(h:iF H (dW g) pv)(n:DD (eQ P w) H f XD)(m:∀u v,U u v->u≠sP->∃y,jF XD u=some y/\iF H v y)(i:Way U g a)(j:a.length<=1000)
  (k:∀(l:Xp)(H':Hp),cH H H'->H l=none->H' l=some (.lst (nums a))->Q (.ref l) H')
def Kg(P:Xr)(w:Xs):Sp:=λa H Q _=>Qy P w a H Q
inductive IA(g l:Xp)(H1:Hp)(U:Pl->Pl->Prop)(h:Xw Nat)(m:Nat)(σ:St)(a:Hp):Prop
 |mk (pv:V) (f rs:Xw Nat) (e:σ=[some (.ref g),some pv,some (.ref l)]) (i:cH H1 a) (n:a l=some (.lst (nums f))) (j:h=f++rs) (hm:m=rs.length) (o:(rs=[]/\pv=.str "end")\/∃k,Way U k rs/\iF H1 (dW k) pv)
def oB:cK ["following","place","talks"] ["following","place"] (cI gF):={}
def Ob {fd:FuncData}(D:Df K mg "talks_behind" gF ["following","place"] f fd):Gd P w K mg base 1 "talks_behind" (Kg P w):=by
 refine aG D oB λX H vs Q E j h=>?_;obtain⟨y,W,k0,pv,F,U,rfl,hp,dd,Y,wy,kl,k⟩:=h;obtain⟨rfl,rfl⟩:=And.intro j.pr j.wd;have i:=jb j.room;have XO:=Rh;obtain⟨S,A,M,_⟩:=j.fc [0,1,2];refine⟨_,(af (au M j.nd<|a5 bz)
 (af (cy j.own (aF (J.u6<|UW (UN _ 3) i) (aa A) ao<|cL _)
 (af (br<|bw RZ RA RE bF (aa M)<|aj<|ai aE (aa A) ae ah)
 (ag<|au A j.nd<|bM i (aa S) (bM i (aa S) (aa A) aR) cv)))
 (ag<|aw<|aa M))),?_⟩
 refine⟨by decide,λl O=>?_⟩;generalize C:upd H l _=H1;obtain⟨s1,R⟩:=nx O C;refine⟨IA y l H U F,⟨_,pv,[],F,rfl,s1,R,rfl,rfl,.inr ⟨k0,wy,hp⟩⟩,?_⟩;rintro m σ x ⟨pv,n,rs,rfl,B,N,L,rfl,pl⟩;obtain ⟨rfl,rfl⟩|⟨g,wk,pk⟩:=pl
 ·refine⟨_,rfl,.txt _ _ rfl rfl ⟨_,rfl,gM (by grind) ?_⟩⟩
  rw[Ry]at L;subst L;exact⟨_,rfl,k l x B O N⟩
 ·obtain⟨b,rfl,T⟩:=pk
  have s:x b=some (.tup [.str "into",.int (g:Nat)]):=B _ _ T;obtain⟨q,v,rfl,u1,u2,nx⟩:=wk.inv;obtain⟨y1,v1,p1⟩:=Y _ _ u1 λe=>fq e;obtain⟨y2,v2,p2⟩:=Y _ _ u2 λe=>eI e;obtain⟨e1,a1,G⟩:=vz v1;obtain⟨e2,a2,I⟩:=vz v2;have dl:n.length<=1000:=by grind
  refine⟨_,rfl,.tup b _ _ rfl s rfl ⟨_,rfl,fE rfl ⟨IA y l H U F q.length,λab H' z=>⟨_,Tv _,z⟩,?_⟩⟩⟩;refine⟨_,rfl,.inl ⟨rfl,_,cN.of N⟩,_,rfl,xT s rfl ⟨l,_,_,rfl,rfl,N,by unfold nums;rw[QM];lia,?_⟩⟩;have a:cH H (upd x l<|.lst<|nums n++[.int (g:Nat)]):=λb' o e=>by
   rw[cG<|cF e O];exact B _ _ e
  have r:upd x l (.lst<|nums n++[.int (g:Nat)]) l=some (.lst<|nums<|n++[g]):=by
   rw[cE];unfold nums;rw[Sr];rfl
  generalize upd x l (.lst<|nums n++[.int (g:Nat)])=H3 at a r;have p:=dd.same a;have Z:=Tk.of a;refine⟨_,rfl,_,rfl,_,rfl,y,W,dW g,e1,rfl,p,⟨b,rfl,a _ _ T⟩,a1,?_⟩;rw[G];refine⟨y,W,eK g,e2,rfl,p,p1.mono Z,a2,?_⟩;rw[I];refine⟨y2,n++[g],q,rfl,a,r,by rw[L,QS];rfl,rfl,?_⟩;obtain ⟨rfl,rfl⟩|⟨k',rfl,w'⟩:=nx
  ·exact .inl ⟨rfl,p2⟩
  ·grind
def Fo{H:Hp}{us:Xw V}{ds:Xw ED}(g:Lz kW H us ds):∃f:Xw Xp,us=f.map V.ref/\f.length=ds.length/\∀(i:Nat) a d,f[i]? =some a->ds[i]? =some d->lZ H a d:=by
 have l:∀us:Xw V,(∀v∈us,∃a,v=V.ref a)->∃f:Xw Xp,us=f.map V.ref:=λus=>by
  induction us with
  |nil=>exact λ_=>⟨[],rfl⟩
  |cons v r q=>
   intro h;obtain⟨f,e⟩:=q λu m=>h u<|.tail _ m;obtain⟨a,rfl⟩:=h v<|.head _;exact⟨a::f,by rw[RL,<-e]⟩
 obtain⟨f,rfl⟩:=l us λv o=>by
  obtain⟨i,n⟩:=Rg o;obtain⟨d,_,a,e,_⟩:=g.at n;exact⟨a,e⟩
 refine⟨f,rfl,by rw[<-g.1,QM],λi a d p j=>?_⟩;obtain⟨s,e,h⟩:=g.2 i _ d (by rw[QY,p];rfl) j;cases e;exact h
def in_nums(k:Nat)(a:Xw Nat):IT (.int (k:Nat)) (nums a)=decide (k∈a):=by
 show(a.map λk=>V.int (k:Nat)).any (λy=>vR y<|.int (k:Nat))=_;rw[any_map,Bool.eq_iff_iff,U9,Rz];constructor
 ·rintro⟨j,hj,e⟩
  have f:((j:Int)==(k:Int))=true:=e;grind
 ·intro h
  exact⟨k,h,R4 _⟩
def nQ(e:Xw Nat):(nums e).all dN=true:=Sn.mpr λv a=>by
 obtain⟨k,_,rfl⟩:=Ru.mp a;rfl
def dU.rev(h:dU H us ks):dU H us.reverse ks.reverse:=by
 have l:=h.1;refine⟨by rw[Si,Si,l],λi u t a e=>?_⟩;have f:=(gI0.mp a).1;rw[Si]at f;rw[Uq f]at a;rw[Uq<|by lia,<-l]at e;exact h.2 _ u t a e
inductive Qt(vs:Xw V)(H:Hp)(Q:VK):Prop
 |mk(q n:Xp)(us:Xw V)(E:Xw ED)(a:Xw Nat)(z:Xx)(h:Int)(m:Xw QD)(g:Xw TK)(F:FH)(e:vs=[.ref q,.ref n,.str z])(r:H q=some (.lst us))(w:Lz kW H us E)(ul:us.length<=400)(y:H n=some (.lst (nums a)))(A:a.length<=1000)
  (s:∀Fk,FN (E.filter (l9 a)) Fk->∃b,Fk z=some b/\b<=h)(x:∀d∈E,∀i,d.2.2=.saw i->∃j,F d.1=some j/\j<=d.2.1)(hr:∀d∈E,∀k p,d.2.2=.hrd k p->(k,p,d.1)∈g/\d.2.1=cJ m k)(v:∀j,F z=some j->h<j)
  (k:∀(l:Xp)(o:Xw V)(f:Xw TK)(H':Hp),cH H H'->H l=none->H' l=some (.lst o)->dU H' o f->pB F m g f z h=true->(∀t∈f,t.1∈a/\t∈g)->(f.map (·.1)).Nodup->Q (.ref l) H')
def Ol:Sp:=λa H Q _=>Qt a H Q
inductive Jn(n j f l:Xp)(H1:Hp)(Fk:FH)(ds:Xw ED)(i:Xw QD)(o:Xw TK)(q:Xw Nat)(z:Xx)(h:Int)(m:Nat)(σ:St)(a:Hp):Prop
 |mk(g:Xu V)(p:Xx)(b:Int)(us:Xw V)(ac:Xw TK)(e:σ=[some (.ref n),some (.ref j),some (.str p),some (.ref f),some (.ref l),g])(hm:m=(ds.filter λd=>decide (d.2.1<b)).length)(r:cH H1 a)(s:a l=some (.lst us))(v:dU a us ac)(tr:Tr i o q z h ac.reverse p b)(fp:Fk p=some b)
def u5:cK ["entries","talks","person","known","line","way"] ["entries","talks","person"] (cI jL):={}
def ML {fd:FuncData}(D:Df K mg "line_over" jL ["entries","talks","person"] f fd) (T:Txt K mg kw C) (a4:Gd P w K mg base 4 "first_entries" Mm):Gd P w K mg base 5 "line_over" Ol:=by
 refine aG D u5 λX H s Q E g h=>?_;obtain⟨en,tk,us,E,I,z,h,qd,ot,F,rfl,M,lz,ul,Yd,kl,kn,hs,hr,nz,k⟩:=h;have hu:=dZ g.room;have XO:=Rh;obtain⟨S0,S1,S2,S3,S4,S5,_⟩:=g.fc [0,1,2,3,4,5];refine⟨_,(af (au S3 g.nd<|ak (g.gK a4 rfl (by lia)<|by decide)<|aj<|bB (is:=[1]) (xs:=["entry"]) (ns:=["talks"]) g.calm (aQ<|aa S0) {} (λ_ _ _ _ _=>a6 (i:=0)) (λ_ _ _ _ _=>bC<|a7<|bS (aF aO (ai bp (ai bp (aM (i:=0)) ae ah) ae ah) ao<|cL _)<|b5<|aF J.qx (ai bp (ai bp (aM (i:=0)) ae ah) ae ah) (aS (i:=1)) b6) (λ_ _ _ _ _=>aM (i:=0)) g.hsc g.hN)
 (af (au S4 g.nd<|a5 bz)
 (af (cy g.own (aF aO (ai aE (ai aE (aK hu (aa S3) (aa S2) aR) ae ah) ae ah) ao<|cL _)
 (af (au S5 g.nd<|ai aE (aK hu (aa S3) (aa S2) aR) ae ah)
 (af (br<|bw RZ RA RE bF (aa S4)<|aj<|aL<|aP (ai aE (aa S5) ae ah) (ai aE (aa S5) ae ah)<|aa S2)
 (ag<|au S2 g.nd<|ai aE (aa S5) ae ah))))
 (ag<|aw<|J.D3 g.calm (g.b T.b_list) (g.b T.b_reversed)<|aj<|aa S4)))),?_⟩
 have el:E.length<=400:=by rw[<-lz.1];exact ul
 refine⟨_,rfl,en,rfl,⟨_,cN.of M⟩,ja kW E (l9 I) (λv d _ _ t h=>h.mono t) (by lia) (λi H2 L hi=>⟨us,us[i]'(by rw[lz.1];exact hi),cN.of<|L _ _ M,QJ _⟩) (λH2 L=>⟨us,cN.of<|L _ _ M,SA lz.1⟩) ?_ ?_⟩
 ·intro i os v d H2 H3 K1 K2 G a1 L y k1 k2
  obtain⟨e3,y⟩:=y;subst e3;obtain⟨o1,rfl⟩:=Fl a1;have ev:kW _ v d:=(lz.2 i v d (y us<|cN.of<|L _ _ M) G).mono<|Tk.of L;obtain⟨a,rfl,wa,B,A⟩:=id ev;obtain⟨y,b,way⟩:=d;refine⟨⟨[_],rfl,rfl⟩,⟨_,rfl,xT B rfl ?_⟩⟩;cases way with
  |saw j=>exact(xT A rfl ⟨rfl,_,rfl,iP<|fL ⟨_,rfl,k1 rfl _ _ (cH.refl _) ev⟩⟩)
  |hrd kk r=>
   refine(xT A rfl ⟨rfl,_,rfl,iN ⟨_,rfl,xT B rfl<|xT A rfl ⟨_,rfl,tk,_,rfl,.inl<|cN.of<|L _ _ Yd,rfl,nQ I,?_⟩⟩⟩);rw[in_nums];exact⟨_,rfl,dD (λa0=>⟨_,rfl,k1 a0 _ _ (cH.refl _) ev⟩) λno=>k2 (RH.mpr no) _<|cH.refl _⟩
 intro fl fs H2 bf L ay al;obtain⟨as,rfl,ax,U⟩:=Fo al;have aq:(E.filter<|l9 I).length<=400:=Rn (RJ _ _) el;have O:∀d∈E.filter (l9 I),d∈E/\l9 I d=true:=λd G=>Ra.mp G;generalize E.filter (l9 I)=ds at al ax U aq O kn;refine⟨fl,as,ds,rfl,ay,by lia,λa B=>?_,λd G=>?_,λkd XD Fk H3 s3 bn a3 ka fo=>?_⟩
 ·obtain⟨i,hi⟩:=Rg B
  obtain⟨d,G⟩:∃d,ds[i]? =some d:=⟨_,QJ<|by grind⟩;exact⟨d,QN G,U i a d hi G⟩
 ·obtain⟨i,hi⟩:=Rg G
  obtain⟨a,B⟩:∃a,as[i]? =some a:=⟨_,QJ<|by grind⟩;exact⟨a,QN B,U i a d B hi⟩
 obtain⟨b0,bd,ap⟩:=kn Fk fo;refine⟨Hi,λl nl=>?_⟩;generalize be:upd H3 l _=H4;obtain⟨s4,a9⟩:=nx nl be;have bc:=L.trans s3;have step:∀{p:Xx}{b:Int}{a:Xp}{d:ED},d∈ds->d.1=p->d.2.1=b->∀{k:Nat}{r:Xx},d.2.2=.hrd k r->Cw Fk d=true->∃S,Fk r=some S/\S<b/\(k,r,p)∈ot/\cJ qd k=b/\k∈I:=λ{p b a d} G e1 e2 {k r} e3 c=>by
  obtain⟨dE,dk⟩:=O d G;obtain⟨h1,h2⟩:=hr d dE k r e3;unfold Cw at c;unfold l9 at dk;rw[e3]at c dk;have c':(match Fk r with|none=>false|some a=>decide<|a<d.2.1)=true:=c;cases hT:Fk r with
  |none=>grind
  |some S=>grind
 refine⟨Jn en tk kd l H3 Fk ds qd ot I z h,⟨_,none,z,b0,[],[],rfl,rfl,s4,a9,⟨rfl,λi u t hu=>by cases hu⟩,.nil ap,bd⟩,?_⟩;rintro m σ H5 ⟨e5,p,b,s,ac,rfl,rfl,kp,hl,tu,tr,fp⟩;obtain⟨a,d,va,ev,md,d1,d2,cf⟩:=ka p b fp;obtain⟨wa,av,a2⟩:=id ev;have B:=kp _ _ av;have A:=a2.mono<|Tk.of kp;have dg:=dI.k (k:=Sum.inr p)<|kp _ _ a3;rw[va]at dg;have bm:ac.length<=1000:=by
  have h1:=tr.nd;have h2:=iV (ys:=I) h1 λx hx=>by
   obtain⟨t,ht,rfl⟩:=Ru.mp hx;exact(tr.all t ht).2.1
  rw[QM,Si]at h2;lia
 have vl:=tu.1;refine⟨_,rfl,_,rfl,kd,_,rfl,dg,xT B rfl ?_⟩;cases n:d.2.2 with
 |saw i=>
  rw[n]at A;refine(xT A rfl ⟨rfl,_,rfl,iN ?_⟩);obtain⟨j,fj,jl⟩:=hs d (O d md).1 i n;rw[d1]at fj;refine⟨_,rfl,l,_,rfl,cN.of hl,λrl Y=>?_⟩;have ad:=bc.trans kp;have N:=cH.upd (o:=.lst s.reverse) Y;exact k rl s.reverse ac.reverse _ (ad.trans N) (ad.free Y) cE (tu.rev.mono<|Tk.of N) (tr.line nz fj<|by lia) (λt ht=>⟨(tr.all t ht).2.1,(tr.all t ht).1⟩) tr.nd
 |hrd kk r=>
  rw[n]at A;obtain⟨S,Z,lt,mo,eh,mk⟩:=step (a:=a) md d1 d2 n cf;refine(xT A rfl ⟨rfl,_,rfl,iP ⟨Jn en tk kd l H3 Fk ds qd ot I z h<|(ds.filter λd=>decide<|d.2.1<S).length,λbv H' z=>⟨_,?_,z⟩,?_⟩⟩)
  ·obtain⟨a',d',_,_,ar,_,bi,_⟩:=ka r S Z
   exact uk (x:=d') (λy _ h=>dT0<|by grind) ar (dT0<|by lia) (QU<|by lia)
  refine⟨_,rfl,_,rfl,kd,_,rfl,dg,xT B rfl ?_⟩;refine⟨_,rfl,.inl ⟨rfl,_,cN.of hl⟩,_,rfl,xT A rfl ⟨_,rfl,xT A rfl ⟨_,rfl,uB,λq nq=>?_⟩⟩⟩;generalize bb:upd H5 q _=H6;obtain⟨N,hq⟩:=nx nq bb;refine⟨l,s,.ref q,rfl,rfl,N _ _ hl,by lia,?_⟩;have R:=Tk.upd (N _ _ hl) (ys:=s++[.ref q]);have W:cH H3 (upd H6 l<|.lst<|s++[.ref q]):=λb u e=>by
   rw[cG<|cF e nl];exact N _ _<|kp _ _ e
  have ab:dU (upd H6 l<|.lst<|s++[.ref q]) (s++[.ref q]) (ac++[(kk,r,p)]):=((tu.mono<|Tk.of N).mono R).snoc ⟨q,rfl,R _ _ hq⟩;have am:upd H6 l (.lst<|s++[.ref q]) l=some (.lst<|s++[.ref q]):=cE;have an:=(A.mono<|Tk.of N).mono R;generalize upd H6 l (.lst<|s++[.ref q])=H7 at W ab am an;refine⟨_,rfl,xT an rfl ?_⟩;refine⟨_,r,S,_,_,rfl,rfl,W,am,ab,?_,Z⟩;rw[Vr];exact .cons (t:=(kk,r,p)) tr rfl eh mo mk lt
inductive Qk(P:Xr)(w:Xs)(C:Xp)(vs:Xw V)(H:Hp)(Q:VK):Prop
 |mk(x p s t y:Xp)(ps:Xw Xx)(ss g ys:Xw V)(f:Xw GD)(a:Xw QD)(sd:Xw SD)(z:Xx)(h:Int)(e:vs=[.ref x,.str z,.int h])(bk:Bk C H x p s t y ps ss g ys)(E:ps.length<=24)(sl:ss.length<=24)(o:g.length<=120)(A:Lz dH H ss f)(v:∀d∈f,d.1∈ps)(B:Lz dw H g a)(q:∀d∈a,lV ps d)(r:Sys H ys sd)(l:ys.length<=60)
   (D:∀j,dz (f.filter (cS sd)) z=some j->h<j)
   (k:∀(m ul i:Xp) (us:Xw V) (XD:Xw (Pl×V×V)) (L:Xw (Pl×Pl)) (R:Pl->Pl->Int) (n:Int) (H':Hp),cH H H'->H' m=some (.tup [.ref ul,.ref i])->H' ul=some (.lst us)->Lz vi H' us (L.filter λl=>decide (0<R l.2 l.1))->ju P w H' i "start" (jQ L R) XD->eP ∉ XD.map (·.1)->FL.gP L eV R->FL.Flow L eV (FL.fl R) sP eP n->kF a (dz (f.filter (cS sd))) z (nX a sd h) L->L.length<=100000->Q (.ref m) H')
def J3(P:Xr)(w:Xs)(C:Xp):Sp:=λa H Q _=>Qk P w C a H Q
def tS:cK ["book","person","hour","seen"] ["book","person","hour"] (cI j3):={}
def N8 (D:Df K mg "talk_flow" j3 ["book","person","hour"] f fd) (M:Gd P w K mg base 5 "seen_hours" (yX C)) (F:Gd P w K mg base 2 "filled" (CB P w)) (r:Gd P w K mg base 6 "talk_links" (KP P w C)):Gd P w K mg base 7 "talk_flow" (J3 P w C):=by
 refine aG D tS λX H vs Q E g h=>?_;obtain⟨x,p,s,t,y,Y,S,ts,ys,v,qd,sd,z,h,rfl,bk,pl,sl,q,gs,Z,qs,qk,W,O,nz,k⟩:=h;have hu:=dZ g.room;have XO:sizeLine=16777216:=Rh;obtain⟨U,N,S2,I,_⟩:=g.fc [0,1,2,3];refine⟨_,(af (au I g.nd<|ak (g.c M)<|aj<|aa U)
 (af (aH (a7<|bg (J.Dt hu (aa N)<|aa I)<|bq<|aF bG (aK hu (aa I) (aa N) aR) (aa S2)<|cL _)
 cB
 aI)
 (ag<|aw<|ak (g.c F)<|aP (ak (g.c r)<|aP (aa U) (aa N)<|aa S2) ao ao))),?_⟩
 refine⟨_,rfl,x,p,s,t,y,Y,S,ts,ys,v,sd,rfl,bk,pl,sl,gs,Z,W,O,λm ac H1 i ab Yq sn=>?_⟩;have a:=dI.k (k:=Sum.inr z) Yq;rw[sn.get]at a;refine both (G:=GH (pY (CB P w) [] E0<|dF (pY (KP P w C) [] E0<|dF (jd 0)<|dF (jd 1)<|dF (jd 2) kU)<|dF (tC<|.str "start")<|dF (tC<|.str "end") kU) { nx:=λ_ H'=>Q .non H',rt:=Q } [some<|.ref x,some<|.str z,some<|.int h,some<|.ref m] H1) ?_ λrest=>?_
 ·refine⟨_,rfl,_,rfl,_,rfl,x,p,s,t,y,Y,S,ts,ys,v,qd,sd,z,h,rfl,bk.mono i,pl,sl,q,gs.mono<|dH.mono<|Tk.of i,Z,qs.mono<|dw.mono<|Tk.of i,qk,W.mono<|Tk.of i,O,λd L H2 s2 nd ld T lL=>?_⟩
  refine⟨d,"start","end",L,eV,rfl,ld,T.js,lL,IY,λl _=>Ll l,λtp ul cm us XD R n H3 kp h1 h2 h3 h4 h5 h6 h7=>?_⟩;exact k tp ul cm us XD L R n H3 (λb o e=>kp b o (s2 _ _<|i _ _ e)<|cF e<|i.free nd) h1 h2 h3 h4 h5 h6 h7 T lL
 ·cases A:dz (v.filter<|cS sd) z with
  |none=>
   rw[A]at a;exact⟨_,rfl,_,rfl,m,_,rfl,a,_,rfl,gM bF0<|dG rest⟩
  |some j=>
   rw[A]at a;refine⟨_,rfl,_,rfl,m,_,rfl,a,_,rfl,fE rfl ⟨_,rfl,_,rfl,m,_,rfl,a,_,rfl,_,_,rfl,rfl,_,rfl,dD (λB=>?_) λ_=>rest⟩⟩
   ·have:=nz j A
    have:=QT B;lia
section
variable {qd:Xw QD}{F:FH}{z:Xx}{tl:Xw TK}{L:Xw (Pl×Pl)}{f:Pl×Pl->Int}{n:Int}
def kF.Kp(T:kF qd F z tl L)(W:FL.Flow L eV f sP eP n):(((L.filter λl=>decide<|0<f l).filter λl=>decide<|l.1=sP).length:Int)=n:=by
 have i:=FL.k8 L f sP;rw[W.ns]at i;have m:FL.Iq L f sP=0:=FL.fO λl g=>FL.c6 λe=>by
  obtain⟨a,b⟩:=l;have e:=e;subst e;exact((T.mem _ _).mp g).w4
 have j:FL.ro L f sP=(L.map λl=>if l.1=sP/\0<f l then(1:Int) else 0).sum:=FL.eD λl g=>by
  by_cases e:l.1=sP
  ·rw[FL.c8 e]
   have o:=W.lo l g;have h:=(T.low W g).1;have h:f l<=1:=h;by_cases q:0<f l
   ·grind
   ·lia
  ·rw[FL.c6 e,QO λz=>e z.1]
 rw[kg]at j;rw[List.filter_filter];have e:(λl:Pl×Pl=>decide (l.1=sP)&&decide (0<f l))=λl=>decide (l.1=sP/\0<f l):=funext λl=>by rw[Bool.decide_and]
 rw[e];lia
end
theorem wx{κ:Type} [DecidableEq κ]:∀(ps XD:Xw (κ×V×V)) (x:κ),(∀v,jF (eB XD ps) x=some v->jF XD x=some v\/∃q∈ps,q.1=x/\q.2.2=v)/\(((jF XD x).isSome=true\/∃q∈ps,q.1=x)->(jF (eB XD ps) x).isSome=true)
 |[],XD,x=>⟨λv h=>.inl h,λh=>h.elim id λ⟨_,m,_⟩=>nomatch m⟩
 |p::r,XD,x=>by
  obtain⟨f,a⟩:=wx r (fA XD p.1 p.2.1 p.2.2) x;have g:=u9 XD p.1 x p.2.1 p.2.2;refine⟨λv h=>?_,λh=>a ?_⟩
  ·obtain h|⟨q,i,e⟩:=f v h
   ·grind
   ·grind
  ·grind
theorem vQ{P:Xr}{w:Xs}{H:Hp}{d:Xp}:∀(ps XD:Xw (Pl×V×V)),(XD.map (·.1)).Nodup->(∀e∈XD,iF H e.1 e.2.1)->(∀e∈ps,iF H e.1 e.2.1)->((eB XD ps).map (·.1)).Nodup/\(∀e∈eB XD ps,iF H e.1 e.2.1)/\(eB XD ps).length<=XD.length+ps.length
 |[],XD,nd,h,_=>⟨nd,h,QP _⟩
 |p::r,XD,nd,h,hp=>by
  obtain⟨l,j,m⟩:=vQ (P:=P) (w:=w) (d:=d) r (fA XD p.1 p.2.1 p.2.2) (EA nd) (λe f=>by
   obtain ⟨q,i,a,g⟩|⟨a,g⟩:=zw f
   ·rw[a,g]
    exact h q i
   ·rw[a,g]
    exact hp p<|.head _) λe f=>hp e<|.tail _ f
  have:=l5 XD p.1 p.2.1 p.2.2;exact⟨l,j,by rw[RG];show(eB (fA XD p.1 p.2.1 p.2.2) r).length<=_;lia⟩
theorem AD{H:Hp}:∀{us:Xw V}{ls:Xw (Pl×Pl)},Lz vi H us ls->∃XD:Xw (Pl×V×V),us.length=XD.length/\(∀(i:Nat) x f,us[i]? =some x->XD[i]? =some f->∃a,x=.ref a/\H a=some (.tup [f.2.1,f.2.2])/\iF H f.1 f.2.1)/\(∀f∈XD,∃l∈ls,l.1=f.1/\iF H l.2 f.2.2)/\∀l∈ls,∃f∈XD,f.1=l.1
 |[],[],_=>⟨[],rfl,(λi x f h=>by cases h),(λf h=>nomatch h),λl h=>nomatch h⟩
 |[],_::_,h=>by cases h.1
 |_::_,[],h=>by cases h.1
 |v::us,l::ls,h=>by
  obtain⟨XD,A,s,C,z⟩:=AD (us:=us) (ls:=ls) ⟨SE h.1,λi v d D q=>h.2 (i+1) v d D q⟩;obtain⟨a,y,F,e,E,B,w⟩:=h.2 0 v l rfl rfl;refine⟨(l.1,y,F)::XD,by rw[RG,RG,A],λi x f p g=>?_,λf j=>?_,λo n=>?_⟩
  ·cases i with
   |zero=>
    cases p;cases g;exact⟨a,e,E,B⟩
   |succ i=>exact s i x f p g
  ·obtain rfl|j:=Rq.mp j
   ·exact⟨l,.head _,rfl,w⟩
   ·obtain⟨o,m,r⟩:=C f j
    exact⟨o,.tail _ m,r⟩
  ·obtain rfl|n:=Rq.mp n
   ·exact⟨_,.head _,rfl⟩
   ·obtain⟨f,m,r⟩:=z o n
    exact⟨f,.tail _ m,r⟩
def Ij(R:Hp->V->δ->Prop)(dl:Xw δ)(mono:∀D v d H H',v≠.ref D->(∀b o,H b=some o->b≠D->H' b=some o)->(∃ys,H D=some (.lst ys))->R H v d->R H' v d)(hz:dl.length<=sizeLine)(X:∀i f,cH H f->i<dl.length->J.go i f)(X0:∀f,cH H f->J.stop dl.length f)
  (he:∀(i:Nat)(C:St) v d f B (M:VK),dl[i]? =some d->C.length=n->cH H f->J.yld i f v B->(∀y r,cH f r->(∃a,y=.ref a/\f a=none)->R r y d->M y r)->
   g v (C++d8 is σ) B λl H4=>(∃s:St,s.length=n/\l=s++d8 is σ)/\te l H4 M)
  (S:∀v σ H (N O:St->Hp->Prop),(∀l H',N l H'->O l H')->g v σ H N->g v σ H O)
  (q:∀D ys H',H D=none->cH H H'->H' D=some (.lst ys)->Lz R H' ys dl->Q (.ref D) H'):eF J n is g wK te σ H Q:=by
 intro D w;refine⟨λi m ys f=>m=dl.length-i/\i<=dl.length/\cH H f/\f D=some (.lst ys)/\Lz R f ys (dl.take i)/\∀y∈ys,y≠.ref D,⟨_,rfl,RQ _,cH.upd w,cE,⟨rfl,λi v d h=>by cases h⟩,λy h=>by cases h⟩,?_⟩;rintro i m ys f ⟨rfl,hi,E,x,F,P⟩;refine⟨x,?_⟩;have Z:ys.length<=i:=by
  rw[F.1];grind
 by_cases p:i<dl.length
 ·have I:=QJ p
  have T:dl.take (i+1)=dl.take i++[dl[i]]:=by simp_all
  refine .inr ⟨X i f E p,λC v B K y=>S _ _ _ _ _ (λl H' h=>⟨h.1,Og h.2⟩)<|he i C v dl[i] f B _ I K E y λz r A U W=>⟨A _ _ x,by lia,dl.length-(i+1),by lia,rfl,p,λb o e=>?_,cE,?_,λu G=>?_⟩⟩
  ·rw[cG<|cF e w]
   exact A _ _<|E _ _ e
  ·have up:∀b o,r b=some o->b≠D->upd r D (.lst<|ys++[z]) b=some o:=λb o e n=>by rw[cG n];exact e
   obtain⟨a,rfl,Y⟩:=U;rw[T];refine Lz.snoc ⟨F.1,λj u d G L=>?_⟩ (mono D _ _ _ _ (λe=>by grind) up ⟨_,A _ _ x⟩ W);exact mono D _ _ _ _ (P u<|QN G) (λb o e n=>up b o (A _ _ e) n) ⟨_,x⟩<|F.2 j u d G L
  ·grind
 ·grind
def Ku(H:Hp)(v:V)(f:Xw TK):Prop:=∃a e,v=.ref a/\H a=some (.lst e)/\dU H e f
structure EE(F:FH)(qd:Xw QD)(ot:Xw TK)(z:Xx)(h:Int)(XQ:Xw (Xw TK)):Prop where
 line:∀sm∈XQ,pB F qd ot sm z h=true
 inn:∀sm∈XQ,∀t∈sm,t∈ot
 nd:(XQ.flatMap λsm=>sm.map (·.1)).Nodup
inductive Qu(C:Xp)(vs:Xw V)(H:Hp)(Q:VK):Prop
 |mk(x p s t y:Xp)(ps:Xw Xx)(ss g ys:Xw V)(f:Xw GD)(a:Xw QD)(sd:Xw SD)(z:Xx)(h:Int)(e:vs=[.ref x,.str z,.int h])(bk:Bk C H x p s t y ps ss g ys)(A:ps.length<=24)(sl:ss.length<=24)(m:g.length<=120)(r:Lz dH H ss f)(q:∀d∈f,d.1∈ps)(v:Lz dw H g a)(n:∀d∈a,lV ps d)(o:Sys H ys sd)(l:ys.length<=60)
   (w:∀j,dz (f.filter (cS sd)) z=some j->h<j)
   (k:∀(l:Xp)(us:Xw V)(i:Xw (Xw TK))(H':Hp),cH H H'->H l=none->H' l=some (.lst us)->Lz Ku H' us i->EE (dz (f.filter (cS sd))) a ((fu 0 (fm a)).filter (cZ a sd)) z h i->Ei a (dz (f.filter (cS sd))) z (nX a sd h) a.length i.length->Q (.ref l) H')
def NO(C:Xp):Sp:=λa H Q _=>Qu C a H Q
def LY:(u,v)∈L.filter (λl=>decide<|0<R l.2 l.1)↔rF L (FL.fl R) u v:=by
 rw[Ra];exact⟨λh=>⟨h.1,QT h.2⟩,λh=>⟨h.1,dT0 h.2⟩⟩
def oM(a:∀d∈qd,lV ps d)(m:t∈nX qd sd h):t.1<qd.length:=by
 obtain⟨q,e,_⟩:=pP a (Ra.mp (Ra.mp m).1).1;grind
def Nl(F:FH)(g:Xw QD)(e:Xw TK)(z:Xx)(h:Int)(U:Pl->Pl->Prop)(l:Pl×Pl)(a:Xw TK):Prop:=∃k f,l.2=dW k/\Way U k f/\pB F g e a z h=true/\(∀t∈a,t.1∈f/\t∈e)/\(a.map (·.1)).Nodup
theorem vv{H:Xw QD}{F Y:FH}{z:Xx}{R ot:Xw TK}{L:Xw (Pl×Pl)}{f:Pl×Pl->Int}{n h:Int}(T:kF H F z R L)(W:FL.Flow L eV f sP eP n):∀{ls:Xw (Pl×Pl)}{x:Xw (Xw TK)},ls.Nodup->(∀l∈ls,l.1=sP/\rF L f l.1 l.2)->ls.length=x.length->(∀(i:Nat) l o,ls[i]? =some l->x[i]? =some o->Nl Y H ot z h (rF L f) l o)->(x.flatMap λo=>o.map (·.1)).Nodup
 |[],[],_,_,_,_=>UE
 |[],_::_,_,_,e,_=>by cases e
 |_::_,[],_,_,e,_=>by cases e
 |l::ls,o::x,nd,hl,e,ho=>by
  obtain⟨n1,n2⟩:=Tj.mp nd;have ih:=vv T W n2 (λg m=>hl g<|.tail _ m) (SE e) λi g y h1 A=>ho (i+1) g y h1 A;obtain⟨k,ks,N,w,_,A,h3⟩:=ho 0 l o rfl rfl;rw[Wd];refine VU.mpr ⟨h3,ih,λa ha b X eq=>?_⟩;subst eq;obtain⟨y,Q,ma⟩:=V3.mp X;obtain⟨i,M⟩:=Rg Q;obtain⟨g,s⟩:∃g,ls[i]? =some g:=⟨_,QJ (by have:=(gI0.mp M).1;have e':ls.length=x.length:=SE e;lia)⟩;obtain⟨k',U,v,S,_,D,_⟩:=ho (i+1) g y s M;obtain⟨t,mt,C⟩:=Ru.mp ha;obtain⟨G,B,j⟩:=Ru.mp ma;obtain⟨p,J⟩:=Rg (A t mt).1;obtain⟨q,I⟩:=Rg (D G B).1;have r:=QN s;obtain⟨O,P⟩:=hl l<|.head _;obtain⟨E,K⟩:=hl g<|.tail _ r;rw[O,N]at P;rw[E,v]at K;have C:t.1=a:=C;have j:G.1=a:=j;rw[C]at J;rw[j]at I;have Z:=Br T W w S P K p q a J I;have:g=l:=Wh (E.trans O.symm) (by rw[N,v,Z]);exact n1 (by rw[<-this];exact r)
theorem Ac{α β:Type}{A:Hp->V->β->Prop}{O:α->β->Prop}{H:Hp}:∀{us:Xw V}{ls:Xw α},Lz (λH v l=>∃b,A H v b/\O l b) H us ls->∃bs:Xw β,Lz A H us bs/\ls.length=bs.length/\∀(i:Nat) l b,ls[i]? =some l->bs[i]? =some b->O l b
 |[],[],_=>⟨[],⟨rfl,λi v d h=>by cases h⟩,rfl,λi l b h=>by cases h⟩
 |[],_::_,h=>by cases h.1
 |_::_,[],h=>by cases h.1
 |v::us,l::ls,h=>by
  obtain⟨bs,f,m,o⟩:=Ac (us:=us) (ls:=ls) ⟨SE h.1,λi v d p a=>h.2 (i+1) v d p a⟩;obtain⟨b,q,r⟩:=h.2 0 v l rfl rfl;refine⟨b::bs,⟨by rw[RG,RG,f.1],λi u d j a=>?_⟩,by rw[RG,RG,m],λi s n e g=>?_⟩
  ·cases i with
   |zero=>
    cases j;cases a;exact q
   |succ i=>exact f.2 i u d j a
  ·cases i with
   |zero=>
    cases e;cases g;exact r
   |succ i=>exact o i s n e g
def pC:cK ["book","person","hour","used","following","firsts","entries"] ["book","person","hour"] (cI gV):={}
def MW (D:Df K mg "apart_lines" gV ["book","person","hour"] f fd) (T:Txt K mg kw C) (be:Gd P w K mg base 7 "talk_flow" (J3 P w C)) (b1:Gd P w K mg base 5 "open_entries" (Nq C)) (bi:Gd P w K mg base 1 "talks_behind" (Kg P w)) (cp:Gd P w K mg base 5 "line_over" Ol):Gd P w K mg base 8 "apart_lines" (NO C):=by
 refine aG D pC λX H vs Q E A h=>?_;obtain⟨x,p,s,t,y,ps,ss,ts,ys,sg,F,sd,z,h,rfl,bk,pl,sl,as,gs,gp,qs,qk,sy,XZ,nz,k⟩:=h;obtain⟨rfl,rfl⟩:=And.intro A.pr A.wd;have ch:=A.ci cp;have cf:=A.ci bi;have b0:=jb A.room;have XO:sizeLine=16777216:=Rh;obtain⟨S0,S1,S2,S3,S4,S5,S6,_⟩:=A.fc [0,1,2,3,4,5,6];refine⟨_,(af (au S3 A.nd<|ai aE (ak (A.c be)<|aP (aa S0) (aa S1)<|aa S2) ae ah)
 (af (au S4 A.nd<|bo (A.b T.b_dict) (J.vm A.room A.calm) uv<|aj<|aa S3)
 (af (bY (is:=[]) (xs:=["one","other"]) (ns:=[]) S5 A.nd A.calm (aQ<|aa S3) {} (λ_ _ _ _ _=>J.uW (n:=2) A.calm<|aT (a6 (i:=0))<|aT (a6 (i:=1)) bH) (λ_ _ _ _ _=>bC<|aF (J.vc<|UW (UN _ 3) b0) (aM (i:=0)) ao<|cL _) (λ_ _ _ _ _=>aM (i:=1)) A.hsc A.hN (by decide+kernel))
 (af (au S6 A.nd<|ak (A.c b1)<|aj<|aa S0)
 (ag<|aw<|bB (is:=[1,4,6]) (xs:=["place"]) (ns:=["person","following","entries"]) A.calm (aQ<|aa S5) {} (λ_ _ _ _ _=>a6 (i:=0)) (λ_ _ _ _ _=>bU) (λ_ _ _ _ _=>ak (ch.lg rfl)<|aP (aS (i:=3)) (ak (cf.lg rfl)<|aB (aS (i:=2))<|aM (i:=0))<|aS (i:=1)) A.hsc A.hN))))),?_⟩
 refine⟨_,rfl,_,rfl,_,rfl,x,p,s,t,y,ps,ss,ts,ys,sg,F,sd,z,h,rfl,bk,pl,sl,as,gs,gp,qs,qk,sy,XZ,nz,λtp ul cm us XD L R n H1 s1 b4 bc an cd nt rm W G lL=>?_⟩;refine(xT b4 rfl ?_);obtain⟨m,l2,t2,f2,b2⟩:=AD an;have cx:us.length<=100000:=by
  rw[an.1];exact Rn (RJ _ _) lL
 refine⟨_,rfl,ul,us,m,rfl,cN.of bc,l2,t2,λZ ca ax=>?_⟩;have s2:=cH.upd (o:=.ext<|Dφ (eQ X.prog X.w) Z<|eB [] m) ca;have a9:upd H1 Z (.ext<|Dφ (eQ X.prog X.w) Z<|eB [] m) Z=some (.ext<|Dφ (eQ X.prog X.w) Z<|eB [] m):=cE;generalize upd H1 Z (.ext<|Dφ (eQ X.prog X.w) Z<|eB [] m)=H2 at s2 a9;obtain⟨m1,m2,m3⟩:=vQ (P:=X.prog) (w:=X.w) (H:=H2) (d:=Z) m [] UE (λe he=>nomatch he) λe he=>by
  obtain⟨i,U⟩:=Rg he;obtain⟨v,hv⟩:∃v,us[i]? =some v:=⟨_,QJ<|by rw[l2];exact(gI0.mp U).1⟩;obtain⟨a,_,_,r⟩:=t2 i v e hv U;exact r.mono<|Tk.of s2
 have bd:DD (eQ X.prog X.w) H2 Z (eB [] m):=⟨.inl a9,m2,m1,ax,by
  have z:([]:Xw (Pl×V×V)).length=0:=rfl;lia⟩
 have fw:∀u v,rF L (FL.fl R) u v->u≠sP->∃y,jF (eB [] m) u=some y/\iF H2 v y:=λu v S ns=>by
  obtain⟨kv,mk,ek⟩:=b2 _<|LY.mpr S;have ek:kv.1=u:=ek;obtain⟨v1,v2⟩:=wx m [] u;cases hv:jF (eB [] m) u with
  |none=>
   have:=v2<|.inr ⟨kv,mk,ek⟩;rw[hv]at this;cases this
  |some y=>
   obtain h0|⟨q,mq,e1,e2⟩:=v1 y hv
   ·cases h0
   ·obtain⟨⟨a,b⟩,ml,e3,pr⟩:=f2 q mq
    have e3:a=q.1:=e3;have ea:a=u:=e3.trans e1;subst ea;have Yg:=LY.mp ml;rw[e2]at pr;have eb:b=v:=by
     obtain ⟨t,mt,B,e5⟩|⟨t,mt,s,B,e5⟩|⟨t,mt,q,B,e5⟩|⟨t,mt,t',m',l,B,e5⟩:=(G.mem _ _).mp S.1
     ·have hb:=Yg.1
      rw[B]at hb;rw[((G.mem _ _).mp hb).pD.1,e5]
     ·exact absurd B ns
     ·rw[B]at S Yg
      exact G.zN W Yg.1 S.1 Yg.2 S.2
     ·rw[B]at S Yg
      exact G.zN W Yg.1 S.1 Yg.2 S.2
    rw[<-eb];exact⟨y,rfl,pr.mono<|Tk.of s2⟩
 have O:=s2 _ _ bc;have al:=an.mono λ_ _ h=>vi.mono (Tk.of s2) h;have cg:=s1.trans s2;generalize eB [] m=a4 at bd fw;have mU:∀l∈L.filter λl=>decide<|0<R l.2 l.1,rF L (FL.fl R) l.1 l.2:=λl I=>LY.mp I;have a3:(L.filter λl=>decide<|0<R l.2 l.1).Nodup:=SV Tq G.nd;have am:=G.Kp W;have am:(((L.filter λl=>decide<|0<R l.2 l.1).filter λl=>decide<|l.1=sP).length:Int)=n:=am;have a0:(L.filter λl=>decide<|0<R l.2 l.1).length<=100000:=Rn (RJ _ _) lL;generalize L.filter (λl=>decide<|0<R l.2 l.1)=ls at al mU a3 am a0;refine⟨_,rfl,ul,rfl,⟨_,cN.of O⟩,ja (λH v (l:Pl×Pl)=>iF H l.2 v) ls (λl=>decide<|l.1=sP) (λv d _ _ t h=>h.mono t) (by lia) (λi H3 s3 U=>⟨us,us[i]'(by rw[al.1];exact U),cN.of<|s3 _ _ O,QJ _⟩) (λH3 s3=>⟨us,cN.of<|s3 _ _ O,SA al.1⟩) ?_ ?_⟩
 ·intro i os v l H3 H4 K1 K2 I ar s3 y k1 k2
  obtain⟨e3,y⟩:=y;subst e3;have hv:=y us<|cN.of<|s3 _ _ O;obtain⟨o1,o2,rfl⟩:=Ot ar;obtain⟨a,y1,y2,rfl,ha,p1,p2⟩:=vi.mono (Tk.of s3)<|al.2 i v l hv I;refine⟨a,_,rfl,fe.of ha,rfl,_,_,rfl,_,_,rfl,rfl,⟨[some y1,some y2],rfl,rfl⟩,⟨_,rfl,?_⟩⟩;have lk:=(G.mem _ _).mp (mU l<|QN I).1;obtain ⟨t,mt,B,e5⟩|⟨t,mt,s,B,e5⟩|⟨t,mt,q,B,e5⟩|⟨t,mt,t',m',l,B,e5⟩:=lk
  ·rw[B]at p1
   obtain⟨b,eb,hb⟩:=p1;exact .tup _ _ _ eb hb rfl ⟨_,rfl,dG<|k2 (QU λe=>fq<|B.symm.trans e) _<|cH.refl _⟩
  ·rw[B]at p1
   exact .txt _ _ p1 rfl ⟨_,rfl,fE (dT0 rfl) ⟨_,rfl,k1 (dT0 B) _ _ (cH.refl _) p2⟩⟩
  ·rw[B]at p1
   obtain⟨b,eb,hb⟩:=p1;exact .tup _ _ _ eb hb rfl ⟨_,rfl,dG<|k2 (QU λe=>eI<|B.symm.trans e) _<|cH.refl _⟩
  ·rw[B]at p1
   obtain⟨b,eb,hb⟩:=p1;exact .tup _ _ _ eb hb rfl ⟨_,rfl,dG<|k2 (QU λe=>eI<|B.symm.trans e) _<|cH.refl _⟩
 intro fi fv H3 cr s3 cc bb;have ab:=cg.trans s3;have mF:∀l∈ls.filter λl=>decide<|l.1=sP,l.1=sP/\rF L (FL.fl R) l.1 l.2:=λl I=>⟨QT (Ra.mp I).2,mU l (Ra.mp I).1⟩;have a1:(ls.filter λl=>decide<|l.1=sP).Nodup:=SV Tq a3;have co:(ls.filter λl=>decide<|l.1=sP).length<=100000:=Rn (RJ _ _) a0;generalize ls.filter (λl=>decide<|l.1=sP)=ad at bb mF a1 co am;refine⟨_,rfl,x,p,s,t,y,ps,ss,ts,ys,sg,F,sd,rfl,bk.mono ab,pl,sl,as,gs.mono<|dH.mono<|Tk.of ab,gp,qs.mono<|dw.mono<|Tk.of ab,qk,sy.mono<|Tk.of ab,XZ,λen ev H4 s4 cs cn bf ck=>?_⟩;have a2:=ab.trans s4;have M:=s4 _ _ cc;have av:Lz (λH v (l:Pl×Pl)=>iF H l.2 v) H4 fv ad:=bb.mono λ_ _ h=>h.mono<|Tk.of s4;have bn:=(bd.same s3).same s4;have bx:∀u v,rF L (FL.fl R) u v->u≠sP->∃y,jF a4 u=some y/\iF H4 v y:=λu v S ns=>let ⟨y,h1,h2⟩:=fw u v S ns;⟨y,h1,h2.mono<|Tk.of<|s3.trans s4⟩;have ac:∀t∈nX F sd h,t∈(fu 0<|fm F).filter (cZ F sd)/\cJ F t.1<=h:=λt ht=>⟨(Ra.mp ht).1,QT (Ra.mp ht).2⟩;refine⟨_,rfl,fi,rfl,⟨_,cN.of M⟩,Ij (λH v l=>∃sm,Ku H v sm/\Nl (dz<|sg.filter<|cS sd) F ((fu 0<|fm F).filter<|cZ F sd) z h (rF L<|FL.fl R) l sm) ad (λD v d Ha Hb nv up hD ⟨sm,⟨a,xs,ea,ha,tu⟩,o⟩=>⟨sm,⟨a,xs,ea,up a _ ha λe=>nv<|by rw[ea,e],tu.mono λb zs e=>up b _ e λq=>by
  obtain⟨yy,hy⟩:=hD;rw[q,hy]at e;cases e⟩,o⟩) (by lia) (λi H5 Y U=>⟨fv,fv[i]'(by rw[av.1];exact U),cN.of<|Y _ _ M,QJ _⟩) (λH5 Y=>⟨fv,cN.of<|Y _ _ M,SA av.1⟩) ?_ (λ_ _ _ _ _ h k=>h _ _ k) ?_⟩
 ·intro i os v l H5 H6 K1 I ar Y yl k1
  obtain⟨e5,yl⟩:=yl;subst e5;have hv:=yl fv<|cN.of<|Y _ _ M;obtain⟨o1,rfl⟩:=Fl ar;have pv:=(av.2 i v l hv I).mono<|Tk.of Y;obtain⟨f1,f2⟩:=mF l<|QN I;obtain⟨a,b⟩:=l;have f1:a=sP:=f1;subst f1;have f2:rF L (FL.fl R) sP b:=f2;obtain⟨t0,ct,_,eb⟩:=((G.mem _ _).mp f2.1).Pe;have eb:b=dW t0.1:=eb;subst eb;obtain⟨g1,g2⟩:=G.into W f2.1;obtain⟨ks,wy⟩:=Kf G W _ t0.1 (QP _) ⟨g1,by have:=f2.2;lia⟩;obtain⟨r1,r2⟩:=wy.rise G;have c0:F.length<=120:=by rw[<-qs.1];exact as
  have kl:ks.length<=1000:=by
   have:=iV (ys:=List.range F.length) r2 λj hj=>by
    obtain⟨⟨t,mt,et⟩,_⟩:=r1 j hj;rw[<-et];exact Su.mpr<|oM qk mt
   rw[SI]at this;lia
  refine⟨⟨[some v],rfl,rfl⟩,⟨_,rfl,_,rfl,_,rfl,Z,a4,t0.1,v,ks,rF L<|FL.fl R,rfl,pv,bn.same Y,λu v' S ns=>let ⟨y,h1,h2⟩:=bx u v' S ns;⟨y,h1,h2.mono<|Tk.of Y⟩,wy,kl,λtk H7 s7 c1 Yd=>?_⟩⟩;refine⟨_,rfl,en,tk,ev,IH sg F sd,ks,z,h,F,(fu 0<|fm F).filter<|cZ F sd,dz<|sg.filter<|cS sd,rfl,s7 _ _<|Y _ _ cn,bf.mono λ_ _ h=>kW.mono (Tk.of<|Y.trans s7) _ _ h,ck,Yd,kl,λFk Z=>HF G Z ac wy f2,λd hd i e=>?_,λd hd k te e=>HK hd e,nz,λrl Yg sm H8 s8 ap aq tu lb bv b3=>k1 _ _ (s7.trans s8) ⟨rl,rfl,s7.free ap⟩ ⟨sm,⟨rl,Yg,rfl,aq,tu⟩,t0.1,ks,rfl,wy,lb,bv,b3⟩⟩;obtain⟨g,mg,e1,e2⟩:=FI hd e;obtain⟨j,j1,j2⟩:=(nH (sg.filter<|cS sd) λ_=>none).2.2 g mg;rw[e1,e2];exact⟨j,j1,j2⟩
 ·intro rl rv H5 ap Y aq ce
  obtain⟨XQ,bm,le,ho⟩:=Ac ce;have ay:=G.cut (N:=F.length) W rm cd.dd.nd cd.st nt cd.cl (λt ht=>oM qk ht) λx hx=>by
   obtain⟨e,he,rfl⟩:=Ru.mp hx;exact cd.sub e he
  obtain⟨C1,C2⟩:=ay;refine k rl rv XQ H5 (a2.trans Y) (a2.free ap) aq bm ⟨λsm hm=>?_,λsm hm t ht=>?_,vv G W a1 mF le ho⟩ ⟨⟨L,FL.fl R,G,?_⟩,XD.map (·.1),C1,?_⟩
  ·obtain⟨i,U⟩:=Rg hm
   obtain⟨l,I⟩:∃l,ad[i]? =some l:=⟨_,QJ<|by rw[le];exact(gI0.mp U).1⟩;obtain⟨_,_,_,_,h1,_⟩:=ho i l sm I U;exact h1
  ·obtain⟨i,U⟩:=Rg hm
   obtain⟨l,I⟩:∃l,ad[i]? =some l:=⟨_,QJ<|by rw[le];exact(gI0.mp U).1⟩;obtain⟨_,_,_,_,_,h2,_⟩:=ho i l sm I U;exact(h2 t ht).2
  ·have:n=(XQ.length:Int):=by lia
   rw[<-this];exact W
  ·exact Int.ofNat.inj (C2.symm.trans (by lia:n=(XQ.length:Int)))
inductive QB(C:Xp)(vs:Xw V)(H:Hp)(Q:VK):Prop
 |mk(x p s t y:Xp)(ps:Xw Xx)(ss g ys:Xw V)(f:Xw GD)(a:Xw QD)(sd:Xw SD)(z:Xx)(h:Int)(e:vs=[.ref x,.str z,.int h])(bk:Bk C H x p s t y ps ss g ys)(w:ps.length<=24)(sl:ss.length<=24)(i:g.length<=120)(q:Lz dH H ss f)(o:∀d∈f,d.1∈ps)(r:Lz dw H g a)(m:∀d∈a,lV ps d)(n:Sys H ys sd)(l:ys.length<=60)
   (v:∀j,dz (f.filter (cS sd)) z=some j->h<j)
   (k:∀(l:Xp)(S:Xw Pl)(H':Hp),cH H H'->H l=none->H' l=some (.lst (nums (gU S a.length)))->qS a (dz (f.filter (cS sd))) z (nX a sd h) S->Ei a (dz (f.filter (cS sd))) z (nX a sd h) a.length (gU S a.length).length->Q (.ref l) H')
def MX(C:Xp):Sp:=λa H Q _=>QB C a H Q
def vH:cK ["book","person","hour","reached"] ["book","person","hour"] (cI k9):={}
def NP (D:Df K mg "talk_cut" k9 ["book","person","hour"] f fd) (T:Txt K mg kw C) (ad:Gd P w K mg base 7 "talk_flow" (J3 P w C)) (al:Md P w K mg base 1 C "talks" (dB C λ_ _ t _=>t)):Gd P w K mg base 8 "talk_cut" (MX C):=by
 refine aG D vH λX H vs Q E a h=>?_;obtain⟨x,p,s,t,y,ps,ss,j,ys,sg,qd,sd,z,h,rfl,bk,pl,sl,ar,gs,gp,qs,qk,sy,XZ,nz,k⟩:=h;obtain⟨rfl,rfl⟩:=And.intro a.pr a.wd;have ax:=a.met al (by decide);have F:=jb a.room;have XO:sizeLine=16777216:=Rh;obtain⟨S0,S1,S2,S3,_⟩:=a.fc [0,1,2,3];refine⟨_,(af (au S3 a.nd<|ai aE (ak (a.c ad)<|aP (aa S0) (aa S1)<|aa S2) ae ah)
 (ag<|aw<|bB (is:=[3]) (xs:=["k"]) (ns:=["reached"]) a.calm (b8 (a.b T.b_range)<|aj<|aJ (a.b T.b_len) aY dh<|aj<|bE ax (aa S0) rfl) {} (λ_ _ _ _ _=>a6 (i:=0)) (λ_ _ _ _ _=>bC<|a7<|bg (J.Fi F (aL<|aB ao<|aM (i:=0))<|aS (i:=1))<|bq<|J.og F (aL<|aB ao<|aM (i:=0))<|aS (i:=1)) (λ_ _ _ _ _=>aM (i:=0)) a.hsc a.hN)),?_⟩
 refine⟨_,rfl,_,rfl,_,rfl,x,p,s,t,y,ps,ss,j,ys,sg,qd,sd,z,h,rfl,bk,pl,sl,ar,gs,gp,qs,qk,sy,XZ,nz,λtp ul cm us r L R n H1 s1 aq a0 ay I nt rm W TL lL=>?_⟩;refine(xT aq rfl ?_);obtain⟨⟨dx,M⟩,hp,hs,ht,hy⟩:=bk.mono s1;refine⟨_,rfl,x,dx,_,rfl,M,fU _ _ _ _ (by decide+kernel) (by decide+kernel) (by decide+kernel)<|by decide+kernel,x,p,s,t,y,j,rfl,⟨dx,M⟩,ht,λO ac=>?_⟩;have s2:=cH.upd (o:=.lst j) ac;have A:upd H1 O (.lst j) O=some (.lst j):=cE;generalize upd H1 O (.lst j)=H2 at s2 A;have G:=I.mono s2;have ap:j.length=qd.length:=qs.1;refine⟨O,_,rfl,.inl<|cN.of A,_,rfl,by lia,by lia,rG (lo:=0) (N:=j.length) (λk=>decide<|dW k∈r.map (·.1)/\eK k ∉ r.map (·.1)) (λi=>V.int (i:Nat)) (by lia) ?_ ?_⟩
 ·intro i os S K1 K2 hi an U k1 k2
  obtain⟨o1,rfl⟩:=Fl an;rw[VW];have g:∀{H4:Hp}{u:Pl},(jf r u).isSome=true↔u∈r.map (·.1):=λ{H4 u}=>by
   rw[<-iK];unfold jF;rw[T7]
  refine⟨⟨[_],rfl,rfl⟩,⟨_,rfl,tf,λq nq=>?_⟩⟩;have v:=cH.upd (o:=.tup [.str "into",.int (i:Nat)]) nq;have hq:upd S q (.tup [.str "into",.int (i:Nat)]) q=some (.tup [.str "into",.int (i:Nat)]):=cE;generalize upd S q (.tup [.str "into",.int (i:Nat)])=H4 at v hq;refine⟨_,rfl,cm,r,dW i,rfl,(G.mono<|U.trans v).dd,⟨q,rfl,hq⟩,_,rfl,dD (λam=>?_) λno=>?_⟩
  ·refine⟨_,rfl,tf,λY ab=>?_⟩
   have Z:=cH.upd (o:=.tup [.str "out",.int (i:Nat)]) ab;have B:upd H4 Y (.tup [.str "out",.int (i:Nat)]) Y=some (.tup [.str "out",.int (i:Nat)]):=cE;generalize upd H4 Y (.tup [.str "out",.int (i:Nat)])=H5 at Z B;refine⟨_,rfl,cm,r,eK i,rfl,(G.mono<|(U.trans v).trans Z).dd,⟨Y,rfl,B⟩,_,rfl,dD (λm=>?_) λas=>?_⟩
   ·refine⟨_,rfl,k1 (dT0 ⟨(g (H4:=H4)).mp am,λz=>?_⟩) _<|v.trans Z⟩
    rw[(g (H4:=H4)).mpr z]at m;cases m
   ·refine k2 (QU λz=>as ?_) _ (v.trans Z)
    rw[RH.mpr λw=>z.2<|(g (H4:=H4)).mp w];rfl
  ·exact dG<|k2 (QU λz=>no<|(g (H4:=H4)).mpr z.1) _ v
 ·intro l S nl U hl
  have av:=(s1.trans s2).trans U;rw[ap]at hl;obtain⟨C1,C2⟩:=TL.cut (N:=qd.length) W rm I.dd.nd I.st nt I.cl (λt ht=>oM qk ht) λx M=>by
   obtain⟨e,he,rfl⟩:=Ru.mp M;exact I.sub e he
  refine k l (r.map λe:Pl×V×V=>e.1) S av ((s1.trans s2).free nl) hl C1 ⟨⟨L,FL.fl R,TL,?_⟩,_,C1,rfl⟩;rw[<-C2];exact W
inductive CA(a:Xw QD)(z:Xx)(h:Int):Xw TK->Prop
 |one (t:TK)(e:t.2.2=z)(l:cJ a t.1<=h):CA a z h [t]
 |more (t u:TK)(r:Xw TK)(l:eJ a t u=true)(c:CA a z h (u::r)):CA a z h (t::u::r)
section
variable {qd:Xw QD}{F:FH}{z:Xx}{h:Int}{g:Xw Nat}
def lR{a b:TK}:eJ qd a b=true↔a.2.2=b.2.1/\cJ qd a.1<cJ qd b.1:=by
 unfold eJ;rw[R6,Rz,Rz]
theorem DS:∀{a:Xw TK}{b:TK},a.getLast? =some b->(∀k,k+1<a.length->∃x y,a[k]? =some x/\a[k+1]? =some y/\eJ qd x y=true)->b.2.2=z->cJ qd b.1<=h->CA qd z h a
 |[],_,e,_,_,_=>by cases e
 |[t],_,e,_,e1,e2=>by
  cases e;exact .one t e1 e2
 |t::u::r,b,e,c,e1,e2=>by
  obtain⟨x,y,i,g,l⟩:=c 0 (by show 0+1<r.length+1+1;lia);cases i;cases g;refine .more t u r l<|DS (b:=b) ?_ (λk f=>c (k+1)<|Nat.succ_lt_succ f) e1 e2;rw[<-e,WC]
def wW{n f:Xw TK}(e:pB F qd n f z h=true):∃t r,f=t::r/\eU F t.2.1 (cJ qd t.1)=true/\CA qd z h (t::r):=by
 unfold pB at e;split at e
 ·rename_i a b g o
  rw[R6,R6,R6,R6,Rz,Rz]at e;obtain⟨_,j,p,l,m⟩:=e;cases f with
  |nil=>cases g
  |cons t r=>
   obtain rfl:t=a:=Rr g;refine⟨t,r,rfl,j,DS o (λk i=>?_) l m⟩;have c:=Sn.mp p k (Su.mpr<|by lia);rw[QJ<|show k<(t::r).length by lia,QJ i]at c ⊢;exact⟨_,_,rfl,rfl,c⟩
 ·cases e
theorem zf:∀{r:Xw TK}{t:TK},CA qd z h (t::r)->∀u∈r,cJ qd t.1<cJ qd u.1
 |[],_,_,u,m=>nomatch m
 |v::r,t,c,u,m=>by
  cases c with
  |more _ _ _ l c=>
   have l:=(lR.mp l).2;obtain rfl|m:=Rq.mp m
   ·exact l
   ·exact Int.lt_trans l<|zf c u m
theorem xF:∀{r:Xw TK}{t:TK},CA qd z h (t::r)->∀u∈t::r,cJ qd u.1<=h
 |[],t,c,u,m=>by
  cases c with
  |one _ _ l=>rw[QQ.mp m];exact l
 |v::r,t,c,u,m=>by
  cases c with
  |more _ _ _ l c=>
   obtain rfl|m:=Rq.mp m
   ·have:=xF c v (.head _)
    have:=(lR.mp l).2;lia
   ·exact xF c u m
theorem rM{S:Xw Pl}{g:Xw TK}(C:qS qd F z g S):∀{r:Xw TK}{t:TK},CA qd z h (t::r)->(∀u∈t::r,u∈g)->dW t.1∈S->∃u∈t::r,dW u.1∈S/\eK u.1 ∉ S
 |r,t,c,hm,hi=>by
  by_cases o:eK t.1∈S
  ·cases c with
   |one _ e l=>
    obtain⟨k,f,_⟩:=C.Ir _ _ (.inr<|.inr<|.inl ⟨t,hm t<|.head _,e,rfl,rfl⟩) o C.e;exact absurd f.symm kK
   |more _ u r l c=>
    by_cases i:dW u.1∈S
    ·obtain⟨v,a,q⟩:=rM C c (λv a=>hm v<|.tail _ a) i
     exact⟨v,.tail _ a,q⟩
    ·obtain⟨k,f,_⟩:=C.Ir _ _ (.inr<|.inr<|.inr ⟨t,hm t<|.head _,u,hm u<|.tail _<|.head _,l,rfl,rfl⟩) o i
     exact absurd f.symm kK
  ·exact⟨t,.head _,hi,o⟩
def xG{S:Xw Pl}{a:Xw TK}{t:TK}{r:Xw TK}{N:Nat}(C:qS qd F z a S)(j:∀t∈a,t.1<N)(c:CA qd z h (t::r))(g:eU F t.2.1 (cJ qd t.1)=true)(hm:∀u∈t::r,u∈a):∃u∈t::r,u.1∈gU S N:=by
 have l:dW t.1∈S:=by
  apply RR;intro i;obtain⟨k,f,_⟩:=C.Ir _ _ (.inr<|.inl ⟨t,hm t<|.head _,g,rfl,rfl⟩) C.s i;exact absurd f.symm fq
 obtain⟨u,e,q⟩:=rM C c hm l;exact⟨u,e,Ra.mpr ⟨Su.mpr<|j u<|hm u e,dT0 q⟩⟩
def gq{p:Xx}{b:Int}:eU F p b=true↔∃j,F p=some j/\j<b:=by
 unfold eU;split
 ·rename_i e
  rw[e];exact⟨(λh=>by cases h),λ⟨j,h,_⟩=>by cases h⟩
 ·rename_i j e
  rw[e];exact⟨λh=>⟨j,rfl,QT h⟩,λ⟨k,a,h⟩=>by cases a;exact dT0 h⟩
def step_at(g:GD):∃m,dM F g g.1=some m/\m<=g.2/\(∀j,F g.1=some j->m<=j)/\(m=g.2\/F g.1=some m):=by
 unfold dM;rw[QR rfl];cases e:F g.1 with
 |none=>exact⟨_,rfl,UB _,(λj h=>by cases h),.inl rfl⟩
 |some j=>
  dsimp only;by_cases l:j<g.2
  ·rw[QR l]
   exact⟨j,rfl,by lia,(λk h=>by cases h;lia),.inr rfl⟩
  ·rw[QO l]
   exact⟨g.2,rfl,by lia,(λk h=>by cases h;lia),.inl rfl⟩
def Ab{g:GD}{p:Xx}(n:p≠g.1):dM F g p=F p:=QO n
def EB{g:GD}{p:Xx}{b:Int}(s:eU F p b=true):eU (dM F g) p b=true:=by
 obtain⟨j,e,l⟩:=gq.mp s;refine gq.mpr ?_;by_cases q:p=g.1
 ·obtain⟨m,a,_,h,_⟩:=step_at (F:=F) g
  have:=h j<|q ▸ e;exact⟨m,q ▸ a,by lia⟩
 ·exact⟨j,(Ab q).trans e,l⟩
def GX{g:GD}{b:Int}(l:g.2<b):eU (dM F g) g.1 b=true:=by
 obtain⟨m,a,h,_⟩:=step_at (F:=F) g;exact gq.mpr ⟨m,a,by lia⟩
def Gy{g:GD}{p:Xx}{b:Int}(s:eU (dM F g) p b=true):eU F p b=true\/p=g.1/\g.2<b:=by
 obtain⟨j,e,l⟩:=gq.mp s;by_cases q:p=g.1
 ·obtain⟨m,a,_,_,h⟩:=step_at (F:=F) g
  rw[q,a]at e;cases e;obtain h|h:=h
  ·exact .inr ⟨q,by lia⟩
  ·exact .inl<|gq.mpr ⟨_,q ▸ h,l⟩
 ·rw[Ab q]at e
  exact .inl<|gq.mpr ⟨j,e,l⟩
def eY(a:Xw QD)(g:Xw Nat)(z:Xx)(h:Int):FH->Xw TK->Bool
 |_,[]=>false
 |F,t::r=>if t.1 ∉ g/\eU F t.2.1 (cJ a t.1)=true then(if t.2.2=z/\cJ a t.1<=h then true else eY a g z h (dM F (t.2.2,cJ a t.1)) r) else eY a g z h F r
theorem o7:∀{io:Xw TK}{F:FH}{t:TK}{r:Xw TK},io.Pairwise (λa b=>cJ qd a.1<=cJ qd b.1)->CA qd z h (t::r)->eU F t.2.1 (cJ qd t.1)=true->(∀u∈t::r,u∈io/\u.1 ∉ g)->eY qd g z h F io=true
 |[],_,t,_,_,_,_,hm=>nomatch (hm t<|.head _).1
 |x::io,F,t,r,pw,c,hs,hm=>by
  obtain⟨p,m⟩:=VY.mp pw;unfold eY;by_cases e:x=t
  ·subst e
   rw[QR ⟨(hm x<|.head _).2,hs⟩];by_cases f:x.2.2=z/\cJ qd x.1<=h
   ·rw[QR f]
   ·rw[QO f]
    have lt:=zf c;cases c with
    |one _ e l=>exact absurd ⟨e,l⟩ f
    |more _ u r l c=>
     obtain⟨y,A⟩:=lR.mp l;refine o7 m c (y ▸ GX (g:=(x.2.2,cJ qd x.1)) A) λv n=>⟨?_,(hm v<|.tail _ n).2⟩;refine(Rq.mp (hm v<|.tail _ n).1).resolve_left λq=>?_;have:=lt v n;rw[q]at this;lia
  ·have s:t∈io:=(Rq.mp (hm t<|.head _).1).resolve_left (To e)
   have i:∀u∈t::r,u∈io/\u.1 ∉ g:=λu j=>⟨(Rq.mp (hm u j).1).resolve_left λq=>by
    obtain w|j:=Rq.mp j
    ·exact e (q ▸ w)
    ·have o:=zf c u j
     have B:=p t s;rw[q]at o;lia,(hm u j).2⟩
   split
   ·split
    ·rfl
    ·exact o7 m c (EB hs) i
   ·exact o7 m c hs i
theorem mW:∀{io:Xw TK}{F:FH},eY qd g z h F io=true->∃t r,CA qd z h (t::r)/\eU F t.2.1 (cJ qd t.1)=true/\∀u∈t::r,u∈io/\u.1 ∉ g
 |[],_,e=>by cases e
 |x::io,F,e=>by
  unfold eY at e;split at e
  ·rename_i j
   split at e
   ·rename_i f
    exact⟨x,[],.one x f.1 f.2,j.2,λu a=>by rw[QQ.mp a];exact⟨.head _,j.1⟩⟩
   ·obtain⟨t,r,c,l,i⟩:=mW e
    obtain s|⟨n,m⟩:=Gy l
    ·exact⟨t,r,c,s,λu a=>⟨.tail _ (i u a).1,(i u a).2⟩⟩
    ·refine⟨x,t::r,.more x t r (lR.mpr ⟨n.symm,m⟩) c,j.2,λu a=>?_⟩
     obtain rfl|a:=Rq.mp a
     ·exact⟨.head _,j.1⟩
     ·exact⟨.tail _ (i u a).1,(i u a).2⟩
  ·obtain⟨t,r,c,l,i⟩:=mW e
   exact⟨t,r,c,l,λu a=>⟨.tail _ (i u a).1,(i u a).2⟩⟩
end
theorem pJ{α:Type}:∀{l:Xw (Xw α)},(∀x∈l,1<=x.length)->l.length<=l.flatten.length
 |[],_=>QP _
 |x::l,h=>by
  have f:=pJ λy a=>h y<|.tail _ a;have e:=h x<|.head _;rw[SK,QK,RG];lia
theorem ones{α:Type}:∀{l:Xw (Xw α)},(∀x∈l,1<=x.length)->l.flatten.length<=l.length->∀x∈l,x.length=1
 |[],_,_,x,m=>nomatch m
 |y::l,h,e,x,m=>by
  rw[SK,QK,RG]at e;have g:=pJ λy a=>h y<|.tail _ a;have f:=h y<|.head _;obtain rfl|m:=Rq.mp m
  ·lia
  ·exact ones (λy a=>h y<|.tail _ a) (by lia) x m
def Dj{g:Xw (Xw TK)}{cut:Xw Nat}(nd:(g.flatMap λe=>e.map (·.1)).Nodup)(B:cut.Nodup)(le:g.length=cut.length)(ex:∀e∈g,∃t∈e,t.1∈cut):(∀e∈g,(e.filter λt=>decide<|t.1∈cut).length=1)/\∀n∈cut,∃e∈g,∀t∈e,t.1∈cut->t.1=n:=by
 have z:∀e:Xw TK,(e.filter λt=>decide<|t.1∈cut).map (·.1)=(e.map (·.1)).filter λn=>decide (n∈cut):=λe=>by
  rw[V9];rfl
 have fl:(g.map λe=>(e.map (·.1)).filter λn=>decide<|n∈cut).flatten=(g.flatMap λe=>e.map (·.1)).filter λn=>decide (n∈cut):=by
  rw[List.filter_flatMap];rfl
 have j:((g.map λe=>(e.map (·.1)).filter λn=>decide<|n∈cut).flatten).Nodup:=by
  rw[fl];exact SV Tq nd
 have l:∀n∈(g.map λe=>(e.map (·.1)).filter λn=>decide<|n∈cut).flatten,n∈cut:=λn m=>by
  rw[fl]at m;exact QT (Ra.mp m).2
 have p:∀x∈g.map λe=>(e.map (·.1)).filter λn=>decide<|n∈cut,1<=x.length:=λx m=>by
  obtain⟨e,i,rfl⟩:=Ru.mp m;obtain⟨t,o,q⟩:=ex e i;exact List.length_pos_of_mem<|Ra.mpr ⟨UZ o,dT0 q⟩
 have C:=iV j l;have D:(g.map λe=>(e.map (·.1)).filter λn=>decide<|n∈cut).length=g.length:=QM _;have r:=ones p (by lia);refine⟨λe i=>?_,λn y=>?_⟩
 ·rw[<-QM (f:=(·.1)),z]
  exact r _<|UZ i
 ·have v:n∈(g.map λe=>(e.map (·.1)).filter λn=>decide<|n∈cut).flatten:=by
   apply RR;intro no;have:=iV (xs:=n::_) (ys:=cut) (Tj.mpr ⟨no,j⟩) λx h=>by
    obtain rfl|h:=Rq.mp h
    ·exact y
    ·exact l x h
   have:=pJ p;rw[RG]at *;lia
  obtain⟨x,h,nx⟩:=List.mem_flatten.mp v;have w:=r x h;obtain⟨e,i,rfl⟩:=Ru.mp h;refine⟨e,i,λt o q=>?_⟩;obtain⟨a,A⟩:=List.length_eq_one_iff.mp w;have s:t.1∈(e.map (·.1)).filter λn=>decide (n∈cut):=Ra.mpr ⟨UZ o,dT0 q⟩;rw[A]at s nx;rw[QQ.mp s,QQ.mp nx]
inductive O9(vs:Xw V)(H:Hp)(Q:VK):Prop
 |mk(i p s t y ol:Xp)(ps:Xw Xx)(ss j ys os:Xw V)(f:Xw QD)(g:Xw TK)(e:vs=[.ref i,.ref ol])(ok:i5 ps H i p s t y ss j ys)(n:Lz dw H j f)(o:H ol=some (.lst os))(to:dU H os g)(q:∀t∈g,t.1<f.length)(m:g.length<=240)
   (k:∀l us h H',cH H H'->H l=none->H' l=some (.lst us)->dU H' us h->h.Pairwise (λa b=>cJ f a.1<=cJ f b.1)->(∀t,t∈h↔t∈g)->h.length<=64*240->Q (.ref l) H')
inductive MA(h ol:Xp)(H H4:Hp)(g:Xw QD)(l:Xw TK)(ms:Xw Int)(i:Nat)(σ:St)(f:Hp):Prop
 |mk(a:Xp)(us:Xw V)(io:Xw TK)(j:Xu V)(e:σ=[some (.ref h),some (.ref ol),some (.ref a),j])(n:cH H4 f)(q:H a=none)(hf:f a=some (.lst us))(p:dU f us io)(o:io=(ms.take i).flatMap λm=>l.filter λt=>decide (cJ g t.1=m))
theorem uL{α β:Type}{f:α->Xw β}{n:Nat}:∀{l:Xw α}{k:Nat},(∀a∈l,(f a).length<=n)->l.length<=k->(l.flatMap f).length<=k*n
 |[],_,_,_=>RQ _
 |a::l,0,_,h=>absurd h<|Vl _
 |a::l,k+1,h,hl=>by
  have i:=uL (f:=f) (λb e=>h b<|.tail _ e)<|WT hl;have g:=h a<|.head _;rw[Wd,QK,Nat.succ_mul];lia
def GO{H:Hp}{us ws:Xw V}{j ls:Xw TK}(a:dU H us j)(b:Lz Ca H ws ls):dU H (us++ws) (j++ls):=by
 refine⟨by rw[QK,QK,a.1,b.1],λi u t f g=>?_⟩;by_cases h:i<us.length
 ·rw[Rf h]at f
  rw[Rf<|by rw[<-a.1];exact h]at g;exact a.2 i u t f g
 ·rw[QW<|by lia]at f
  rw[QW<|by rw[<-a.1];lia,<-a.1]at g;obtain⟨c,e,l⟩:=b.2 _ u t f g;exact⟨c,e,l⟩
def back(s:cH H H')(n:H' a=none):H a=none:=by
 cases e:H a with
 |none=>rfl
 |some o=>exact absurd ((s a o e).symm.trans n) (by intro q;cases q)
def DH:Sp:=λa H Q _=>O9 a H Q
def qV:cK ["_law_made_here","_law_open_ones","_law_found","_law_hour"] ["_law_made_here","_law_open_ones"] (cI i7):={}
def KQ (D:Df K mg "_law_in_order" i7 ["_law_made_here","_law_open_ones"] f fd) (T:Txt K mg kw C):Gd P w K mg base 1 "_law_in_order" DH:=by
 refine aG D qV λX H vs Q E g h=>?_;obtain⟨md,p,s,t,y,ol,ps,ss,ts,ys,os,z,ot,rfl,ok,qs,Ym,to,tN,ar,k⟩:=h;have hu:=dZ g.room;have XO:sizeLine=16777216:=Rh;obtain⟨S0,S1,S2,S3,_⟩:=g.fc [0,1,2,3];refine⟨_,(af (au S2 g.nd<|a5 bz)
 (af (aZ g.own g.calm (aQ<|aJ (g.b T.b_sorted) (J.iJ g.calm) rB<|aj<|bo (g.b T.b_set) (J.iz g.calm) CK<|aj<|bB (is:=[]) (xs:=["_law_talk"]) (ns:=[]) g.calm (aQ<|aK hu (aa S0) ao ah) {} (λ_ _ _ _ _=>a6 (i:=0)) (λ_ _ _ _ _=>bU) (λ_ _ _ _ _=>ai bp (aM (i:=0)) ae ah) g.hsc g.hN) (aN S3 g.nd)
 (ag<|au S2 g.nd<|aD cA (aa S2)<|bB (is:=[0,3]) (xs:=["_law_one"]) (ns:=["_law_made_here","_law_hour"]) g.calm (aQ<|aa S1) {} (λ_ _ _ _ _=>a6 (i:=0)) (λ_ _ _ _ _=>bC<|aF aO (ai bp (ai cD (aK hu (aS (i:=1)) ao ah) (ai bp (aM (i:=0)) ae ah) cv) ae ah) (aS (i:=2))<|cL _) (λ_ _ _ _ _=>aM (i:=0)) g.hsc g.hN))
 (ag<|aw<|aa S2))),?_⟩
 refine⟨Hi,λfo av=>?_⟩;have s1:=cH.upd (o:=.lst []) av;have am:upd H fo (.lst []) fo=some (.lst []):=cE;generalize upd H fo (.lst [])=H1 at s1 am;have A:=ok.mono s1;have bn:=qs.mono<|dw.mono<|Tk.of s1;have tl:=ok.lt;have bd:=qs.1;refine⟨_,rfl,md,_,rfl,A.dt,t,rfl,⟨_,cN.of A.ht⟩,ja (λ_ v (q:QD)=>v=V.int q.1) z (λ_=>true) (λv d _ _ t h=>h) (by lia) (λj H2 G hj=>⟨ts,ts[j]'(by lia),cN.of<|G _ _ A.ht,QJ _⟩) (λH2 G=>⟨ts,cN.of<|G _ _ A.ht,SA bd⟩) ?_ ?_⟩
 ·intro j ay v d H2 H3 K1 K2 hd M G L k1 k2
  obtain⟨S,L⟩:=L;subst S;have R:=L ts<|cN.of<|G _ _ A.ht;obtain⟨o1,rfl⟩:=Fl M;obtain⟨b,rfl,W⟩:=bn.2 _ _ _ R hd;exact⟨⟨[_],rfl,rfl⟩,⟨_,rfl,xT (G _ _ W) rfl<|k1 rfl _ _ (cH.refl _) rfl⟩⟩
 intro nb bi H2 b2 G bc a0;have ye:=xW a0;rw[Vs.mpr λ_ _=>rfl]at ye;have ye:bi=(z.map (·.1)).map V.int:=by rw[ye,Th];rfl
 subst ye;refine⟨nb,_,rfl,cN.of bc,by rw[QM];lia,λO a2=>⟨O,_,rfl,cE,λU I a1 pw mem len=>?_⟩⟩;have s3:=(G.trans<|cH.upd (o:=y6 X.prog X.w O<|z.map (·.1)) a2).trans<|cH.upd (o:=.lst<|I.map V.int) a1;have N:upd (upd H2 O<|y6 X.prog X.w O<|z.map (·.1)) U (.lst<|I.map V.int) U=some (.lst<|I.map V.int):=cE;generalize upd (upd H2 O<|y6 X.prog X.w O<|z.map (·.1)) U (.lst<|I.map V.int)=H4 at s3 N;have n:=s1.trans s3;have bb:=ok.mono n;have a9:=qs.mono<|dw.mono<|Tk.of n;have ac:=n _ _ Ym;have bf:=to.mono<|Tk.of n;have ml:I.length<=64:=by rw[QM]at len;lia
 refine⟨U,rfl,⟨_,cN.of N⟩,c4 (K:=X.K) (a:=U) (xs:=I.map V.int) (MA md ol H H4 z ot I) ⟨fo,[],[],none,rfl,cH.refl _,av,s3 _ _ am,⟨rfl,λi u t h=>by cases h⟩,rfl⟩ ?_ ?_ ?_⟩
 ·rintro i σ H5 hi ⟨fa,us,io,S,rfl,B,nf,hf,tu,F⟩
  exact cN.of<|B _ _ N
 ·rintro i v σ H5 R ⟨fa,us,io,S,rfl,B,nf,hf,tu,F⟩
  rw[QY]at R;obtain⟨m,hm,rfl⟩:=RC.mp R;have l:=B _ _ ac;have be:=bf.mono<|Tk.of B;have b3:io.length<=64*240:=by
   rw[F];exact uL (λm _=>Rn (RJ _ _) ar) (Rn (Vt _ _) (by have:=(gI0.mp hm).1;lia))
  refine⟨_,rfl,_,rfl,ol,rfl,⟨_,cN.of l⟩,ja Ca ot (λt=>decide<|cJ z t.1=m) (λv d _ _ Y ⟨a,e,ha⟩=>⟨a,e,Y _ _ ha⟩) (by lia) (λj H6 r hj=>⟨os,os[j]'(by rw[to.1];exact hj),cN.of<|r _ _ l,QJ _⟩) (λH6 r=>⟨os,cN.of<|r _ _ l,SA to.1⟩) ?_ ?_⟩
  ·intro j ay v Y H6 H7 K1 K2 hd M r L k1 k2
   obtain⟨S,L⟩:=L;subst S;have R:=L os<|cN.of<|r _ _ l;obtain⟨o1,rfl⟩:=Fl M;obtain⟨b,rfl,W⟩:=be.2 _ _ _ R hd;have ap:=B.trans r;have lt:=tN Y<|QN hd;obtain⟨q,hq⟩:∃q,z[Y.1]? =some q:=⟨_,QJ lt⟩;obtain⟨vq,as⟩:∃vq,ts[Y.1]? =some vq:=⟨_,QJ<|by lia⟩;obtain⟨aq,rfl,bv⟩:=a9.2 _ _ _ as hq;have ax:=bb.mono ap;refine⟨⟨[_],rfl,rfl⟩,⟨_,rfl,md,_,rfl,ax.dt,_,rfl,xT (r _ _ W) rfl<|xL ax.ht (dj as)<|xT (ap _ _ bv) rfl ⟨_,rfl,rfl,_,rfl,dD (λa4=>⟨_,rfl,k1 ?_ _ _ (cH.refl _) ⟨b,rfl,r _ _ W⟩⟩) λno=>k2 ?_ _ (cH.refl _)⟩⟩⟩
   ·rw[eZ hq]
    exact dT0<|V.int.inj<|QT a4
   ·rw[eZ hq]
    exact QU λe=>no<|dT0<|RP V.int e
  intro nl al H6 b1 r bx Z;have bm:=r _ _ hf;refine⟨fa,nl,_,_,rfl,rfl,cN.of bm,cN.of bx,?_,λuc ad=>?_⟩
  ·rw[tu.1,Z.1]
   have:=RJ (λt:TK=>decide<|cJ z t.1=m) ot;lia
  have s7:=cH.upd (o:=.lst<|us++al) ad;refine⟨uc,us++al,io++ot.filter λt=>decide<|cJ z t.1=m,_,rfl,(B.trans r).trans s7,back (n.trans<|B.trans r) ad,cE,?_,?_⟩
  ·have a3:=tu.mono (Tk.of<|r.trans s7)
   have b0:=Z.mono λv d (h:Ca H6 v d)=>(let ⟨a,e,ha⟩:=h;⟨a,e,s7 _ _ ha⟩:Ca _ v d);exact GO a3 b0
  ·rw[F,RN,hm,Xn]
   show _++_=_++List.flatMap _ [m];rw[Wd,List.flatMap_nil,Ry]
 ·rintro σ H5 ⟨fa,us,io,S,rfl,B,nf,hf,tu,F⟩
  rw[QM,RX]at F;refine⟨_,rfl,k fa us io H5 (n.trans B) nf hf tu ?_ (λt=>?_) ?_⟩
  ·rw[F,W8]
   refine⟨λm _=>VS.mpr ?_,pw.imp λ{a b} ab x hx y hy=>?_⟩
   ·intro a b an
    have ha:=QT (Ra.mp<|an.subset<|.head _).2;have W:=QT (Ra.mp<|an.subset<|.tail _<|.head _).2;lia
   ·have hx:=QT (Ra.mp hx).2
    have hy:=QT (Ra.mp hy).2;lia
  ·rw[F,V3]
   refine⟨λ⟨m,_,h⟩=>(Ra.mp h).1,λh=>⟨cJ z t.1,(mem _).mpr ?_,Ra.mpr ⟨h,dT0 rfl⟩⟩⟩;have lt:=tN t h;rw[eZ<|QJ lt];exact UZ<|Tf lt
  ·rw[F]
   exact uL (λm _=>Rn (RJ _ _) ar) ml
inductive PB(vs:Xw V)(H:Hp)(Q:VK):Prop
 |mk(j p s t y io i go:Xp)(ps:Xw Xx)(ss l ys us:Xw V)(XD:Xw (Key×V))(F:FH)(f:Xw QD)(a:Xw TK)(g:Xw Nat)(z:Xx)(h:Int)(e:vs=[.ref j,.ref io,.ref i,.ref go,.str z,.int h])(ok:i5 ps H j p s t y ss l ys)(q:Lz dw H l f)(n:H io=some (.lst us))(v:dU H us a)(w:∀t∈a,t.1<f.length)(m:a.length<=64*240)(o:H i=some (.dK XD))(x:XD.length<=24)(sn:jO XD F)(r:H go=some (.lst (nums g)))
   (k:∀H',cH H H'->Q (.bl (eY f g z h F a)) H')
def zI:Sp:=λa H Q _=>PB a H Q
inductive CG(n io q go a:Xp)(z:Xx)(h:Int)(H1:Hp)(m:Xw QD)(g:Xw Nat)(j:Xw TK)(b:Bool)(i:Nat)(σ:St)(f:Hp):Prop
 |mk(p r s l:Xu V)(XD:Xw (Key×V))(F:FH)(e:σ=[some (.ref n),some (.ref io),some (.ref q),some (.ref go),some (.str z),some (.int h),some (.ref a),p,r,s,l])(v:∀b o,H1 b=some o->b≠a->f b=some o)(hd:f a=some (.dK XD))(w:XD.length<=24+i)(sn:jO XD F)(x:eY m g z h F (j.drop i)=b)
def Bw{a:Xw QD}{g:Xw Nat}{z:Xx}{h:Int}{F:FH}{t:TK}{r:Xw TK}:eY a g z h F (t::r)=if t.1 ∉ g/\eU F t.2.1 (cJ a t.1)=true then(if t.2.2=z/\cJ a t.1<=h then true else eY a g z h (dM F (t.2.2,cJ a t.1)) r) else eY a g z h F r:=rfl
def Dd(e f:Bool)(g:∀a:Bool->Hp->Prop,(∀H',cH H H'->a e H')->t σ H a)(i:∀H',cH H H'->∀a:Bool->Hp->Prop,a f H'->u σ H' a)(k:∀H',cH H H'->Q (e&&f) H'):Jv t u σ H Q:=by
 refine g _ λH' h=>?_;grind
def yB:cK ["_law_made_here","_law_in_order_here","_law_seen_here","_law_gone","_law_person","_law_hour","_law_have","_law_k","_law_teller","_law_hearer","_law_late"] ["_law_made_here","_law_in_order_here","_law_seen_here","_law_gone","_law_person","_law_hour"] (cI nh):={}
def KO (D:Df K mg "_law_leads" nh ["_law_made_here","_law_in_order_here","_law_seen_here","_law_gone","_law_person","_law_hour"] f fd) (T:Txt K mg kw C):Gd P w K mg base 1 "_law_leads" zI:=by
 refine aG D yB λX H vs Q E G h=>?_;obtain⟨Z,p,s,t,y,U,Y,W,ps,ss,ts,ys,us,XD,F,A,O,g,z,h,rfl,ok,qs,YO,ti,tN,il,Yq,kl,sn,Yj,k⟩:=h;have hu:=dZ G.room;have XO:sizeLine=16777216:=Rh;have ax:=qs.1;obtain⟨S0,S1,S2,S3,S4,S5,S6,S7,S8,S9,N,_⟩:=G.fc [0,1,2,3,4,5,6,7,8,9,10];refine⟨_,(af (au S6 G.nd<|bo (G.b T.b_dict) J.Fb uv<|aj<|aa S2)
 (af (aZ G.own G.calm (aQ<|aa S1) (bO G.calm<|aT (aN S7 G.nd)<|aT (aN S8 G.nd)<|aT (aN S9 G.nd) bH)
 (af (au N G.nd<|ai aE (ai aU (aK hu (aa S0) ao ah) (aa S7) aR) ae ah)
 (ag (aH (a7<|bg (aF J.gb (aa S7) (aa S3) b6)<|bg (J.Dt hu (aa S8)<|aa S6)<|bq<|aF bW (aK hu (aa S6) (aa S8) aR) (aa N)<|cL _)
 (af (aH (a7<|bg (aF aO (aa S9) (aa S4)<|cL _)<|bq<|aF bG (aa N) (aa S5)<|cL _)
 (ag<|aw bj)
 aI)
 (ag<|bN hu (aa S6) (aa S9)<|aJ (G.b T.b_min) (J.gr G.calm) uH<|aB (aa N)<|J.LQ hu (aa S6) (aa S9)<|aa N))
 aI))))
 (ag<|aw bj))),?_⟩
 refine⟨_,rfl,Y,XD,rfl,.inl Yq,λr ab=>?_⟩;have s1:=cH.upd (o:=.dK XD) ab;have ap:upd H r (.dK XD) r=some (.dK XD):=cE;generalize upd H r (.dK XD)=H1 at s1 ap;have keep:∀{b:Xp}{o:HO}{R:Hp},(∀b o,H1 b=some o->b≠r->R b=some o)->H b=some o->R b=some o:=λS e=>S _ _ (s1 _ _ e)<|cF e ab;refine⟨_,rfl,U,rfl,⟨_,cN.of<|s1 _ _ YO⟩,c4 (K:=X.K) (a:=U) (xs:=us) (CG Z U Y W r z h H1 A g O<|eY A g z h F O) ⟨none,none,none,none,XD,F,rfl,λb o e _=>e,ap,by lia,sn,rfl⟩ ?_ ?_ ?_⟩
 ·rintro i σ R hi ⟨e7,e8,e9,XW,x,F',rfl,S,hd,ad,I,B⟩
  exact cN.of<|keep S YO
 ·rintro i v σ R hv ⟨e7,e8,e9,XW,x,F',rfl,S,hd,ad,I,B⟩
  have hi:=(gI0.mp hv).1;have am:i<O.length:=by rw[<-ti.1];exact hi
  have s2:cH H R:=λb o e=>keep S e;have al:=ok.mono s2;have ht:O[i]? =some O[i]:=QJ am;rw[UP am]at B;generalize O[i]=n at ht B;obtain⟨a,rfl,av⟩:=ti.2 _ _ _ hv ht;have lt:=tN n<|QN ht;obtain⟨q,hq⟩:∃q,A[n.1]? =some q:=⟨_,QJ lt⟩;obtain⟨vq,ac⟩:∃vq,ts[n.1]? =some vq:=⟨_,QJ<|by lia⟩;obtain⟨aq,rfl,as⟩:=qs.2 _ _ _ ac hq;refine⟨a,_,rfl,fe.of<|s2 _ _ av,rfl,_,_,rfl,_,_,rfl,_,_,rfl,rfl,?_⟩;refine⟨_,rfl,Z,_,rfl,al.dt,_,rfl,xL al.ht (dj ac)<|xT (s2 _ _ as) rfl ?_⟩;rw[Bw]at B;rw[<-eZ hq];have lk:x.length<sizeLine:=by lia
  have L:=dI.k (k:=Sum.inr n.2.1) hd;rw[I.get]at L;have gH:∀{e8 e9 XW:Xu V},¬(n.1 ∉ g/\eU F' n.2.1 (cJ A n.1)=true)->CG Z U Y W r z h H1 A g O (eY A g z h F O) (i+1) [some<|.ref Z,some<|.ref U,some<|.ref Y,some<|.ref W,some<|.str z,some<|.int h,some<|.ref r,some<|.int (n.1:Nat),e8,e9,XW] R:=λno=>⟨_,_,_,_,x,F',rfl,S,hd,by lia,I,by rw[QO no]at B;exact B⟩;refine⟨_,rfl,_,rfl,W,_,rfl,.inl<|cN.of<|s2 _ _ Yj,rfl,nQ _,_,rfl,?_⟩;rw[in_nums];refine dD (λy1=>?_) (λn1=>dG<|gH λc=>n1<|by rw[QR rfl,QU c.1];rfl);have y1:n.1 ∉ g:=λm=>by
   rw[QR rfl,dT0 m]at y1;cases y1
  cases hF:F' n.2.1 with
  |none=>
   rw[hF]at L;refine⟨_,rfl,_,rfl,r,_,rfl,L,_,rfl,gM bF0<|dG<|gH λc=>?_⟩;obtain⟨j,e,_⟩:=gq.mp c.2;rw[hF]at e;cases e
  |some j=>
   rw[hF]at L;refine⟨_,rfl,_,rfl,r,_,rfl,L,_,rfl,fE rfl ⟨_,rfl,_,rfl,r,_,rfl,L,_,rfl,_,_,rfl,rfl,_,rfl,dD (λar=>?_) λno=>gH λc=>no ?_⟩⟩
   rotate_left
   ·obtain⟨j',e,l⟩:=gq.mp c.2
    rw[hF]at e;cases e;exact dT0 l
   rw[QR ⟨y1,gq.mpr ⟨j,hF,QT ar⟩⟩]at B;refine kB (λan H'=>¬(n.2.2=z/\cJ A n.1<=h)/\an=[some<|.ref Z,some<|.ref U,some<|.ref Y,some<|.ref W,some<|.str z,some<|.int h,some<|.ref r,some<|.int (n.1:Nat),some<|.str n.2.1,some<|.str n.2.2,some<|.int<|cJ A n.1]/\cH R H') ?_ (decide (V.str n.2.2=V.str z)&&decide (cJ A n.1<=h)) (λQ' k'=>Dd _ _ (λQ2 k2=>⟨_,rfl,_,rfl,rfl,_,rfl,k2 _<|cH.refl _⟩) (λH' s' Q2 k2=>⟨_,rfl,_,rfl,_,_,rfl,rfl,_,rfl,k2⟩) k') (λhb H3 s3 _=>?_) λhb H3 s3=>⟨λc=>?_,rfl,s3⟩
   ·rintro an H3 ⟨nf,rfl,s3⟩
    rw[QO nf]at B;have M:=s3 _ _ hd;have L:=dI.k (k:=Sum.inr n.2.2) M;rw[I.get]at L;have put:∀m:Int,dM F' (n.2.2,cJ A n.1) n.2.2=some m->CG Z U Y W r z h H1 A g O (eY A g z h F O) (i+1) [some<|.ref Z,some<|.ref U,some<|.ref Y,some<|.ref W,some<|.str z,some<|.int h,some<|.ref r,some<|.int (n.1:Nat),some<|.str n.2.1,some<|.str n.2.2,some<|.int<|cJ A n.1] (upd H3 r<|.dK<|putK x (Sum.inr n.2.2)<|.int m):=λm em=>
     ⟨_,_,_,_,_,_,rfl,λb o e n'=>by rw[cG n'];exact s3 _ _<|S b o e n',cE,Rn (di _ _ _)<|by lia,I.put (g:=(n.2.2,cJ A n.1)) em,B⟩
    cases hG:F' n.2.2 with
    |none=>
     rw[hG]at L;exact⟨_,rfl,_,rfl,r,rfl,.inl ⟨_,.inl M⟩,_,rfl,_,rfl,_,L,_,_,rfl,_,rfl,_,rfl,r,_,rfl,j8.k (k:=Sum.inr n.2.2) M lk,put _<|by unfold dM;rw[QR rfl,hG,QO<|Wt _]⟩
    |some j'=>
     rw[hG]at L;exact⟨_,rfl,_,rfl,r,rfl,.inl ⟨_,.inl M⟩,_,rfl,_,rfl,_,L,_,j',rfl,_,rfl,_,rfl,r,_,rfl,j8.k (k:=Sum.inr n.2.2) M lk,put _<|by unfold dM;rw[QR rfl,hG]⟩
   ·rw[R6]at hb
    rw[QR ⟨V.str.inj<|QT hb.1,QT hb.2⟩]at B;have:=k H3<|s2.trans s3;rw[<-B]at this;exact this
   ·rw[dT0<|RP V.str c.1,dT0 c.2]at hb
    cases hb
 ·rintro σ R ⟨e7,e8,e9,XW,x,F',rfl,S,hd,ad,I,B⟩
  rw[ti.1,List.drop_length]at B;have:=k R λb o e=>keep S e;rw[<-B]at this;exact this
def AN(m:∀g:VK,g (.ref a) H->te σ H g)(h:H a=some (.lst xs))(k:∀H',cH H H'->Q (.bl<|!xs.isEmpty) H'):Fm (λx y H Q=>FP K x y H Q) te (FA kU) σ H Q:=by
 refine m _ ⟨by decide,λe n=>?_⟩;have f:=cH.upd (o:=.lst []) n;cases xs with
 |nil=>exact .same a e [] [] [] rfl rfl (cN.of<|f _ _ h) (cN.of cE) rfl rfl (λi u v c p=>by cases p)<|k _ f
 |cons j l=>exact .other a e (j::l) [] rfl rfl (cN.of<|f _ _ h) (cN.of cE) (by grind)<|k _ f
structure QC(qd:Xw QD)(F:FH)(z:Xx)(h:Int)(XX:Xw TK)(XQ:Xw (Xw TK))(cut:Xw Nat):Prop where
 any:eY qd [] z h F XX= !XQ.isEmpty
 no:eY qd cut z h F XX=false
 one:∀n∈cut,eY qd (cut.filter λm=>decide (m≠n)) z h F XX=true
 each:∀sm∈XQ,(sm.filter λt=>decide (t.1∈cut)).length=1
def KU{f:Xw QD}{F:FH}{z:Xx}{h:Int}{v s:Xw TK}{w:Xw (Xw TK)}{S:Xw Pl}(cs:qS f F z (v.filter λt=>decide<|cJ f t.1<=h) S)(lo:EE F f v z h w)(le:w.length=(gU S f.length).length)(pw:s.Pairwise λa b=>cJ f a.1<=cJ f b.1)(y:∀t,t∈s↔t∈v)(J:∀t∈v,t.1<f.length):QC f F z h s w (gU S f.length):=by
 have i:∀{t:TK}{r:Xw TK},CA f z h (t::r)->eU F t.2.1 (cJ f t.1)=true->(∀u∈t::r,u∈v)->∃u∈t::r,u.1∈gU S f.length:=λc o x=>xG cs (λt B=>J t (Ra.mp B).1) c o λu j=>Ra.mpr ⟨x u j,dT0<|xF c u j⟩;have nd:(gU S f.length).Nodup:=SV Tq VZ;have lead:∀{p:Xw TK}{g:Xw Nat},p∈w->(∀t∈p,t.1 ∉ g)->eY f g z h F s=true:=λ{p g} l K=>by
  obtain⟨t,r,rfl,o,c⟩:=wW<|lo.line _ l;exact o7 pw c o λu j=>⟨(y u).mpr<|lo.inn _ l u j,K u j⟩
 have none:∀{g:Xw Nat},(∀n∈gU S f.length,n∈g)->eY f g z h F s=false:=λ{g} C=>RH.mpr λe=>by
  obtain⟨t,r,c,o,x⟩:=mW e;obtain⟨u,j,q⟩:=i c o λu j=>(y u).mp (x u j).1;exact(x u j).2 (C _ q)
 obtain⟨G,E⟩:=Dj lo.nd nd le λp l=>by
  obtain⟨t,r,rfl,o,c⟩:=wW<|lo.line _ l;exact i c o<|lo.inn _ l
 refine⟨?_,none λn h=>h,λn I=>?_,G⟩
 ·cases w with
  |nil=>
   have:gU S f.length=[]:=Rm le.symm;exact none λn h=>by rw[this]at h;exact h
  |cons p r=>exact lead (.head _) λt _ q=>nomatch q
 ·obtain⟨p,l,q⟩:=E n I
  exact lead l λt D m=>by
   obtain⟨H,A⟩:=Ra.mp m;exact QT A<|q t D H
inductive Pr(C:Xp)(vs:Xw V)(H:Hp)(Q:VK):Prop
 |mk(n p s t y x q s' t' o io m:Xp)(ps:Xw Xx)(ss l ys us:Xw V)(XD:Xw (Key×V))(g:Xw GD)(f:Xw QD)(sd:Xw SD)(i:Xw TK)(z:Xx)(h:Int)(e:vs=[.ref n,.ref x,.ref io,.ref m,.str z,.int h])(ok:i5 ps H n p s t y ss l ys)(bk:Bk C H x q s' t' o ps ss l ys)(I:ps.length<=24)(E:Lz dH H ss g)(D:∀d∈g,d.1∈ps)(F:Lz dw H l f)(v:∀d∈f,lV ps d)(A:Sys H ys sd)(w:H io=some (.lst us))(K:dU H us i)(pw:i.Pairwise (λa b=>cJ f a.1<=cJ f b.1))(J:∀t,t∈i↔t∈(fu 0 (fm f)).filter (cZ f sd))(r:i.length<=64*240)(B:H m=some (.dK XD))(L:XD.length<=24)(sn:jO XD (dz (g.filter (cS sd))))(G:∀j,dz (g.filter (cS sd)) z=some j->h<j)
   (k:∀H',cH H H'->Q (.bl true) H')
def DF(C:Xp):Sp:=λa H Q _=>Pr C a H Q
def yF:cK ["_law_made_here","_law_book_here","_law_in_order_here","_law_seen_here","_law_person","_law_hour","_law_found","_law_numbers","_law_number","_law_rest","_law_some"] ["_law_made_here","_law_book_here","_law_in_order_here","_law_seen_here","_law_person","_law_hour"] (cI nA):={}
def LN (D:Df K mg "_law_asked" nA ["_law_made_here","_law_book_here","_law_in_order_here","_law_seen_here","_law_person","_law_hour"] f fd) (T:Txt K mg kw C) (bd:Gd P w K mg base 8 "apart_lines" (NO C)) (a9:Gd P w K mg base 8 "talk_cut" (MX C)) (bc:Gd P w K mg base 1 "_law_leads" zI):Gd P w K mg base 9 "_law_asked" (DF C):=by
 refine aG D yF λX H vs Q E l h=>?_;obtain⟨md,p,s,t,y,x,p',s',t',y',io,se,ps,ss,ts,ys,us,XD,sg,G,sd,XX,z,h,rfl,ok,bk,pl,gs,gp,qs,qk,sy,YO,ti,pw,mm,il,Yq,kl,sn,nz,k⟩:=h;have ap:=l.c bc;have hu:=dZ l.room;have XO:sizeLine=16777216:=Rh;obtain⟨S0,S1,S2,S3,S4,S5,S6,S7,S8,S9,a0,_⟩:=l.fc [0,1,2,3,4,5,6,7,8,9,10];have ac:=l.b T.b_len;refine⟨_,(af (au S6 l.nd<|ak (l.c bd)<|aP (aa S1) (aa S4)<|aa S5)
 (af (au S7 l.nd<|ak (l.c a9)<|aP (aa S1) (aa S4)<|aa S5)
 (af (aH (aF b9 (ba (J.lN hu) (aa S6) (a5 bz)<|cL _) (ak ap<|bK (aa S0)<|b7 (aa S2) (aa S3) (a5 bz) (aa S4)<|aa S5)<|cL _)
 (ag<|aw bj)
 aI)
 (af (aH (bh<|ak ap<|bK (aa S0)<|b7 (aa S2) (aa S3) (aa S7) (aa S4)<|aa S5)
 (ag<|aw bj)
 aI)
 (af (aZ l.own l.calm (aQ<|aa S7) (aN S8 l.nd)
 (af (bY (is:=[8]) (xs:=["_law_one"]) (ns:=["_law_number"]) S9 l.nd l.calm (aQ<|aa S7) {} (λ_ _ _ _ _=>a6 (i:=0)) (λ_ _ _ _ _=>bC<|aF b9 (aM (i:=0)) (aS (i:=1))<|cL _) (λ_ _ _ _ _=>aM (i:=0)) l.hsc l.hN (by decide+kernel))
 (ag (aH (bu<|bh<|ak ap<|bK (aa S0)<|b7 (aa S2) (aa S3) (aa S9) (aa S4)<|aa S5)
 (ag<|aw bj)
 aI))))
 (af (aZ l.own l.calm (aQ<|aa S6) (aN a0 l.nd)
 (ag (aH (aF b9 (aJ ac aY dh<|aj<|bB (is:=[7]) (xs:=["_law_telling"]) (ns:=["_law_numbers"]) l.calm (aQ<|aa a0) {} (λ_ _ _ _ _=>a6 (i:=0)) (λ_ _ _ _ _=>bC<|aF J.qx (ai bp (aM (i:=0)) ae ah) (aS (i:=1)) b6) (λ_ _ _ _ _=>aM (i:=0)) l.hsc l.hN) ae<|cL _)
 (ag<|aw bj)
 aI)))
 (ag<|aw<|ba aO (aJ ac aY dh<|aj<|aa S6) (aJ ac aY dh<|aj<|aa S7)<|cL _))))))),?_⟩
 have sl:=ok.ls;have b1:=ok.lt;have XZ:=ok.ly;have b3:=qs.1;have a2:ts.length<=120:=by lia
 have hN:∀t∈(fu 0<|fm G).filter (cZ G sd),t.1<G.length:=λt ht=>by
  obtain⟨q,hq,_⟩:=pP qk (Ra.mp ht).1;exact(gI0.mp hq).1
 refine⟨_,rfl,_,rfl,_,rfl,⟨x,p',s',t',y',ps,ss,ts,ys,sg,G,sd,z,h,rfl,bk,pl,sl,a2,gs,gp,qs,qk,sy,XZ,nz,λfo fs XQ H1 s1 b4 bb al lo mx=>?_⟩⟩;refine⟨_,rfl,_,rfl,_,rfl,⟨x,p',s',t',y',ps,ss,ts,ys,sg,G,sd,z,h,rfl,bk.mono s1,pl,sl,a2,gs.mono<|dH.mono<|Tk.of s1,gp,qs.mono<|dw.mono<|Tk.of s1,qk,sy.mono<|Tk.of s1,XZ,nz,λnu S H2 s2 bx B cs bn=>?_⟩⟩;have nn:XQ.length=(gU S G.length).length:=mx.one (λt ht=>oM qk ht) bn;have an:=KU cs lo nn pw mm hN;have fl:=al.1;have U:=s1.trans s2;have M:=s2 _ _ bb;have bi:Lz Ku H2 fs XQ:=⟨al.1,λi v N O hs=>let ⟨a,xs,e,ha,tu⟩:=al.2 i v N O hs;⟨a,xs,e,s2 _ _ ha,tu.mono<|Tk.of s2⟩⟩;have cl:(gU S G.length).length<=64:=by
  have:=RJ (λk=>decide<|dW k∈S/\eK k ∉ S)<|List.range G.length;rw[SI]at this;have:(gU S G.length).length<=G.length:=this;lia
 generalize bv:gU S G.length=cut at B nn an cl;generalize dz (sg.filter<|cS sd)=F at sn an;have a3:∀N∈XQ,N.length<=64:=λN ms=>by
  have:=iV (xs:=N.map λt:TK=>t.1) (ys:=List.range G.length) ((W8.mp lo.nd).1 N ms) λa ha=>by
   obtain⟨t,ht,rfl⟩:=Ru.mp ha;exact Su.mpr<|hN t<|lo.inn N ms t ht
  rw[QM,SI]at this;lia
 have ab:∀{H3:Hp}{Q3:VK}{go:Xp}{g:Xw Nat},cH H H3->H3 go=some (.lst<|nums g)->(∀H',cH H3 H'->Q3 (.bl<|eY G g z h F XX) H')->zI [.ref md,.ref io,.ref se,.ref go,.str z,.int h] H3 Q3 E0:=λZ hg k3=>
  ⟨md,p,s,t,y,io,se,_,ps,ss,ts,ys,us,XD,F,G,XX,_,z,h,rfl,ok.mono Z,qs.mono<|dw.mono<|Tk.of Z,Z _ _ YO,ti.mono<|Tk.of Z,λt ht=>hN t<|(mm t).mp ht,il,Z _ _ Yq,kl,sn,hg,k3⟩
 have en:(!fs.isEmpty)= !XQ.isEmpty:=by
  cases XQ with
  |nil=>
   rw[Rm fl];rfl
  |cons a r=>
   cases fs with
   |nil=>cases fl
   |cons b r'=>rfl
 refine AN (λQ3 k3=>⟨_,rfl,k3⟩) M λH3 Z=>?_;refine⟨_,rfl,_,rfl,_,rfl,Hi,λe ne=>⟨_,rfl,_,rfl,ab ((U.trans Z).trans<|cH.upd ne) (g:=[]) cE λH4 s4=>?_⟩⟩;have a4:=((U.trans Z).trans<|cH.upd (o:=.lst []) ne).trans s4;have ay:=(Z.trans<|cH.upd (o:=.lst []) ne).trans s4;refine⟨rfl,_,rfl,gM ?_ ?_⟩
 ·rw[an.any,en,dT0 rfl]
  decide
 refine⟨_,rfl,_,rfl,_,rfl,_,rfl,_,rfl,_,rfl,ab a4 (ay _ _ B) λH5 s5=>⟨_,rfl,gM (by rw[an.no];decide) ?_⟩⟩;have aq:=ay.trans s5;have b2:=U.trans aq;refine⟨_,rfl,nu,rfl,⟨_,cN.of<|aq _ _ B⟩,c4 (K:=X.K) (a:=nu) (xs:=nums cut) (λi σ H6=>∃e8 e9,σ=[some<|.ref md,some<|.ref x,some<|.ref io,some<|.ref se,some<|.str z,some<|.int h,some<|.ref fo,some<|.ref nu,e8,e9,none]/\cH H2 H6) ⟨none,none,rfl,aq⟩ ?_ ?_ ?_⟩
 ·rintro i σ H6 hi ⟨e8,e9,rfl,s6⟩
  exact cN.of<|s6 _ _ B
 ·rintro i v σ H6 O ⟨e8,e9,rfl,s6⟩
  unfold nums at O;rw[QY]at O;obtain⟨n,hn,rfl⟩:=RC.mp O;have I:=s6 _ _ B;have be:(nums cut).length=cut.length:=QM _;have ax:∀{j:Nat}{m:Nat},cut[j]? =some m->(nums cut)[j]? =some (.int (m:Nat)):=λh=>by
   unfold nums;rw[QY,h];rfl
  refine⟨_,rfl,nu,rfl,⟨_,cN.of I⟩,ja (λ_ v (m:Nat)=>v=V.int (m:Nat)) cut (λm=>decide<|m≠n) (λv d _ _ t h=>h) (by lia) (λj H7 A hj=>⟨_,_,cN.of<|A _ _ I,ax<|QJ hj⟩) (λH7 A=>⟨_,cN.of<|A _ _ I,SA be⟩) ?_ ?_⟩
  ·intro j os v m H7 H8 K1 K2 hm am A yy k1 k2
   obtain⟨e3,yy⟩:=yy;subst e3;have O:=yy _<|cN.of<|A _ _ I;rw[ax hm]at O;cases O;obtain⟨o1,rfl⟩:=Fl am;refine⟨⟨[_],rfl,rfl⟩,⟨_,rfl,_,rfl,rfl,_,rfl,dD (λW=>⟨_,rfl,k1 (dT0 λe=>?_) _ _ (cH.refl _) rfl⟩) λno=>k2 (QU λe=>no ?_) _<|cH.refl _⟩⟩
   ·rw[e,dT0 rfl]at W
    cases W
   ·rw[QU λq:V.int (m:Nat)=V.int (n:Nat)=>e<|Int.ofNat.inj<|V.int.inj q]
    rfl
  intro nb a1 H7 bf A Y ad;have ye:a1=nums (cut.filter λm=>decide<|m≠n):=xW ad;rw[ye]at Y;have av:=s6.trans A;refine⟨_,rfl,_,rfl,_,rfl,_,rfl,_,rfl,_,rfl,ab (U.trans av) Y λH8 R=>⟨_,rfl,gM ?_ ⟨_,_,rfl,av.trans R⟩⟩⟩;rw[an.one n<|QN hn]
  decide
 ·rintro σ H6 ⟨e8,e9,rfl,s6⟩
  refine⟨_,rfl,fo,rfl,⟨_,cN.of<|s6 _ _ M⟩,c4 (K:=X.K) (a:=fo) (xs:=fs) (λi σ H6=>∃XW,σ=[some<|.ref md,some<|.ref x,some<|.ref io,some<|.ref se,some<|.str z,some<|.int h,some<|.ref fo,some<|.ref nu,e8,e9,XW]/\cH H2 H6) ⟨none,rfl,s6⟩ ?_ ?_ ?_⟩
  ·rintro i σ H7 hi ⟨XW,rfl,A⟩
   exact cN.of<|A _ _ M
  ·rintro i v σ H7 O ⟨XW,rfl,A⟩
   obtain⟨N,as⟩:∃N,XQ[i]? =some N:=⟨_,QJ<|by rw[<-fl];exact(gI0.mp O).1⟩;obtain⟨so,xs,rfl,bm,tu⟩:=bi.2 _ _ _ O as;have ms:=QN as;have xl:=tu.1;have L:=A _ _ bm;have ar:=A _ _ B;have b0:=a3 N ms;refine⟨_,rfl,so,rfl,⟨_,cN.of L⟩,ja Ca N (λt=>decide<|t.1∈cut) (λv d _ _ tk ⟨a,e,ha⟩=>⟨a,e,tk _ _ ha⟩) (by lia) (λj H8 R hj=>⟨xs,xs[j]'(by rw[xl];exact hj),cN.of<|R _ _ L,QJ _⟩) (λH8 R=>⟨xs,cN.of<|R _ _ L,SA xl⟩) ?_ ?_⟩
   ·intro j os v d H8 H9 K1 K2 hd am R yy k1 k2
    obtain⟨e3,yy⟩:=yy;subst e3;have O:=yy xs<|cN.of<|R _ _ L;obtain⟨o1,rfl⟩:=Fl am;obtain⟨b,rfl,hb⟩:=tu.2 _ _ _ O hd;have hb:=R _ _<|A _ _ hb;refine⟨⟨[_],rfl,rfl⟩,⟨_,rfl,xT hb rfl ⟨_,rfl,nu,_,rfl,.inl<|cN.of<|R _ _ ar,rfl,nQ _,_,rfl,?_⟩⟩⟩;rw[in_nums];exact dD (λW=>⟨_,rfl,k1 W _ _ (cH.refl _) ⟨b,rfl,hb⟩⟩) λno=>k2 (RH.mpr no) _<|cH.refl _
   intro nb a1 H8 bf R Y ad;refine⟨nb,_,rfl,.inl<|cN.of Y,rfl,_,rfl,gM ?_ ⟨_,rfl,A.trans R⟩⟩;rw[ad.1,an.each N ms]
   decide
  ·rintro σ H7 ⟨XW,rfl,A⟩
   refine⟨_,rfl,fo,_,rfl,.inl<|cN.of<|A _ _ M,_,rfl,nu,_,rfl,.inl<|cN.of<|A _ _ B,rfl,?_⟩;have:=k H7<|U.trans A
   rwa [show true=decide (V.int (fs.length:Nat)=V.int ((nums cut).length:Nat)) from (dT0<|by rw[show(nums cut).length=cut.length from QM _,fl,nn]).symm]at this
inductive L0  (K:Frag)(vs:Xw V)(H:Hp)(Q:VK):Prop
 |mk(a:Xp)(ns:Xw Int)(h0:vs=[.ref a])(f:cN K H a (ns.map V.int))(e:ns.length<=63)(g:∀H',Q (.bl true) H')
def Ai  (K:Frag):Sp:=λa H Q _=>L0 K a H Q
def KY:cK ["_law_script","_law_made_here","_law_book_here","_law_seen_here","_law_in_order_here","_law_k","_law_cell","_law_person","_law_hour"] ["_law_script"] (cI pe):={}
def Kc (F:qT K "law" "law" pe f fd) (T:Txt K mg kw C) (a0:Gd P w K mg base 3 "_law_made" (Es K)) (YR:Gd P w K mg base 1 "_law_mix" rH) (a9:Gd P w K mg base 9 "_law_book" (Jq C)) (be:Gd P w K mg base 2 "_law_open" Ar) (a1:Gd P w K mg base 2 "_law_seen" zq) (a3:Gd P w K mg base 1 "_law_in_order" DH) (bf:Gd P w K mg base 9 "_law_asked" (DF C)):fg P w K mg base oE 10 f fd ["_law_script"] (Ai K):=by
 refine J.oO F KY (λvs H Q E h=>?_) λX H vs Q E g h=>?_
 ·obtain⟨a,ns,rfl,_⟩:=h
  rfl
 ·obtain⟨sc,ns,rfl,as,a2,q⟩:=h
  have Y:=dZ g.room;obtain⟨S0,I,S2,S3,S4,S5,S6,S7,S8,_⟩:=g.fc [0,1,2,3,4,5,6,7,8];have al:=g.b T.b_len;obtain rfl:=g.fK;have XO:sizeLine=16777216:=Rh;refine⟨_,(af (au I g.nd<|ak (g.c a0)<|aj<|aa S0)
 (af (au S2 g.nd<|ak (g.c a9)<|aj<|aa I)
 (af (au S3 g.nd<|ak (g.c a1)<|aj<|aa I)
 (af (au S4 g.nd<|ak (g.c a3)<|aB (aa I)<|ak (g.c be)<|aj<|aa I)
 (af (aZ g.own g.calm (b8 (g.b T.b_range)<|aj ae) (aN S5 g.nd)
 (af (au S6 g.nd<|ak (g.c YR)<|aB (aJ (g.b T.b_sum) (J.nO g.calm) Kl<|aj<|bT cw (aa S0) bX<|bV ae)<|aD bA ae<|aa S5)
 (af (au S7 g.nd<|ai aU (aK Y (aa I) ao ah) (aD aX (aD bA (aa S6)<|aa S5)<|aJ al aY dh<|aj<|aK Y (aa I) ao ah) bP)
 (af (aH (a7<|bg (aF aO (aa S5) ae<|cL _)<|bq<|aF bR (aJ al aY dh<|aj<|aK Y (aa I) ao ah) ae<|cL _)
 (ag<|au S7 g.nd<|ai aU (aK Y (aa I) ao ah) ae ah)
 aI)
 (af (au S8 g.nd<|aD J.nG ae ae)
 (af (aH (a7<|bg (aF (J.lN Y) (aK Y (aa I) ao ah) (a5 bz)<|cL _)<|bg (aF bR (aa S5) ae<|cL _)<|bq<|aF bR (aD aX (aD bJ (aa S6) ae) ae) ae<|cL _)
 (ag<|au S8 g.nd<|ai aE (ai aU (aK Y (aa I) ao ah) (aD aX (aD bJ (aa S6) ae)<|aJ al aY dh<|aj<|aK Y (aa I) ao ah) bP) ae ah)
 aI)
 (ag (aH (a7<|bS (J.sR Y (aa S7)<|aa S3)<|b5<|aF bR (aK Y (aa S3) (aa S7) aR) (aa S8)<|cL _)
 (ag (aH (bu<|bh<|ak (g.c bf)<|bK (aa I)<|b7 (aa S2) (aa S4) (aa S3) (aa S7)<|aa S8)
 (ag<|aw bj)
 aI))
 aI))))))))
 (ag<|aw bj)))))),?_⟩
  refine⟨_,rfl,sc,ns,rfl,as,a2,λA p s t y L ss W ys H1 s1 _ po p2 l=>?_⟩;refine⟨_,rfl,A,p,s,t,y,L,ss,W,ys,rfl,po,l,λx p' s' t' y' H2 s2 _ bk=>?_⟩;obtain⟨sg,gs,gk⟩:=xD l.gs;obtain⟨qd,qs,qk⟩:=JK l.gt;obtain⟨sd,sy,sk⟩:=sr l.gy;refine⟨_,rfl,A,p,s,t,y,L,ss,W,ys,sg,sd,rfl,l.mono s2,gs.mono<|dH.mono<|Tk.of s2,gk,sy.mono<|Tk.of s2,λse XD H3 s3 _ Yq sn kl=>?_⟩;have O:=s2.trans s3;refine⟨_,rfl,_,rfl,A,p,s,t,y,L,ss,W,ys,qd,sd,rfl,l.mono O,qs.mono<|dw.mono<|Tk.of O,qk,sy.mono<|Tk.of O,λol os b4 ar _ Ym to=>?_⟩;have ac:=O.trans ar;have b1:=l.lt;have b0:=qs.1;refine⟨A,p,s,t,y,ol,L,ss,W,ys,os,qd,_,rfl,l.mono ac,qs.mono<|dw.mono<|Tk.of ac,Ym,to,λt ht=>?_,?_,λio us XX H4 bn _ YO ti pw mm il=>?_⟩
  ·obtain⟨q,hq,_⟩:=pP qk (Ra.mp ht).1
   exact(gI0.mp hq).1
  ·have h1:=iY (fm qd) 0
   have h2:(fm qd).length=qd.length:=QM _;have h3:=RJ (cZ qd sd)<|fu 0<|fm qd;lia
  have s4:=ar.trans bn;have M:=O.trans s4;have bb:=s3.trans s4;have ap:=(s1.trans M).seq as;have G:=l.mono M;have bm:=bk.mono bb;have a4:=gs.mono<|dH.mono<|Tk.of M;have ax:=qs.mono<|dw.mono<|Tk.of M;have bd:=sy.mono<|Tk.of M;have aq:=s4 _ _ Yq;have pl:=po.hi;have ca:=G.ls;have cc:=G.lt;have b2:=G.ly;have b3:=ax.1;have gp:∀d∈sg,d.1∈L:=λd hd=>(gk d hd).1;have av:(L.map V.str).length=L.length:=QM _;refine⟨_,rfl,by decide,by decide,mJ (lo:=0) (n:=(5:Int).toNat) (λi σ H5=>∃e5 e6 e7 e8:Xu V,σ=[some<|.ref sc,some<|.ref A,some<|.ref x,some<|.ref se,some<|.ref io,e5,e6,e7,e8]/\cH H4 H5) ⟨none,none,none,none,rfl,cH.refl _⟩ ?_ ?_⟩
  ·rintro i σ H5 hi ⟨e5,e6,e7,e8,rfl,s5⟩
   obtain⟨vs,ev,_⟩:=CF ns (k:=63) (by decide);refine⟨_,rfl,63,rfl,sc,_,rfl,s5.seq ap,λsl bx=>?_⟩;rw[ev];refine⟨sl,vs,rfl,cN.of cE,_,rfl,_,_,rfl,rfl,_,_,rfl,by lia,by lia,λN N0 N1=>?_⟩;have s6:=s5.trans<|cH.upd (o:=.lst<|vs.map V.int) bx;generalize upd H5 sl (.lst<|vs.map V.int)=H6 at s6;have B:=G.mono s6;have pm:=cY (N+(0+(i:Int))) (m:=(((L.map V.str).length:Nat):Int)) (by rw[av];lia);obtain⟨zv,ad,am⟩:=rJ (xs:=L.map V.str) pm.1 pm.2;obtain⟨z0,_,rfl⟩:=Ru.mp am;refine⟨_,rfl,A,_,rfl,B.dp,_,rfl,_,rfl,_,_,rfl,rfl,_,rfl,A,_,rfl,B.dp,p,_,rfl,.inl<|cN.of B.hp,_,_,rfl,rfl,by rw[av];lia,xL B.hp ad ?_⟩;dsimp only[eR];refine kB (λS D=>∃z:Xx,S=[some<|.ref sc,some<|.ref A,some<|.ref x,some<|.ref se,some<|.ref io,some<|.int<|0+(i:Int),some<|.int N,some<|.str z,e8]/\cH H4 D) ?_ (decide (V.int (0+(i:Int))=V.int 0)&&decide ((2:Int)<((L.map V.str).length:Nat))) (λQ' k=>?_) (λhb D Z hR=>?_) λ_ D Z=>?_
   rotate_left
   ·exact Dd _ _ (λQ2 U=>⟨_,rfl,rfl,_,rfl,U _<|cH.refl _⟩) (λD s' Q2 U=>⟨_,rfl,A,_,rfl,(B.mono s').dp,p,_,rfl,.inl<|cN.of (B.mono s').hp,_,_,rfl,rfl,_,rfl,U⟩) k
   ·rw[R6]at hb
    have h2:=QT hb.2;have v:=B.mono Z;obtain⟨zv,ad,am⟩:=rJ (xs:=L.map V.str) (i:=2) (by decide) h2;obtain⟨z,_,rfl⟩:=Ru.mp am;exact⟨_,rfl,A,_,rfl,v.dp,xL v.hp ad<|hR _ _ ⟨z,rfl,s6.trans Z⟩⟩
   ·exact⟨z0,rfl,s6.trans Z⟩
   rintro S H7 ⟨z,rfl,s7⟩;have an:=G.mono s7;refine⟨_,_,rfl,rfl,⟨by decide,by decide,by decide⟩,?_⟩;dsimp only[eR];refine kB (λS D=>∃h:Int,S=[some<|.ref sc,some<|.ref A,some<|.ref x,some<|.ref se,some<|.ref io,some<|.int<|0+(i:Int),some<|.int N,some<|.str z,some<|.int h]/\cH H4 D) ?_ (!W.isEmpty&&(decide (0<(0+(i:Int)))&&decide (0<N / 7%4))) (λQ' k=>?_) (λhb D Z hR=>?_) λ_ D Z=>⟨_,rfl,s7.trans Z⟩
   rotate_left
   ·refine Dd _ _ (λQ2 U=>AN (λQ3 k3=>⟨_,rfl,A,_,rfl,an.dt,k3⟩) an.ht λD s'=>⟨_,rfl,U D s'⟩) (λD s' Q2 U=>?_) k
    refine⟨_,rfl,_,_,rfl,rfl,_,rfl,?_⟩;cases hk:decide (0<0+(i:Int)) with
    |false=>
     rw[hk]at U;exact dG U
    |true=>
     rw[hk]at U;exact fL ⟨_,rfl,_,_,rfl,rfl,⟨by decide,by decide⟩,_,_,rfl,rfl,by show(0:Int)<4;decide,_,_,rfl,rfl,_,rfl,U⟩
   ·rw[R6]at hb
    have t1:1<=W.length:=by
     cases W with
     |nil=>exact absurd hb.1 (by decide)
     |cons a r=>show 1<=r.length+1;lia
    have v:=an.mono Z;have hm:=cY (N / 28) (m:=(W.length:Int)) (by lia);obtain⟨vt,bi,bv⟩:=rJ (xs:=W) hm.1 hm.2;obtain⟨a,h,q1,q2,w',rfl,ha,_⟩:=v.gt vt bv;exact⟨_,rfl,A,_,rfl,v.dt,_,rfl,_,_,rfl,rfl,⟨by decide,by decide⟩,_,rfl,A,_,rfl,v.dt,t,_,rfl,.inl<|cN.of v.ht,_,_,rfl,rfl,by lia,xL v.ht bi<|xT ha rfl<|hR _ _ ⟨h,rfl,s7.trans Z⟩⟩
   rintro S H8 ⟨h,rfl,R⟩;have ab:=R _ _ aq;have dg:=dI.k (k:=Sum.inr z) ab;rw[sn.get]at dg;have ay:∀{Q':VK},(∀j,dz (sg.filter<|cS sd) z=some j->h<j)->(∀D,cH H8 D->Q' (.bl true) D)->DF C [.ref A,.ref x,.ref io,.ref se,.str z,.int h] H8 Q' E0:=λnz k'=>
    ⟨A,p,s,t,y,x,p',s',t',y',io,se,L,ss,W,ys,us,XD,sg,qd,sd,XX,z,h,rfl,G.mono R,bm.mono R,pl,a4.mono<|dH.mono<|Tk.of R,gp,ax.mono<|dw.mono<|Tk.of R,qk,bd.mono<|Tk.of R,R _ _ YO,ti.mono<|Tk.of R,pw,mm,il,ab,kl,sn,nz,k'⟩
   cases hF:dz (sg.filter<|cS sd) z with
   |none=>
    rw[hF]at dg;exact⟨_,rfl,_,rfl,se,_,rfl,dg,_,rfl,fE rfl<|fL ⟨_,rfl,_,rfl,_,rfl,_,rfl,_,rfl,_,rfl,ay (λj e=>by rw[hF]at e;cases e) λH9 s9=>⟨_,rfl,iN ⟨_,_,_,_,rfl,R.trans s9⟩⟩⟩⟩
   |some j=>
    rw[hF]at dg;refine⟨_,rfl,_,rfl,se,_,rfl,dg,_,rfl,gM bF0 ⟨_,rfl,_,rfl,se,_,rfl,dg,_,rfl,_,_,rfl,rfl,_,rfl,dD (λbc=>?_) λno=>⟨_,_,_,_,rfl,R⟩⟩⟩;refine⟨_,rfl,_,rfl,_,rfl,_,rfl,_,rfl,_,rfl,ay (λj' e=>?_) λH9 s9=>⟨_,rfl,iN ⟨_,_,_,_,rfl,R.trans s9⟩⟩⟩;rw[hF]at e;cases e;exact QT bc
  ·rintro σ H5 ⟨e5,e6,e7,e8,rfl,s5⟩
   exact q _
end K43
namespace K43
def len0(us:Xw Xo)(h:us.length=0):us=[]:=Rm h
def Ct{n:Nat}(us:Xw Xo)(h:us.length=n+1):∃a r,us=a::r/\r.length=n:=by
 cases us with
 |nil=>cases h
 |cons a r=>exact⟨a,r,rfl,SE h⟩
def wc(us:Xw Xo)(h:us.length=1):∃a,us=[a]:=by
 obtain⟨a,r,rfl,e⟩:=Ct us h;exact⟨a,by rw[len0 r e]⟩
def Lm(us:Xw Xo)(h:us.length=2):∃a b,us=[a,b]:=by
 obtain⟨a,r,rfl,e⟩:=Ct us h;obtain⟨b,rfl⟩:=wc r e;exact⟨a,b,rfl⟩
def LZ(us:Xw Xo)(h:us.length=3):∃a b c,us=[a,b,c]:=by
 obtain⟨a,r,rfl,e⟩:=Ct us h;obtain⟨b,c,rfl⟩:=Lm r e;exact⟨a,b,c,rfl⟩
def Ls(us:Xw Xo)(h:us.length=4):∃a b c d,us=[a,b,c,d]:=by
 obtain⟨a,r,rfl,e⟩:=Ct us h;obtain⟨b,c,d,rfl⟩:=LZ r e;exact⟨a,b,c,d,rfl⟩
def Hd(us:Xw Xo)(h:us.length=5):∃a b c d e,us=[a,b,c,d,e]:=by
 obtain⟨a,r,rfl,f⟩:=Ct us h;obtain⟨b,c,d,e,rfl⟩:=Ls r f;exact⟨a,b,c,d,e,rfl⟩
def Mh(us:Xw Xo)(h:us.length=6):∃a b c d e f,us=[a,b,c,d,e,f]:=by
 obtain⟨a,r,rfl,g⟩:=Ct us h;obtain⟨b,c,d,e,f,rfl⟩:=Hd r g;exact⟨a,b,c,d,e,f,rfl⟩
def FF.d{K:Frag}{h:Heap}{g:XB}{x:Xx}{st:Stmt}(F:FF K x st)(X:K.In h)(G:h.Ns mainGlobals g)(ps:Xw Xx)(o:∀(kV n pm:Xo)(an:Xu Xp)(m ct:Xo)(us:Xw Xo),us.length=ps.length->bindArgs (fnOf x x (dY st) (df st) (cI st) .none kV n pm an m ct) ⟨us,[]⟩=pure (ps.zip us):=by intro _ _ _ _ _ _ us e;first| (obtain⟨_,rfl⟩:=wc us e;rfl)| (obtain⟨_,_,rfl⟩:=Lm us e;rfl)| (obtain⟨_,_,_,rfl⟩:=LZ us e;rfl)| (obtain⟨_,_,_,_,rfl⟩:=Ls us e;rfl)| (obtain⟨_,_,_,_,_,rfl⟩:=Hd us e;rfl)| (obtain⟨_,_,_,_,_,_,rfl⟩:=Mh us e;rfl)):∃f j,Df K g x st ps f j:=by
 obtain⟨a,l,c,k⟩:=F;have i:=jZ (st:=st) l c k;exact⟨_,_,i,mg_of X G a,i.binds o⟩
def FF.u{K:Frag}{h:Heap}{g:XB}{x:Xx}{st:Stmt}{m:Prop}{ps:Xw Xx}(F:FF K x st)(X:K.In h)(G:h.Ns mainGlobals g)(k:∀f e,Df K g x st ps f e->m)(l:∀(kV j pm:Xo)(an:Xu Xp)(i ct:Xo)(us:Xw Xo),us.length=ps.length->bindArgs (fnOf x x (dY st) (df st) (cI st) .none kV j pm an i ct) ⟨us,[]⟩=pure (ps.zip us):=by intro _ _ _ _ _ _ us a;first| (obtain⟨_,rfl⟩:=wc us a;rfl)| (obtain⟨_,_,rfl⟩:=Lm us a;rfl)| (obtain⟨_,_,_,rfl⟩:=LZ us a;rfl)| (obtain⟨_,_,_,_,rfl⟩:=Ls us a;rfl)| (obtain⟨_,_,_,_,_,rfl⟩:=Hd us a;rfl)| (obtain⟨_,_,_,_,_,_,rfl⟩:=Mh us a;rfl)):m:=
 let ⟨f,e,D⟩:=F.d X G ps l
 k f e D
theorem lX:∀{zs:Xw Xx}{us:Xw Xo},strsOf us=zs.map some->Vals (zs.map V.str) us
 |[],[],_=>.nil
 |[],_::_,h=>by cases h
 |_::_,[],h=>by cases h
 |z::zs,u::us,h=>by
  have a:oneOf u::strsOf us=some z::zs.map some:=h;injection a with e1 e2
  refine .cons ?_ (lX e2);cases u with
  |str x t=>
   cases e1;exact⟨t,rfl⟩
  |_=>cases e1
def all_mk {l:PySem.W.OpenLaw}{w:Xs}{K:Frag}{h:Heap}{g:XB}{fa:Xp}(X:K.In h) (G:h.Ns mainGlobals g) (am:g "law" =some (.ref fa)) (FX:Facts K):
  ∃fd:FuncData,(∀(s:Xq) (v:Xo),BindsTo s fd ⟨[v],[]⟩ [("_law_script",v)])/\∀base:Heap,K.In base->base.Ns mainGlobals g->fg l.prog w K g base oE 10 fa fd ["_law_script"] (Ai K):=by
 obtain @⟨kw,C,f58,f59,f60,f61,f62,f63,odw,od58,an58,od59,an59,od60,an60,od61,an61,od62,an62,od63,an63,slw,sl58,sl59,sl60,sl61,sl62,sl63,oc58,kV58,dc58,pm58,cd58,ct58,oc59,kV59,dc59,pm59,cd59,ct59,oc60,kV60,dc60,pm60,cd60,ct60,oc61,kV61,dc61,pm61,cd61,ct61,oc62,kV62,dc62,pm62,cd62,ct62,oc63,kV63,dc63,pm63,cd63,ct63,XF,nW,Yr,tk2,tk3,tk4,tk5,aW,lW,vW,h1,h2,h3,h4,h5,h6,h7,h8,h9,h10,h11,h12,h13,h14,h15,h16,h17,h18,h19,h20,h21,h22,h23,h24,h25,h26,h27,h28,h29,h30,h31,h32,h33,h34,h35,h36,h37,h38,h39,h40,h41,h42,h43,h44,h45,h46,h47,h48,h49,h50,h51,h52,h53,h54,h55,h56,h57,aC,pg,hd,po,sa,mk,kc,nP,nS,nT,nY,a58,i58,l58,c58,k58,a59,i59,l59,c59,k59,a60,i60,XZ,c60,k60,a61,i61,l61,c61,YC,a62,i62,l62,c62,k62,a63,i63,l63,c63,k63,z1,z2,z3,z4,z5,z6,z7,z8,z9,z10,z11,z12,z13,z14,z15,z16,z17,z18,z19,g1,g2,g3,g4,g5⟩:=FX;have vW:=lX (zs:=kept) vW;obtain @⟨f57,oc57,kV57,dc57,pm57,cd57,ct57,od57,an57,sl57,a57,l57,c57,k57⟩:=h57;have e:=am.symm.trans<|mg_of X G a57;cases e;have XO:XF.size<=sizeLine:=by
  have e:=vW.length;have e2:(kept.map V.str).length=12:=by decide+kernel
  rw[e2,QZ]at e;have:sizeLine=16777216:=Rh;omega
 have T:Txt K g kw C:=⟨Sa X G z1,Sa X G z2,Sa X G z3,Sa X G z4,Sa X G z5,Sa X G z6,Sa X G z7,Sa X G z8,Sa X G z9,Sa X G z10,Sa X G z11,Sa X G z12,Sa X G z13,Sa X G z14,Sa X G z15,Sa X G z16,Sa X G z17,Sa X G z18,Sa X G z19,mg_of X G aW,⟨_,XF,nW,lW,rfl,rfl,XO,vW⟩,⟨_,mg_of X G g1,⟨_,rfl⟩⟩,⟨_,mg_of X G g2,⟨_,rfl⟩⟩,⟨_,mg_of X G g3,⟨_,rfl⟩⟩,⟨_,mg_of X G g4,⟨_,rfl⟩⟩,⟨_,mg_of X G g5,⟨_,rfl⟩⟩,⟨pg,hd,po,sa⟩,nP,nS,nT,nY⟩;have bc:=jZ (st:=pe) l57 c57 k57;have ac:=jZ (st:=iD) l58 c58 k58;have al:=jZ (st:=fb) l59 c59 k59;have S:=jZ (st:=fB) XZ c60 k60;have R:=jZ (st:=gx) l61 c61 YC;have ad:=jZ (st:=eX) l62 c62 k62;have ab:=jZ (st:=eE) l63 c63 k63;obtain⟨_,_,H⟩:=h1.d X G ["thing"];obtain⟨_,_,a⟩:=h2.d X G ["thing"];obtain⟨_,_,f⟩:=h3.d X G ["thing"];have N:=ac.binds (ps:=["self","persons","sights","talks","sayings"]) λ_ _ _ _ _ _ O P=>by
  obtain⟨_,_,_,_,_,rfl⟩:=Hd O P;rfl
 have M:=ac;have J:Mk K C f58:=⟨mk,a58,i58,kc⟩;have A:=al.binds (ps:=["self"]) λ_ _ _ _ _ _ O P=>by
  obtain⟨_,rfl⟩:=wc O P;rfl
 have x:=al;have n:Meth K C "persons" f59:=⟨a59,i59,k59⟩;have E:=S.binds (ps:=["self"]) λ_ _ _ _ _ _ O P=>by
  obtain⟨_,rfl⟩:=wc O P;rfl
 have B:=S;have q:Meth K C "sights" f60:=⟨a60,i60,k60⟩;have I:=R.binds (ps:=["self"]) λ_ _ _ _ _ _ O P=>by
  obtain⟨_,rfl⟩:=wc O P;rfl
 have L:=R;have F:Meth K C "talks" f61:=⟨a61,i61,YC⟩;have z:=ad.binds (ps:=["self"]) λ_ _ _ _ _ _ O P=>by
  obtain⟨_,rfl⟩:=wc O P;rfl
 have r:=ad;have j:Meth K C "sayings" f62:=⟨a62,i62,k62⟩;have o:=ab.binds (ps:=["self"]) λ_ _ _ _ _ _ O P=>by
  obtain⟨_,rfl⟩:=wc O P;rfl
 have m:=ab;have i:Meth K C "tellings" f63:=⟨a63,i63,k63⟩;have a3:=mg_of X G aC;refine⟨fnOf "law" "law" (dY pe) (df pe) (cI pe) .none kV57 dc57 pm57 an57 cd57 ct57,λs v=>.of_eq rfl,λbase _ _=>?_⟩;have G1:Gd l.prog w K g base 2 "is_hour" (mY K):=⟨_,_,_,FU a.fn H T,a.nm,a.fn.kp,a.bi⟩;have G2:Gd l.prog w K g base 1 "is_name" (qw K):=⟨_,_,_,GK f.fn T,f.nm,f.fn.kp,f.bi⟩;have G3:Gd l.prog w K g base 1 "is_list_up_to" ir:=h4.u X G λ_ _ D=>xJ D T;have G4:Gd l.prog w K g base 1 "is_tuple_of" oK:=h5.u X G λ_ _ D=>Bq D T;have G5:=h6.u X G λ_ _ D=>BR D G2;have G6:=h7.u X G λ_ _ D=>AS D G5;have G7:=h8.u X G λ_ _ D=>Ig D T G2;have G8:=h9.u X G λ_ _ D=>EO D G4 G5 G1 G7;have G9:Gd l.prog w K g base 1 "is_way" Eb:=h10.u X G λ_ _ D=>LS D T;have a9:=h11.u X G λ_ _ D=>FJ D G4 G6 G1 G9;have ar:=h12.u X G λ_ _ D=>FC D G1;have bb:=h13.u X G λ_ _ D=>Fg D G6 G5 G1;have as:=h14.u X G λ_ _ D=>BZ D T G5 ar bb;have bd:=h15.u X G λ_ _ D=>y9 D T G3 G2;have ax:=h16.u X G λ_ _ D=>qW D T G3 G8;have av:=h17.u X G λ_ _ D=>uO D T G3 a9;have aq:=h18.u X G λ_ _ D=>p0 D T G3 as;have GB:=Fs M J N a3 T bd ax av aq;have M1:Md l.prog w K g base 1 C "persons" (dB C λp _ _ _=>p):=uD x n A T;have M2:Md l.prog w K g base 1 C "sights" (dB C λ_ s _ _=>s):=wq B q E T;have M3:Md l.prog w K g base 1 C "talks" (dB C λ_ _ t _=>t):=ym L F I T;have M4:Md l.prog w K g base 1 C "sayings" (dB C λ_ _ _ y=>y):=uF r j z T;have M5:Md l.prog w K g base 1 C "tellings" (iZ C):=wJ m i o T;have a0:=h19.u X G λ_ _ D=>xu D T M4;have U:=h20.u X G λ_ _ D=>AV D T M1 a0;have Z:Gd l.prog w K g base 1 "is_above" o3:=h21.u X G λ_ _ D=>xv D;have a4:Gd l.prog w K g base 1 "is_silent" zH:=h22.u X G λ_ _ D=>vk D T;have a2:Gd l.prog w K g base 1 "is_barred" zp:=h23.u X G λ_ _ D=>ud D;have Q:=h25.u X G λ_ _ D=>nJ D T M3 M4 M5 U Z a4 a2;have Y:=h24.u X G λ_ _ D=>qp D T M2 U Z;have P1:=h34.u X G λ_ _ D=>Jy D T M3 M5;have P2:=h35.u X G λ_ _ D=>GG D T M2 Y;have P3:Gd l.prog w K g base 1 "saw_ahead_of" DP:=h36.u X G λ_ _ D=>Kv D;have P4:=h37.u X G λ_ _ D=>LX D T P1 Q;have P5:Gd l.prog w K g base 1 "leads_to" xO:=h38.u X G λ_ _ D=>CD D;have P6:Gd l.prog w K g base 1 "hour_of" GN:=h27.u X G λ_ _ D=>Oj D;have P7:=h28.u X G λ_ _ D=>Mn D P6;have P8:=h29.u X G λ_ _ D=>NH D T P6 P7;have P9:=h26.u X G λ_ _ D=>Oh D T M2 M3 Y Q;have Q1:Gd l.prog w K g base 1 "rooms_of" (KW l.prog w):=h30.u X G λ_ _ D=>N2 D;have Q2:Gd l.prog w K g base 1 "reached_from" (J1 l.prog w):=h31.u X G λ_ _ D=>MV D;have Q3:Gd l.prog w K g base 1 "take_way" (Kw l.prog w):=h32.u X G λ_ _ D=>Oi D;have Q4:=h33.u X G λ_ _ D=>JJ D Q1 Q2 Q3;have Q5:=h39.u X G λ_ _ D=>N9 D P2 P4 P3 P5;have Q6:=h40.u X G λ_ _ D=>N8 D P2 Q4 Q5;have Q7:Gd l.prog w K g base 1 "talks_behind" (Kg l.prog w):=h41.u X G λ_ _ D=>Ob D;have Q8:=h42.u X G λ_ _ D=>ML D T P8;have Q9:=h43.u X G λ_ _ D=>MW D T Q6 P9 Q7 Q8;have an:=h44.u X G λ_ _ D=>NP D T Q6 M3;have A1:Gd l.prog w K g base 1 "_law_cell_at" (xN K):=h45.u X G λ_ _ D=>FQ D T;have A2:Gd l.prog w K g base 1 "_law_mix" rH:=h46.u X G λ_ _ D=>K7 D;have A3:=h47.u X G λ_ _ D=>Cf D T A2;have A4:=h48.u X G λ_ _ D=>G0 D T A2;have A5:=h49.u X G λ_ _ D=>Ie D T A1 A2 A3 A4;have A6:=h50.u X G λ_ _ D=>Di D T GB;have A7:Gd l.prog w K g base 1 "_law_free" oT:=h51.u X G λ_ _ D=>EL D;have A8:=h52.u X G λ_ _ D=>CZ D T A7;have A9:=h53.u X G λ_ _ D=>DB D T A7;have a1:Gd l.prog w K g base 1 "_law_in_order" DH:=h54.u X G λ_ _ D=>KQ D T;have ap:Gd l.prog w K g base 1 "_law_leads" zI:=h55.u X G λ_ _ D=>KO D T;have ay:=h56.u X G λ_ _ D=>LN D T Q9 an ap;exact Kc bc T A5 A2 A6 A8 A9 a1 ay
def walk{l:PySem.W.OpenLaw}{q:Xr}{loose:Xw Xx}{XP:(XB)->Heap->Prop}{YP:Xs->Heap->Prop}{d:DefRec}{K:Params->Frag}(r:l.most=some 63)(g:d.params.defaults=[])
  (v:∀(w:Xs)(h:Heap),YP w h->(K w.params).In h)
  (F:∀(w:Xs)(e:XB)(i:Xp)(h:Heap),(K w.params).In h->h.Ns mainGlobals e->e d.name=some (.ref i)->
   ∃j:FuncData,(∀(s:Xq) (u:Xo),BindsTo s j ⟨[u],[]⟩ [("_law_script",u)])/\∀base:Heap,(K w.params).In base->base.Ns mainGlobals e->fg l.prog w (K w.params) e base oE 10 i j ["_law_script"] (Ai<|K w.params)):
  PySem.W.WalkO q loose XP YP l.row.toRowW d [] (λf vs=>PySem.call f vs):=
 HM (n:=63) (k:=10) (x:= "_law_script") (CX:=λ_=>oE) (sp:=λw=>Ai<|K w.params) r (by decide) g ⟨rfl,by decide,by decide⟩ v F (λ_ _ a p m _ o=>⟨a,p,rfl,o,m,λ_=>rfl⟩) λ_ _ _ _ _ z=>z
end K43
open PySem.W
theorem PySem.Challenge.cw_knewby_k43_whole_cut_and_lines_holds : PySem.Challenge.rw_knewby_k43_whole_cut_and_lines.Holds :=
 K43.closing λf e n m=>K43.walk (l:=PySem.Challenge.rw_knewby_k43_whole_cut_and_lines) rfl e n λw j i h g G a=>K43.all_mk g G (by rw[<-f];exact a)<|m w j i h g G a
