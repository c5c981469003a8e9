import PyProof.Rows.All
import Wide.All
import OpenK.KLine
import OpenK.KWalk
import KE.KNestM
import KE.KDictList
import KE.KDictSum
import KE.KIsAll
import Wide.FinOn
import Lean
import PyProof.EqAt
import PyProof.EqKinds
import PyProof.TupleCall
import PyProof.ListRange
import PyProof.Rows.SortStr
import KE.KRevIter
import KE.KDictOf
import PyProof.AttrMissSeq
import PyProof.Rows.SortRunsK
import PyProof.Rows.SortShellK
import PyProof.Rows.CallKwBuiltin
import KE.KxText
import OpenK.KOwn
import PyProof.RulesAs
import PyProof.RulesDel
import PyProof.DictWalks
import PyProof.DictItems
import PyProof.InstStoreFacts
import PyProof.Rows.StrMul
import PyProof.FactsAll.tuple_2
import PyProof.Rows.StrJoinRep
import KE.KSortedL
import KE.KSortedM
import KE.KSorted
import PySem.Challenge.RW_knewby_k42_lines_apart
set_option Elab.async false
set_option linter.all false
set_option maxRecDepth 100000
set_option maxHeartbeats 4000000
def RX:=@PySem.wpAny_bind
def RY:=@List.getElem?_eq_getElem
def RZ:=@PySem.wpAny_pure
def R3:=@List.length_append
def R4:=@List.mem_of_getElem?
def R5:=@List.length_map
def R6:=@PySem.Heap.get?_push_of_some
def R7:=@if_neg
def R8:=@List.append_assoc
def R9:=@Nat.le_refl
def Sb:=@if_pos
def Sd:=@List.mem_singleton
def Se:=@decide_eq_false
def Sf:=@List.getElem?_append_right
def Sg:=@List.mem_append_right
def Si:=@PyProof.Rows.wpS_pure
def Sj:=@of_decide_eq_true
def Sk:=@List.getElem?_map
def Sl:=@PySem.Heap.get?_push_size
def Sm:=@Array.length_toList
def So:=@List.getElem?_of_mem
def Sq:=@PySem.sizeLine_eq
def Sr:=@List.getElem?_append_left
def Ss:=@Nat.ne_of_lt
def Su:=@List.mem_filter
def Sv:=@PySem.Heap.lt_size
def Sw:=@decide_eq_true_iff
def Sx:=@Array.getElem?_toList
def Sy:=@Option.some.inj
def Sz:=@List.mem_append
def SA:=@Nat.lt_of_lt_of_le
def SE:=@PySem.F.slot_list_append
def SF:=@Nat.le_trans
def SG:=@PySem.F.type_list_append
def SH:=@List.append_nil
def SI:=@List.size_toArray
def SJ:=@PySem.wpAny_mono
def SK:=@List.mem_singleton_self
def SM:=@List.mem_append_left
def SO:=@List.mem_cons_self
def SQ:=@List.mem_map
def SR:=@PySem.wpAny_ite_split
def SS:=@List.mem_cons
def SU:=@List.take_add_one
def SV:=@List.map_cons
def SW:=@PyProof.Rows.wpS_bind
def SX:=@List.eq_nil_of_length_eq_zero
def SY:=@congrArg
def Ta:=@List.mem_cons_of_mem
def Tb:=@PySem.wpAny_call_entry
def Tc:=@PySem.wpAny_truthy_bool
def Td:=@Bool.eq_false_iff
def Te:=@List.length_cons
def Tf:=@PySem.wpAny_holding
def Tg:=@List.take_append_drop
def Th:=@Option.map_eq_some_iff
def Ti:=@PySem.F.plainAttrs_list
def Tj:=@List.take_length
def Tn:=@List.getD_eq_getElem?_getD
def To:=@Bool.true_and
def Tp:=@List.length_take
def Tq:=@Nat.zero_le
def Ts:=@List.length_filter_le
def Tu:=@PySem.Paired.length
def Tv:=@List.all_eq_true
def Tw:=@Bool.false_and
def Tx:=@PySem.W.mg_none_of
def Tz:=@beq_self_eq_true
def TB:=@List.foldl_cons
def TC:=@Classical.byContradiction
def TF:=@PySem.wpAny_dictEpoch
def TH:=@PySem.F.slot_dict_itemiterator_next
def TJ:=@List.take_of_length_le
def TM:=@List.length_reverse
def TN:=@PyProof.Rows.callWith_type1
def TQ:=@List.map_append
def TU:=@List.mem_range
def TV:=@List.filter_cons
def TX:=@Bool.and_false
def TY:=@Array.getElem?_eq_some_iff
def TZ:=@beq_eq_false_iff_ne
def T1:=@PySem.wpAny_newObj_type
def T2:=@PySem.wpAny_dictEntries
def T3:=@List.length_drop
def T4:=@PySem.lookup_relabel_local
def T5:=@PySem.Calls.spliced_cons
def T6:=@PySem.wpAny_Call_Name_kw
def T7:=@List.filter_append
def T8:=@PySem.mem_of_lookup
def T9:=@Int.toNat_of_nonneg
def Ua:=@Nat.succ.inj
def Ub:=@List.mem_of_mem_take
def Uc:=@PySem.wpAny_loadPart_at
def Ud:=@PySem.wpAny_callSpecial?_slot
def Ue:=@PySem.wpAny_rule
def Ug:=@PySem.F.slot_dict_keyiterator_next
def Uh:=@List.getElem?_take_of_lt
def Ui:=@Ne.symm
def Uj:=@Bool.and_eq_true
def Uk:=@PySem.Calls.callWith_builtin
def Ul:=@Array.toList_append
def Um:=@Nat.le_of_eq
def Uo:=@Array.getElem?_eq_getElem
def Up:=@Sum.inr.inj
def Uq:=@Nat.zero_add
def Ur:=@List.flatten_cons
def Us:=@PySem.Heap.get?_update_ne
def Ut:=@List.map_map
def Uu:=@List.any_cons
def Uv:=@PySem.Heap.SameBut.update
def Uw:=@PySem.wpAny_fieldsOf
def Ux:=@PySem.wpAny_typeNameOfWhole_itemiter
def Uy:=@List.getElem_inj
def Uz:=@List.nodup_cons
def UA:=@PyProof.Rows.KeyOrd.klt_of_klt_of_kle
def UB:=@List.pairwise_singleton
def UC:=@PySem.wpAny_typeNameOfWhole_keyiter
def UD:=@PySem.codeAny_mono
def UE:=@PySem.Heap.get?_update_self
def UG:=@List.sum_cons
def UH:=@PySem.wpAny_passesOwn
def UI:=@List.mem_filterMap
def UJ:=@beq_iff_eq
def UK:=@PySem.wpAny_specialOf
def UL:=@PySem.wpAny_notOrdered_dict
def UM:=@PyProof.Rows.F.plain_set_update_loop
def UN:=@List.getElem_mem
def UO:=@PySem.W.Fast.te10274390034422433532
def UP:=@PySem.W.Fast.te14289696077712309145
def UQ:=@PySem.W.Fast.te11892475500146522536
def UR:=@PySem.W.Fast.te10156331382660048174
def US:=@PySem.W.Fast.te14364793385576792824
def UT:=@PySem.Calls.evalArgs_plain
def UU:=@List.length_range
def UW:=@Option.isSome_map
def UX:=@Bool.not_eq_true'
def UY:=@PyProof.Rows.KeyOrd.kle_refl
def UZ:=@PySem.W.Fast.te4187177175401517315
def U2:=@PySem.W.Fast.te1435165496053646825
def U3:=@PySem.W.Fast.te6613529449190102663
def U4:=@PySem.W.Fast.te5923862056798008813
def U5:=@PySem.Heap.get?_update_other
def U6:=@List.Sublist.nodup
def U7:=@PySem.wpAny_typeNameOf_itemiter
def U8:=@Prod.mk.inj
def U9:=@List.findIdx?_eq_some_iff_getElem
def Va:=@List.getElem?_drop
def Vb:=@PySem.wpAny_typeNameOf_keyiter
def Vc:=@PySem.wpAny_execs_nil
def Vd:=@PySem.codeAny_builtin
def Ve:=@List.drop_zero
def Vf:=@PySem.tupleKind_room_in1
def Vg:=@List.take_zero
def Vh:=@PySem.Obj.data_mapFields
def Vi:=@List.getElem_map
def Vj:=@PySem.wpAny_setField_rec
def Vk:=@List.length_replicate
def Vl:=@List.getElem?_reverse
def Vm:=@PyProof.Rows.KeyOrd.kle_trans
def Vn:=@PySem.wpAny_field
def Vo:=@Nat.le_of_lt
def Vp:=@Nat.lt_succ_self
def Vq:=@PySem.F.slot_list_getattribute
def Vr:=@List.getElem?_set_self
def Vs:=@Bool.and_true
def Vt:=@List.filter_sublist
def Vu:=@PySem.wpAny_pyIter_list
def Vv:=@PySem.Calls.spliced_nil
def Vw:=@List.pairwise_append
def Vx:=@Array.toList_extract
def Vy:=@PySem.wpAny_setField
def Vz:=@PySem.wpAny_isOneOf_itemiter
def VA:=@Nat.lt_irrefl
def VB:=@Bool.eq_iff_iff
def VC:=@PySem.W.kia_one
def VD:=@List.nodup_nil
def VE:=@PySem.builtinLookup_eq_fast
def VF:=@PySem.Obj.isFreed_of_fields
def VG:=@eq_false_of_ne_true
def VH:=@Nat.ne_of_gt
def VI:=@PySem.wpAny_isInstance
def VJ:=@Nat.min_eq_left
def VL:=@PySem.wpAny_attempt
def VM:=@PySem.Around.under_plainId
def VN:=@PySem.F.called_set
def VO:=@PySem.Obj.data_mapDictKeys
def VP:=@Nat.le_succ
def VQ:=@List.pairwise_iff_getElem
def VR:=@List.findIdx?_eq_none_iff
def VS:=@PySem.W.mg_of
def VT:=@Nat.lt_of_succ_lt
def VU:=@Nat.sub_pos_of_lt
def VW:=@PySem.wpAny_isSubtype_exc
def VX:=@Int.le_refl
def VY:=@Nat.lt_of_le_of_lt
def VZ:=@PySem.F.attrBase_ValueError
def V0:=@Option.bind_eq_some_iff
def V1:=@Classical.axiomOfChoice
def V2:=@Nat.lt_of_not_le
def V3:=@decide_eq_false_iff_not
def V4:=@PyProof.Rows.listUpdate_at
def V5:=@List.range_succ_eq_map
def V6:=@Nat.lt_succ_of_lt
def V7:=@List.any_eq_true
def V8:=@PySem.Heap.get?_push_ne
def V9:=@PySem.F.slot_tuple_hash
def Wa:=@PySem.F.slot_dict_get
def Wb:=@List.Pairwise.sublist
def Wc:=@Bool.and_eq_false_imp
def Wd:=@Bool.and_eq_true_iff
def We:=@List.getElem?_set_ne
def Wf:=@Array.mem_toList_iff
def Wg:=@PySem.F.args_dict_get_3
def Wh:=@Nat.le_add_right
def Wi:=@List.mem_of_mem_drop
def Wj:=@List.reverse_reverse
def Wk:=@PyProof.Rows.wpS_modify
def Wl:=@PyProof.Rows.F.entry_set_update_loop
def Wm:=@PySem.F.entry_dict_get
def Wn:=@List.reverse_append
def Wo:=@List.filter_eq_self
def Wq:=@List.flatMap_append
def Wr:=@PySem.typeLookup_type
def Ws:=@PySem.F.slot_dict_itemiterator_iter
def Wt:=@Array.append_assoc
def Wu:=@Bool.not_eq_false'
def Wv:=@PyProof.Rows.wpS_get
def Ww:=@Nat.lt_of_le_of_ne
def Wx:=@Nat.pos_of_ne_zero
def Wy:=@List.find?_eq_none
def Wz:=@PySem.wpAny_isOneOf_keyiter
def WA:=@List.filterMap_cons
def WB:=@List.lookup_cons
def WC:=@PySem.F.plainAttrs_dict
def WD:=@PyProof.Rows.KeyOrd.klt_of_kle_of_klt
def WE:=@List.flatten_append
def WG:=@List.getElem_of_mem
def WH:=@Int.toNat_natCast
def WI:=@PySem.codeAny_call_builtin
def WJ:=@List.foldl_append
def WK:=@Nat.le_of_lt_succ
def WL:=@List.pairwise_map
def WM:=@List.nodup_append
def WN:=@Int.zero_add
def WO:=@Nat.min_le_right
def WQ:=@PySem.Obj.isFreed_of_dict
def WR:=@decide_eq_decide
def WS:=@List.mem_flatMap
def WT:=@PySem.plainId_quiet
def WU:=@PySem.wpAny_call
def WV:=@PySem.call_meets
def WW:=@Nat.min_le_left
def WX:=@List.length_zip
def WY:=@PySem.wpAny_tupleItemsOf
def WZ:=@Nat.succ_pos
def W0:=@List.all_cons
def W2:=@List.ext_getElem?
def W3:=@PySem.Heap.size_push
def W4:=@PySem.wpAny_Call_method
def W5:=@Array.toList_setIfInBounds
def W6:=@PySem.F.excBase_ValueError
def W7:=@PySem.wpAny_pyIter_slot
def W8:=@Prod.ext
def W9:=@PySem.F.slot_dict_getitem
def Xa:=@List.drop_eq_getElem_cons
def Xb:=@List.foldl_nil
def Xc:=@PySem.F.args_dict_itemiterator_next_1
def Xd:=@PySem.wpAny_execs_cons
def Xe:=@Option.isSome_iff_exists
def Xf:=@PySem.wpAny_Dict_empty
def Xg:=@PySem.Heap.size_update
def Xh:=@List.Pairwise.imp_of_mem
def Xi:=@PySem.F.args_dict_keyiterator_next_1
def Xj:=@PySem.F.entry_dict_itemiterator_next
def Xk:=@List.eq_of_mem_replicate
def Xl:=@List.getElem?_replicate
def Xm:=@PySem.wpAny_letGo
def Xn:=@List.getElem?_cons_succ
def Xo:=@PySem.F.entry_dict_keyiterator_next
def Xp:=@PySem.W.cellsFrom_some
def Xq:=@PySem.SeqAt.EqAt.same
def Xr:=@Nat.lt_trans
def Xs:=@PySem.Heap.DictOf.new
def Xu:=@PySem.PassesOwn.never
def Xv:=@List.drop_eq_nil_of_le
def Xw:=@Nat.eq_zero_of_not_pos
def Xx:=@Nat.sub_self
def Xy:=@Nat.min_self
def Xz:=@PySem.W.nsMap_none_of_in
def XA:=@PySem.F.slot_tuple_eq
def XB:=@PySem.F.slot_dict_setdefault
def XC:=@Int.add_zero
def XD:=@Nat.sub_zero
def XE:=@List.pairwise_lt_range
def XF:=@PySem.W.methodCall_KW
def XG:=@List.of_mem_zip
def XH:=@PySem.F.type_dict_get
def XI:=@Nat.le_of_sub_eq_zero
def XJ:=@List.filterMap_append
def XM:=@List.any_append
def XN:=@List.getElem?_eq_none
def XO:=@PySem.W.hideAll_none
def XQ:=@PySem.Calls.Name_function_global
def XR:=@PySem.Walks.list
def XS:=@PySem.wpAny_seqItems
def XT:=@List.getElem?_mapIdx
def XU:=@Array.toList_reverse
def XW:=@Nat.not_succ_le_zero
def XX:=@PySem.W.hideAll_get
def XY:=@PySem.evalArgs_none
def XZ:=@Nat.add_le_add_left
def X0:=@Nat.add_sub_cancel'
def X1:=@List.map_congr_left
def X2:=@List.length_take_le
abbrev X3:=PySem.Value
abbrev X4:=PySem.Addr
abbrev X5:=PySem.Shared
abbrev X6:=PySem.Program
abbrev X7:=PySem.World
abbrev X8:=Option
abbrev X9:=PySem.Around
abbrev Yb:=List
abbrev Yc:=PySem.Str
abbrev Yd:=X3->X5->Prop
abbrev Ye:=Unit->X5->Prop
abbrev Yg:=Yb (X4×PySem.Obj)
abbrev Yh:=Yc->X8 X3
open PySem
def bF0:¬false=true:=Bool.false_ne_true
def dT0{p:Prop}[Decidable p](h:p):decide p=true:=decide_eq_true h
def gI0{α:Type _}{l:Yb α}{i:Nat}{a:α}:l[i]?=some a↔∃h:i<l.length,l[i]=a:=List.getElem?_eq_some_iff
open Array (length_toList toList_push)
open Bool (and_eq_true false_eq_true not_eq_true')
open List (all_map any_map append_assoc drop_drop find?_cons forIn_cons length_append length_cons length_nil lookup_cons map_nil mem_cons not_mem_nil range_succ size_toArray)
open Nat (lt_min one_pos sub_le sub_lt)
open Option (getD_none map_some)
open PySem.W (Frag Looks callWith_K codeIn emptyDict findIn fnOf handedIn hasDictIn hideAll instObj isFn isNs_of_in keepIn kitOne kitx_dict kitx_list lookIn makesIn methodObj nsIn nsOkIn of_hideAll plainGet plainGet_of plainOver tailIn tail_of_in takerIn)
section
open PySem.Spec PyProof.Rows
namespace L2
def inClass(s:Stmt)(j:Nat):Stmt:=match s with
 |.ClassDef _ _ _ body _ _ _ _ _ _ _=>body.getD j<|.Pass ⟨0,0,0,0⟩
 |_=>.Pass ⟨0,0,0,0⟩
def d8(s:Stmt):Arguments:=match s with
 |.FunctionDef _ a _ _ _ _ _ _ _ _=>a
 |_=>{ posonlyargs:=[],args:=[],vararg:=none,kwonlyargs:=[],kw_defaults:=[],kwarg:=none,defaults:=[] }
def df(s:Stmt):Yb Stmt:=match s with
 |.FunctionDef _ _ b _ _ _ _ _ _ _=>b
 |_=>[]
def cK(s:Stmt):Scope:=match s with
 |.FunctionDef _ _ _ _ _ _ a _ _ _=>a
 |_=>{ kind:=.function,names:=[],isGenerator:=false,isCoroutine:=false }
end L2
namespace TR
open PySem.W
def IT(a:SharedT->Thread->X8 (SharedT×Thread))(ok:Thread->Bool):Nat->SharedT->Thread->X8 SharedT
 |0,_,_=>none
 |n+1,s,t=>match through t with
  |true=>some s
  |false=>match ok t with
   |false=>none
   |true=>match a s t with
    |some (s',t')=>IT a ok n s' t'
    |none=>none
theorem Bn{tb:String->X8 Builtin}{p:X6}{w:X7}{a:Nat}{ann:X8 X3}:∀{n:Nat}{s s':SharedT}{t:Thread},IT (stepT (denote tb) p w) (stepOk a ann) n s t=some s'->topRun tb p w a ann n s.abs t=some s'.abs
 |0,_,_,_,h=>by cases h
 |n+1,s,s',t,h=>by
  unfold IT at h;unfold topRun;cases i:through t with
  |true=>rw[i]at h;cases h;rfl
  |false=>
   rw[i]at h;cases f:stepOk a ann t with
   |false=>rw[f]at h;cases h
   |true=>
    rw[f]at h;cases e:stepT (denote tb) p w s t with
    |none=>rw[e]at h;cases h
    |some r=>
     obtain⟨g,j⟩:=r;rw[e]at h;rw[stepT_spec e];exact Bn h
def grow:Yb Obj->BT->Nat->X8 BT
 |[],t,_=>some t
 |o::r,t,n=>match ((t.ins n o).get n).isSome with
  |true=>grow r (t.ins n o)<|n+1
  |false=>none
theorem yD{life:Life}:∀{l:Yb Obj}{t t':BT}{n:Nat},grow l t n=some t'->absHeap t' (n+l.length) life=l.foldl (λh o=>h.push o) (absHeap t n life)
 |[],_,_,_,h=>by cases h;rfl
 |o::r,t,t',n,h=>by
  unfold grow at h;cases g:((t.ins n o).get n).isSome with
  |false=>rw[g]at h;cases h
  |true=>
   rw[g]at h;have a:=yD (life:=life) h;rw[absHeap_ins g]at a;rw[Te,TB,<-a]
   congr 1
   omega
theorem wG(life:Life):∀(l m:Yb Obj),l.foldl (λ(h:Heap) o=>h.push o) ⟨m.toArray,life⟩=⟨(m++l).toArray,life⟩
 |[],m=>by rw[SH];rfl
 |o::r,m=>by
  have:(⟨m.toArray,life⟩:Heap).push o=⟨(m++[o]).toArray,life⟩:=by
   show(⟨m.toArray.push o,life⟩:Heap)=_;rw[List.push_toArray]
  rw[TB,this,wG life r,R8];rfl
def Rf(s:X5)(t:BT):SharedT:=⟨t,s.heap.objs.size,s.heap.life,s.gens,s.drawn,s.toks,s.os⟩
def G0{s:X5}{t:BT}(h:grow s.heap.objs.toList .nil 0=some t):(Rf s t).abs=s:=by
 have:=yD (life:=s.heap.life) h;rw[Uq,show absHeap .nil 0 s.heap.life=⟨([]:Yb Obj).toArray,s.heap.life⟩ from rfl,wG,List.nil_append,Sm]at this;obtain⟨⟨objs,life⟩,gens,drawn,toks,a⟩:=s;show(⟨absHeap t objs.size life,gens,drawn,toks,a⟩:X5)=_;rw[this]
def rM{α:Type}(p:X6)(w:X7)(N:Nat)(look:X5->X5->α):X8 α:=(fencedOpening treeTable p w N).bind λa=>(grow a.heap.objs.toList .nil 0).bind λt=>match a.heap.isNs mainGlobals&&a.gens.size==0 with
 |true=>(IT (stepT (denote treeTable) p w) (stepOk a.heap.objs.size<|a.heap.nsMap mainGlobals "__annotations__") N (Rf a t)<|topStub p).bind λe=>some<|look a e.abs
 |false=>none
def uv{α:Type}{p:X6}{w:X7}{N:Nat}{look:X5->X5->α}{a:α}(h:rM p w N look=some a):∃s₀ e,fencedOpening treeTable p w N=some s₀/\(s₀.heap.isNs mainGlobals&&s₀.gens.size==0)=true/\topRun treeTable p w s₀.heap.objs.size (s₀.heap.nsMap mainGlobals "__annotations__") N s₀ (topStub p)=some e/\look s₀ e=a:=by
 unfold rM at h;obtain⟨s₀,f,h⟩:=V0.mp h;obtain⟨t,i,h⟩:=V0.mp h;refine⟨s₀,?_⟩;cases c:(s₀.heap.isNs mainGlobals&&s₀.gens.size==0) with
 |false=>rw[c]at h;cases h
 |true=>
  rw[c]at h;obtain⟨e,g,h⟩:=V0.mp h;have r:=Bn g;rw[G0 i]at r;exact⟨e.abs,f,rfl,r,Sy h⟩
def N4{p q:X6}{loose:Yb Yc}{Xt:X5->Bool}{α:Type}{Yf:X5->α}{Ya:X7->α}{N:Nat}
  (m:∀w,rM p w N (λs₀ a=>staticsOk (importedModules p.main.body) s₀.heap a.heap&&namesBound p a.heap&&gensDone a&&laidKept s₀.heap a.heap)=some true)
  (l:∀w,rM p w N (λ_ a=>openSeen q loose (importedModules p.main.body) Xt true a)=some (openGood q loose))
  (j:∀w,rM p w N (λ_ a=>Yf a)=some (Ya w)):LeftO p q loose Xt Yf Ya N:=λw=>by
 obtain⟨s₀,a,i,c,r,m⟩:=uv<|m w;obtain⟨f,g,e,_,h,l⟩:=uv<|l w;rw[i]at e;cases e;rw[r]at h;cases h;obtain⟨f,g,e,_,h,j⟩:=uv<|j w;rw[i]at e;cases e;rw[r]at h;cases h;unfold openEnds;rw[i];show(topFrom treeTable p w N s₀).map _=_;unfold topFrom;rw[c];dsimp only;rw[r];simp only[Option.bind_some];rw[m];show some (openSeen q loose (importedModules p.main.body) Xt true a,Yf a)=_;rw[l,j]
end TR
section
namespace K42
open L2
def top(i:Nat):Stmt:=PySem.Challenge.pw_knewby_k42_lines_apart.main.body.getD i<|.Pass ⟨0,0,0,0⟩
abbrev lX:Stmt:=top 2
abbrev gj:Stmt:=top 3
abbrev lG:Stmt:=top 4
abbrev jJ:Stmt:=top 5
abbrev jE:Stmt:=top 6
abbrev gV:Stmt:=top 7
abbrev gh:Stmt:=top 8
abbrev eR:Stmt:=top 10
abbrev gL:Stmt:=top 12
abbrev nK:Stmt:=top 13
abbrev i5:Stmt:=top 14
abbrev gr:Stmt:=top 15
abbrev lQ:Stmt:=top 26
abbrev gN:Stmt:=top 27
abbrev lJ:Stmt:=top 28
abbrev pT:Stmt:=top 29
abbrev jf:Stmt:=top 31
abbrev gH:Stmt:=top 32
abbrev gf:Stmt:=top 33
abbrev l5:Stmt:=top 34
abbrev i7:Stmt:=top 35
abbrev j9:Stmt:=top 36
abbrev gM:Stmt:=top 37
abbrev jS:Stmt:=top 38
abbrev hV:Stmt:=top 39
abbrev i9:Stmt:=top 42
abbrev m9:Stmt:=top 43
abbrev kJ:Stmt:=top 44
abbrev gq:Stmt:=top 51
abbrev iu:Stmt:=top 52
abbrev jQ:Stmt:=top 53
abbrev eD:Stmt:=top 54
abbrev oq:Stmt:=top 55
abbrev l6:Stmt:=top 56
abbrev p0:Stmt:=top 57
abbrev m6:Stmt:=top 58
abbrev oh:Stmt:=top 59
abbrev fE:Stmt:=top 60
abbrev jU:Stmt:=top 61
abbrev ip:Stmt:=top 62
abbrev iV:Stmt:=top 63
abbrev j4:Stmt:=top 64
abbrev ig:Stmt:=top 65
abbrev iO:Stmt:=inClass (top 66) 0
abbrev fB:Stmt:=inClass (top 66) 1
abbrev fL:Stmt:=inClass (top 66) 2
abbrev gF:Stmt:=inClass (top 66) 3
abbrev ft:Stmt:=inClass (top 66) 4
abbrev eL:Stmt:=inClass (top 66) 9
abbrev lT:Stmt:=top 68
abbrev jP:Stmt:=top 70
abbrev vB:Stmt:=top 71
abbrev nN:Stmt:=top 72
abbrev lF:Stmt:=top 73
abbrev pV:Stmt:=top 74
abbrev qm:Stmt:=top 75
abbrev pW:Stmt:=top 76
abbrev qe:Stmt:=top 77
abbrev p8:Stmt:=top 78
abbrev qf:Stmt:=top 79
abbrev gY:Stmt:=top 80
abbrev nM:Stmt:=top 81
abbrev uC:Stmt:=top 82
abbrev n9:Stmt:=top 83
abbrev pP:Stmt:=top 84
def oneOf:X3->X8 Yc
 |.str x _=>some x
 |_=>none
def strsOf(l:Yb X3):Yb (X8 Yc):=l.map oneOf
def KG:Yb (X8 Yc):=[some "person",some "talk",some "saw",some "knew",some "heard",some "told",some "not",some "nobody",some "never",some "by",some "from",some "to"]
inductive FF(K:Frag)(x:Yc)(st:Stmt):Prop
 |mk{f:X4}{h kV g pm cd ct:X3}{e an:X8 X4}{sl:Array (X8 X3)}(a:nsIn K mainGlobals x=some (some (.ref f)))(l:K.lookup f=some ⟨h,e,.func (fnOf x x (d8 st) (df st) (cK st) .none kV g pm an cd ct),sl⟩)(c:codeIn K cd x=true)(k:keepIn K (.ref f)=true)
def QQ:Yb X3:=[.type "ValueError",.type "Exception",.type "BaseException",.type "object"]
def ownIn(K:Frag)(C:X4)(bm:Yb X3):Bool:=match K.lookup C with
 |some ⟨.type "type",_,.cls cd,sl⟩=>(match cd.mro,sl.toList with
  |.ref C'::bm',[_,_,_,_,some<|.builtin n,_]=>C'==C&&n == "ValueError.__new__" && !cd.hasDel&&bm'==bm&&nsOkIn K cd.ns&&((["__init__","__getattribute__","__getattr__","__class__"]:Yb Yc).all λx=>nsIn K cd.ns x==some none)&&tailIn K QQ bm
  |_,_=>false)
 |_=>false
inductive Facts(K:Frag):Prop
 |mk{kw C Kn a Nb Nd Nr Ny Ns Tm i h j g e f:X4}
  {bb ar R a0 w A as a1 T aq a2 v z:X8 X4}{a9 s F W y ac S:Array (X8 X3)}{D am aj X m Y U M ai ax l ap O G av I n x E B ay Z o J N H ad al p an ab Q r L q P:X3}{Yl:Array X3}{nW:Nat}{Zc bd bc a4 a3:Tok}
  (aW:nsIn K mainGlobals "KEPT_WORDS" =some (some (.ref kw))) (lW:K.lookup kw=some ⟨.type "tuple",bb,.seq Yl nW,a9⟩) (vW:strsOf Yl.toList=KG)
 (h1:FF K "is_whole" i9) (h2:FF K "is_hour" m9) (h3:FF K "is_name" kJ) (h4:FF K "is_list_up_to" gq) (h5:FF K "is_tuple_of" iu) (h6:FF K "is_person" jQ) (h7:FF K "are_unlike_persons" eD) (h8:FF K "is_tale" oq) (h9:FF K "is_sight" l6) (da:FF K "is_way" p0) (fd:FF K "is_talk" m6) (el:FF K "is_span" oh) (bf:FF K "is_short_saying" fE) (bi:FF K "is_saying" jU) (bv:FF K "are_persons" ip) (b2:FF K "are_sights" iV) (eg:FF K "are_talks" j4) (et:FF K "are_sayings" ig) (ec:FF K "floor_of" lX) (db:FF K "floors_of_all" gj) (ep:FF K "is_above" lG) (ex:FF K "is_silent" jJ) (ev:FF K "is_barred" jE) (dk:FF K "open_sights" gV) (e3:FF K "open_tellings" gh) (d0:FF K "open_entries" gL) (bx:FF K "hour_of" nK) (em:FF K "can_follow" i5) (de:FF K "first_entries" gr) (e9:FF K "rooms_of" lQ) (fr:FF K "reached_from" gN) (en:FF K "take_way" lJ) (eo:FF K "filled" pT) (ch:FF K "hours_of_tellings" eR) (ey:FF K "seen_hours" jf) (be:FF K "saw_ahead_of" gH) (d3:FF K "hours_of_open" gf) (ct:FF K "leads_to" l5) (dr:FF K "talk_links" i7) (e5:FF K "talk_flow" j9) (dx:FF K "talks_behind" gM) (ff:FF K "line_over" jS) (ce:FF K "apart_lines" hV) (cl:FF K "talk_cut" lT) (e0:FF K "_law_cell_at" jP) (dl:FF K "_law_mix" vB) (cf:FF K "_law_names" nN) (e1:FF K "_law_saying" lF) (es:FF K "_law_made" pV) (fv:FF K "_law_book" qm) (cd:FF K "_law_free" pW) (ew:FF K "_law_open" qe) (fi:FF K "_law_seen" p8) (cm:FF K "_law_hour" qf) (dc:FF K "_law_line_good" gY) (b4:FF K "_law_whole" nM) (c1:FF K "_law_saw" uC) (d1:FF K "_law_asked" n9) (ek:FF K "law" pP)
  (aC:nsIn K mainGlobals "Book" =some (some (.ref C))) (pg:plainGet K C Str.empty=true) (hd:hasDictIn K C=true) (po:plainOver K C=true) (sa:findIn K (.ref C) "__setattr__" =some (some (.builtin "object.__setattr__"))) (mk:makesIn K C=true) (kc:keepIn K (.ref C)=true)
  (nP:findIn K (.ref C) "kept_persons" =some none) (nS:findIn K (.ref C) "kept_sights" =some none) (nT:findIn K (.ref C) "kept_talks" =some none) (nY:findIn K (.ref C) "kept_sayings" =some none)
  (x1:nsIn K mainGlobals "KnewError" =some (some (.ref Kn)))
  (x2:nsIn K mainGlobals "Saw" =some (some (.ref a)))
  (x3:nsIn K mainGlobals "NoBook" =some (some (.ref Nb)))
  (x4:nsIn K mainGlobals "NoDeed" =some (some (.ref Nd)))
  (x5:nsIn K mainGlobals "NoRow" =some (some (.ref Nr)))
  (x6:nsIn K mainGlobals "NoSaying" =some (some (.ref Ny)))
  (x7:nsIn K mainGlobals "NoStory" =some (some (.ref Ns)))
  (x8:nsIn K mainGlobals "TooMuch" =some (some (.ref Tm)))
  (x9:nsIn K mainGlobals "ValueError" =some none)
  (d2:ownIn K a (.ref Kn::QQ)=true)
  (ez:ownIn K Kn QQ=true)
  (dd:kitOne K (.ref a) (.ref a)=some true)
  (er:kitOne K (.ref a) (.ref Kn)=some true)
  (fw:kitOne K (.ref a) (.type "ValueError")=some true)
  (ed:kitOne K (.ref a) (.ref Nb)=some false)
  (d5:kitOne K (.ref a) (.ref Nd)=some false)
  (cp:kitOne K (.ref a) (.ref Nr)=some false)
  (dm:kitOne K (.ref a) (.ref Ny)=some false)
  (c0:kitOne K (.ref a) (.ref Ns)=some false)
  (c7:kitOne K (.ref a) (.ref Tm)=some false)
  (dg:findIn K (.ref C) "__init__" =some (some (.ref i))) (fo:isFn K (.ref i)=true) (YB:K.lookup i=some ⟨D,ar,.func (fnOf "__init__" "Book.__init__" (d8 iO) (df iO) (cK iO) .none am aj X R m Y),s⟩) (cr:codeIn K m "Book.__init__" =true) (b0:keepIn K (.ref i)=true)
  (e2:findIn K (.ref C) "persons" =some (some (.ref h))) (fn:isFn K (.ref h)=true) (eu:K.lookup h=some ⟨U,a0,.func (fnOf "persons" "Book.persons" (d8 fB) (df fB) (cK fB) .none M ai ax w l ap),F⟩) (fa:codeIn K l "Book.persons" =true) (Zm:keepIn K (.ref h)=true)
  (co:findIn K (.ref C) "sights" =some (some (.ref j))) (e4:isFn K (.ref j)=true) (e7:K.lookup j=some ⟨O,A,.func (fnOf "sights" "Book.sights" (d8 fL) (df fL) (cK fL) .none G av I as n x),W⟩) (eh:codeIn K n "Book.sights" =true) (ea:keepIn K (.ref j)=true)
  (ej:findIn K (.ref C) "talks" =some (some (.ref g))) (cx:isFn K (.ref g)=true) (fp:K.lookup g=some ⟨E,a1,.func (fnOf "talks" "Book.talks" (d8 gF) (df gF) (cK gF) .none B ay Z T o J),y⟩) (eb:codeIn K o "Book.talks" =true) (b3:keepIn K (.ref g)=true)
  (cg:findIn K (.ref C) "sayings" =some (some (.ref e))) (c5:isFn K (.ref e)=true) (e8:K.lookup e=some ⟨N,aq,.func (fnOf "sayings" "Book.sayings" (d8 ft) (df ft) (cK ft) .none H ad al a2 p an),ac⟩) (eq:codeIn K p "Book.sayings" =true) (ca:keepIn K (.ref e)=true)
  (cs:findIn K (.ref C) "tellings" =some (some (.ref f))) (e6:isFn K (.ref f)=true) (ef:K.lookup f=some ⟨ab,v,.func (fnOf "tellings" "Book.tellings" (d8 eL) (df eL) (cK eL) .none Q r L z q P),S⟩) (b1:codeIn K q "Book.tellings" =true) (bm:keepIn K (.ref f)=true)
  (z1:nsIn K mainGlobals "isinstance" =some none) (z2:nsIn K mainGlobals "int" =some none) (z3:nsIn K mainGlobals "bool" =some none) (z4:nsIn K mainGlobals "str" =some none) (z5:nsIn K mainGlobals "len" =some none) (z6:nsIn K mainGlobals "all" =some none) (z7:nsIn K mainGlobals "range" =some none) (z8:nsIn K mainGlobals "list" =some none) (z9:nsIn K mainGlobals "tuple" =some none) (bj:nsIn K mainGlobals "set" =some none) (fx:nsIn K mainGlobals "zip" =some none) (fj:nsIn K mainGlobals "enumerate" =some none) (bn:nsIn K mainGlobals "min" =some none) (dn:nsIn K mainGlobals "max" =some none) (ei:nsIn K mainGlobals "any" =some none) (ck:nsIn K mainGlobals "sorted" =some none) (c2:nsIn K mainGlobals "dict" =some none) (c3:nsIn K mainGlobals "sum" =some none) (cc:nsIn K mainGlobals "reversed" =some none)
  (g1:nsIn K mainGlobals "MOST_PERSONS" =some (some (.int 24 Zc))) (g2:nsIn K mainGlobals "MOST_SIGHTS" =some (some (.int 24 bd))) (g3:nsIn K mainGlobals "MOST_TALKS" =some (some (.int 120 bc))) (g4:nsIn K mainGlobals "MOST_SAYINGS" =some (some (.int 60 a4))) (g5:nsIn K mainGlobals "MOST_WORDS" =some (some (.int 6 a3))):Facts K
open PySem.W in
def vw:X6:=view PySem.Challenge.rw_knewby_k42_lines_apart.row.toRowW.prog [0,2,3,4,5,6,7,8,10,12,13,14,15,17,18,19,20,21,22,23,24,26,27,28,29,31,32,33,34,35,36,37,38,39,41,42,43,44,46,47,48,49,50,51,52,53,54,55,56,57,58,59,60,61,62,63,64,65,66,68,70,71,72,73,74,75,76,77,78,79,80,81,82,83,84]
end K42
open PySem.W
def PySem.W.Fast.tw3339072660213593789:PySem.Program:=PySem.Challenge.pw_knewby_k42_lines_apart
def PySem.W.Fast.te3339072660213593789:PySem.Challenge.pw_knewby_k42_lines_apart=PySem.W.Fast.tw3339072660213593789:=rfl
set_option maxRecDepth 100000 in
def K42.zQ(w:X7):TR.rM (OpenRow.toRowW PySem.Challenge.rw_knewby_k42_lines_apart.row).prog w 20000 (λs₀ a=>staticsOk (importedModules (OpenRow.toRowW PySem.Challenge.rw_knewby_k42_lines_apart.row).prog.main.body) s₀.heap a.heap&&namesBound (OpenRow.toRowW PySem.Challenge.rw_knewby_k42_lines_apart.row).prog a.heap&&gensDone a&&laidKept s₀.heap a.heap)=some true:=by
 delta TR.rM PySem.W.fencedOpening;(try rw[UO]);(try rw[UZ]);(try rw[U2]);(try rw[UP]);(try rw[UQ]);(try rw[UR]);(try rw[U3]);(try rw[US]);(try rw[U4]);kernel_rfl
set_option maxRecDepth 100000 in
def K42.zu(w:X7):TR.rM (OpenRow.toRowW PySem.Challenge.rw_knewby_k42_lines_apart.row).prog w 20000 (λ_ a=>openSeen K42.vw [] (importedModules (OpenRow.toRowW PySem.Challenge.rw_knewby_k42_lines_apart.row).prog.main.body) (λs=>xlAt K42.vw [] s&&recOk (RowW.records<|OpenRow.toRowW PySem.Challenge.rw_knewby_k42_lines_apart.row) s) true a)=some (openGood K42.vw []):=by
 delta TR.rM PySem.W.fencedOpening;(try rw[UO]);(try rw[UZ]);(try rw[U2]);(try rw[UP]);(try rw[UQ]);(try rw[UR]);(try rw[U3]);(try rw[US]);(try rw[U4]);kernel_rfl
local macro_rules
 | `(tactic|o_head $H)=> `(tactic| (
  refine holds_open (N:=20000) (q:=K42.vw) (loose:=[])
   (Xt:=λs=>xlAt K42.vw [] s&&recOk (RowW.records (OpenRow.toRowW PySem.Challenge.rw_knewby_k42_lines_apart.row)) s)
   (XP:=XL K42.vw []) (YP:=Hook.says $H) (Ya:=Hook.val $H) (Yf:=Hook.obs $H)
   ?hl (Hook.of $H) (Hook.keeps $H)
   (λs e=>xl_of s (Wd.mp e).1) XL.keeps
   (by rfl) (by rfl) (by rfl)
   (λs e=>recFacts_of (Wd.mp e).2)
   (by rfl) (by first|assumption|decide+kernel) (by decide+kernel)
   ⟨rfl,rfl,rfl,rfl,rfl,by decide+kernel⟩ ?hw ?hc
  (case hl=>(refine TR.N4 K42.zQ K42.zu λw=>?_;delta TR.rM PySem.W.fencedOpening;(try rw[UO]);(try rw[UZ]);(try rw[U2]);(try rw[UP]);(try rw[UQ]);(try rw[UR]);(try rw[U3]);(try rw[US]);(try rw[U4]);kernel_rfl))))
set_option maxRecDepth 100000 in
set_option maxHeartbeats 0 in
def K42.closing (HW:∀{q:X6}{loose:Yb Yc}{XP:(Yh)->Heap->Prop}{YP:X7->Heap->Prop}{d:DefRec}{K:Params->Frag},d.name= "law" ->d.params.defaults=[]->(∀(w:X7) (h:Heap),YP w h->(K w.params).In h)->
  (∀(w:X7)(mg:Yh)(fa:X4)(h:Heap),(K w.params).In h->h.Ns mainGlobals mg->mg d.name=some (.ref fa)->K42.Facts (K w.params))->PySem.W.WalkO q loose XP YP PySem.Challenge.rw_knewby_k42_lines_apart.row.toRowW d [] λf vs=>PySem.call f vs):PySem.Challenge.rw_knewby_k42_lines_apart.Holds:=by
 w_on;o_law;k_head;(case hw=>w_witness2)
 k_fill
 refine HW rfl rfl (λw h Y=>PySem.W.kIn_of Y) ?F
 case F=>
  intro w mg fa h KX G hmg;refine' K42.Facts.mk ?aW ?lW ?vW ?h1 ?h2 ?h3 ?h4 ?h5 ?h6 ?h7 ?h8 ?h9 ?h10 ?h11 ?h12 ?h13 ?h14 ?h15 ?h16 ?h17 ?h18 ?h19 ?h20 ?h21 ?h22 ?h23 ?h24 ?h25 ?h26 ?h27 ?h28 ?h29 ?h30 ?h31 ?h32 ?h33 ?h34 ?h35 ?h36 ?h37 ?h38 ?h39 ?h40 ?h41 ?h42 ?h43 ?h44 ?h45 ?h46 ?h47 ?h48 ?h49 ?h50 ?h51 ?h52 ?h53 ?h54 ?h55 ?h56 ?h57 ?h58 ?h59 ?aC ?pg ?hd ?po ?sa ?mk ?kc ?nP ?nS ?nT ?nY ?x1 ?x2 ?x3 ?x4 ?x5 ?x6 ?x7 ?x8 ?x9 ?x10 ?x11 ?x12 ?x13 ?x14 ?x15 ?x16 ?x17 ?x18 ?x19 ?x20 ?a60 ?i60 ?YB ?c60 ?k60 ?a61 ?i61 ?l61 ?c61 ?Zm ?a62 ?i62 ?l62 ?c62 ?k62 ?a63 ?i63 ?l63 ?c63 ?k63 ?a64 ?i64 ?l64 ?c64 ?k64 ?a65 ?i65 ?l65 ?c65 ?k65 ?z1 ?z2 ?z3 ?z4 ?z5 ?z6 ?z7 ?z8 ?z9 ?z10 ?z11 ?z12 ?z13 ?z14 ?z15 ?z16 ?z17 ?z18 ?z19 ?g1 ?g2 ?g3 ?g4 ?g5
  (case aW=>k_is)
  (case lW=>k_is)
  (case aC=>k_is)
  (case pg=>k_is)
  (case hd=>k_is)
  (case po=>k_is)
  (case sa=>k_is)
  (case mk=>k_is)
  (case kc=>k_is)
  (case nP=>k_is)
  (case nS=>k_is)
  (case nT=>k_is)
  (case nY=>k_is)
  (case x1=>k_is)
  (case x2=>k_is)
  (case x3=>k_is)
  (case x4=>k_is)
  (case x5=>k_is)
  (case x6=>k_is)
  (case x7=>k_is)
  (case x8=>k_is)
  (case x9=>k_is)
  (case x10=>kernel_rfl)
  (case x11=>kernel_rfl)
  (case x12=>kernel_rfl)
  (case x13=>kernel_rfl)
  (case x14=>kernel_rfl)
  (case x15=>kernel_rfl)
  (case x16=>kernel_rfl)
  (case x17=>kernel_rfl)
  (case x18=>kernel_rfl)
  (case x19=>kernel_rfl)
  (case x20=>kernel_rfl)
  (case a60=>k_is)
  (case i60=>k_is)
  (case YB=>k_is)
  (case c60=>k_is)
  (case k60=>k_is)
  (case a61=>k_is)
  (case i61=>k_is)
  (case l61=>k_is)
  (case c61=>k_is)
  (case Zm=>k_is)
  (case a62=>k_is)
  (case i62=>k_is)
  (case l62=>k_is)
  (case c62=>k_is)
  (case k62=>k_is)
  (case a63=>k_is)
  (case i63=>k_is)
  (case l63=>k_is)
  (case c63=>k_is)
  (case k63=>k_is)
  (case a64=>k_is)
  (case i64=>k_is)
  (case l64=>k_is)
  (case c64=>k_is)
  (case k64=>k_is)
  (case a65=>k_is)
  (case i65=>k_is)
  (case l65=>k_is)
  (case c65=>k_is)
  (case k65=>k_is)
  (case z1=>k_is)
  (case z2=>k_is)
  (case z3=>k_is)
  (case z4=>k_is)
  (case z5=>k_is)
  (case z6=>k_is)
  (case z7=>k_is)
  (case z8=>k_is)
  (case z9=>k_is)
  (case z10=>k_is)
  (case z11=>k_is)
  (case z12=>k_is)
  (case z13=>k_is)
  (case z14=>k_is)
  (case z15=>k_is)
  (case z16=>k_is)
  (case z17=>k_is)
  (case z18=>k_is)
  (case z19=>k_is)
  (case g1=>k_is)
  (case g2=>k_is)
  (case g3=>k_is)
  (case g4=>k_is)
  (case g5=>k_is)
  (case vW=>rfl)
  all_goals (apply K42.FF.mk<;>k_is)
end
namespace L2
abbrev Key:=Sum Int Yc
def oP:Key->X3->Bool
 |.inl k,v=>Value.isInt k v
 |.inr x,v=>Value.isStrOf x v
def QZ(w:X7):Key->Int
 |.inl k=>hashInt k
 |.inr x=>hashStr w x
def dG:∀{k:Key}{v:X3},oP k v=true->(∃i t,k=Sum.inl i/\v=Value.int i t)\/(∃x t,k=Sum.inr x/\v=Value.str x t)
 |.inl i,v,h=>by
  obtain⟨t,e⟩:=Value.isInt_shape h;exact .inl ⟨i,t,rfl,e⟩
 |.inr x,v,h=>by
  obtain⟨t,e⟩:=Value.isStrOf_shape h;exact .inr ⟨x,t,rfl,e⟩
def sQ(i:Int)(t:Tok):oP (.inl i) (.int i t)=true:=by simp[oP,Value.isInt]
def tS(x:Yc)(t:Tok):oP (.inr x) (.str x t)=true:=by simp[oP,Value.isStrOf]
def MA(a b:Int):decide ((Sum.inl a:Key)=Sum.inl b)=(a==b):=by grind
def MI(a b:Yc):decide ((Sum.inr a:Key)=Sum.inr b)=decide (a=b):=by grind
def Lh(a:Int)(b:Yc):decide ((Sum.inl a:Key)=Sum.inr b)=false:=Se λq=>nomatch q
def Ln(a:Yc)(b:Int):decide ((Sum.inr a:Key)=Sum.inl b)=false:=Se λq=>nomatch q
def cO(prog:X6)(w:X7):PySem.KeyKind prog w Key where
 is:=oP
 hash:=QZ w
 inj:=λv a b l g=>by
  obtain ⟨i,t,rfl,rfl⟩|⟨x,t,rfl,rfl⟩:=dG l
  ·obtain ⟨j,u,rfl,e⟩|⟨y,u,rfl,e⟩:=dG g
   ·injection e with e1 _;rw[e1]
   ·exact nomatch e
  ·obtain ⟨j,u,rfl,e⟩|⟨y,u,rfl,e⟩:=dG g
   ·exact nomatch e
   ·injection e with e1 _;rw[e1]
 byValue:=λk v h=>by
  rcases dG h with ⟨i,t,rfl,rfl⟩|⟨x,t,rfl,rfl⟩<;>rfl
 pyHash:=λf h=>by
  obtain ⟨i,t,rfl,rfl⟩|⟨x,t,rfl,rfl⟩:=dG f
  ·exact wpAny_pyHash_int h
  ·exact wpAny_pyHash_str h
 eqBool:=λm f h=>by
  obtain ⟨i,t,rfl,rfl⟩|⟨x,t,rfl,rfl⟩:=dG m
  ·obtain ⟨j,u,rfl,rfl⟩|⟨y,u,rfl,rfl⟩:=dG f
   ·rw[MA]at h;exact wpAny_eqBool_int h
   ·rw[Lh]at h;exact SeqAt.EqAt.int_str i t y u _ _ _ _ h
  ·obtain ⟨j,u,rfl,rfl⟩|⟨y,u,rfl,rfl⟩:=dG f
   ·rw[Ln]at h;exact SeqAt.EqAt.str_int x t j u _ _ _ _ h
   ·rw[MI]at h;exact wpAny_eqBool_str h
 «strs» :=λk x t v h=>by
  obtain ⟨i,u,rfl,e⟩|⟨y,u,rfl,e⟩:=dG h
  ·exact nomatch e
  ·injection e with e1 _
   subst e1;cases v<;>rfl
def wq(prog:X6)(w:X7)(i:Int)(t:Tok):(cO prog w).is (.inl i) (.int i t)=true:=sQ i t
def oH(prog:X6)(w:X7)(x:Yc)(t:Tok):(cO prog w).is (.inr x) (.str x t)=true:=tS x t
inductive V where
 |non|bl (b:Bool)|int (i:Int)|str (x:Yc)|byt (b:Array UInt8)|flt (b:UInt64)|ref (a:X4)|ty (n:String)
 deriving DecidableEq
def RelV:V->X3->Prop
 |.non,u=>u=Value.none
 |.bl b,u=>u=Value.bool b
 |.int i,u=>∃t,u=Value.int i t
 |.str x,u=>∃t,u=Value.str x t
 |.byt b,u=>∃t,u=Value.bytes b t
 |.flt b,u=>∃t,u=Value.float b t
 |.ref a,u=>u=Value.ref a
 |.ty n,u=>u=Value.type n
abbrev Vals:Yb V->Yb X3->Prop:=Paired RelV
def Vals.length(r:Vals xs us):xs.length=us.length:=Tu r
theorem Vals.get:∀{xs:Yb V}{us:Yb X3}{i:Nat}{x:V},Vals xs us->xs[i]? =some x->∃u,us[i]? =some u/\RelV x u
 |_,_,_,_,.nil,e=>by simp at e
 |_,_,0,_,.cons r _,e=>by simp at e;subst e;exact⟨_,rfl,r⟩
 |_,_,i+1,x,.cons _ t,e=>by
  obtain⟨u,a,f⟩:=Vals.get t (by simpa using e);exact⟨u,by simpa using a,f⟩
theorem Vals.append:∀{xs ys:Yb V}{us ws:Yb X3},Vals xs us->Vals ys ws->Vals (xs++ys) (us++ws)
 |_,_,_,_,.nil,s=>s
 |_,_,_,_,.cons r t,s=>.cons r<|Vals.append t s
theorem Vals.take:∀{xs:Yb V}{us:Yb X3}(n:Nat),Vals xs us->Vals (xs.take n) (us.take n)
 |_,_,0,_=>.nil
 |_,_,_+1,.nil=>.nil
 |_,_,n+1,.cons r t=>.cons r<|Vals.take n t
theorem Vals.drop:∀{xs:Yb V}{us:Yb X3}(n:Nat),Vals xs us->Vals (xs.drop n) (us.drop n)
 |_,_,0,r=>r
 |_,_,_+1,.nil=>.nil
 |_,_,n+1,.cons _ t=>Vals.drop n t
def jA:X8 V->X8 X3->Prop
 |some v,some u=>RelV v u
 |none,none=>True
 |_,_=>False
def KV{κ:Type}:Yb (κ×V)->Yb (κ×X3)->Prop:=Paired λ(p:κ×V) (q:κ×X3)=>p.1=q.1/\RelV p.2 q.2
def kV:Key->V
 |.inl i=>.int i
 |.inr x=>.str x
inductive HO where
 |lst (xs:Yb V)
 |tup (xs:Yb V)
 |dK (Yj:Yb (Key×V))|dT (Yj:Yb (Yb Key×V))
 |set (S:Int->Bool)(n:Nat)
 |ins (C a:X4)(fs:Yb (Yc×V))
 |own (x:X4)
 |xd (fs:Yb (Yc×V))
 |met (f x:X4)
 |rng (lo e:Int)
 |frz (o:Obj)(u:HO)
 |tbl (ps:Array X3)
 |ext (φ:Heap->Prop)
abbrev Hp:=X4->X8 HO
def upd(H:Hp)(a:X4)(o:HO):Hp:=λb=>if b=a then some o else H b
def cG:upd H a o a=some o:=by unfold upd;rw[Sb rfl]
def cI(h:b≠a):upd H a o b=H b:=by unfold upd;rw[R7 h]
def Av:upd (upd H a o) a u=upd H a u:=by
 funext b;unfold upd;split<;>rfl
def p7{H:Hp}(h:H a=some o)(h':H b=some u)(d:o≠u):a≠b:=by grind
def cH{H:Hp}(h:H a=some o)(h':H b=none):a≠b:=by grind
section
variable (P:X6)(w:X7)
def cV(H:Hp)(h:Heap)(a:X4):HO->Prop
 |.lst e=>e.length<=sizeLine/\∃(j:Yb X3) (n:Nat),Vals e j/\h.get? a=some { cls:=.type "list",data:=.seq j.toArray n }
 |.tup e=>e.length<=sizeLine/\∃j:Yb X3,Vals e j/\IsTup h a j.toArray
 |.dK i=>i.length<=sizeLine/\(a==sysModules)=false/\∃r,KV i r/\h.DictOf (cO P w) a r
 |.dT i=>i.length<=sizeLine/\(a==sysModules)=false/\∃e:Yb (Yb Key×X4×X3),
   Paired (λ(p:Yb Key×V) (q:Yb Key×X4×X3)=>p.1=q.1/\H q.2.1=some (.tup<|p.1.map kV)/\RelV p.2 q.2.2) i e/\
   ∃o y B,h.get? a=some o/\o.ExactDict/\o.data=.dict y B/\y.toList=e.map (entryOfKey<|tupleKind<|cO P w)/\(e.map (·.1)).Nodup
 |.set S n=>h.SetOf (intKind P w) a S n
 |.ins C l fs=>H l=some (.own a)/\fs.length<=1000/\l≠a/\h.get? a=some (instObj C l)/\
   ∃g,h.Ns1 l g/\(∀f,jA (fs.lookup f)<|g f)/\PySem.Within g (fs.map (·.1))
 |.own _=>∃o,h.get? a=some o
 |.xd fs=>∃g,h.Ns1 a g/\∀f,jA (fs.lookup f)<|g f
 |.rng D A=>∃t u v,h.get? a=some { cls:=.type "range",data:=.fields #[.int D t,.int A u,.int 1 v] }
 |.frz o u=>h.get? a=some o/\cV H h a u
 |.tbl z=>h.get? a=some { cls:=.none,data:=.fields z }
 |.met f x=>h.get? a=some (methodObj (.ref f)<|.ref x)
 |.ext φ=>φ h/\(∃o,h.get? a=some o)/\∀s m:Heap,φ s->(∀o,s.get? a=some o->m.get? a=some o)->φ m
def fM(H:Hp)(h:Heap):Prop:=∀a o,H a=some o->cV P w H h a o
end
def cV.lt(x:cV P w H h a o):a<h.objs.size:=by
 cases o with
 |lst g=>obtain⟨_,_,_,_,e⟩:=x;exact Sv e
 |tup g=>obtain⟨_,_,_,p⟩:=x;exact p.lt
 |dK i=>obtain⟨_,_,_,_,o,_,_,e,_⟩:=x;exact Sv e
 |dT i=>obtain⟨_,_,_,_,o,_,_,e,_⟩:=x;exact Sv e
 |set S n=>obtain⟨o,_,_,_,e,_⟩:=x;exact Sv e
 |ins C m fs=>obtain⟨_,_,_,e,_⟩:=x;exact Sv e
 |own y=>obtain⟨_,e⟩:=x;exact Sv e
 |xd fs=>obtain⟨_,⟨_,_,_,e,_⟩,_⟩:=x;exact Sv e
 |rng q r=>obtain⟨_,_,_,e⟩:=x;exact Sv e
 |frz l u=>obtain⟨e,_⟩:=x;exact Sv e
 |tbl j=>exact Sv<|show h.get? a=some _ from x
 |met f y=>exact Sv<|show h.get? a=some _ from x
 |ext φ=>obtain⟨_,⟨_,e⟩,_⟩:=x;exact Sv e
theorem Paired.Eb{α β:Type}{F G:α->β->Prop}:∀{g:Yb α}{e:Yb β},Paired F g e->(∀a b,F a b->G a b)->Paired G g e
 |_,_,.nil,_=>.nil
 |_,_,.cons r t,f=>.cons (f _ _ r)<|Paired.Eb t f
def cV.gD(x:cV P w H h a o)(k:∀b u,(b=a\/H b=some (.own a))->h.get? b=some u->h'.get? b=some u)
  (I:∀b,H b=some (.own a)->H' b=some (.own a))(D:∀b xs,H b=some (.tup xs)->H' b=some (.tup xs)):cV P w H' h' a o:=by
 induction o with
 |lst xs=>obtain⟨z,m,n,r,e⟩:=x;exact⟨z,m,n,r,k _ _ (.inl rfl) e⟩
 |tup xs=>obtain⟨z,m,r,g,e,c⟩:=x;exact⟨z,m,r,g,k _ _ (.inl rfl) e,c⟩
 |dK J=>obtain⟨z,y,E,r,g,i,j,e,c⟩:=x;exact⟨z,y,E,r,g,i,j,k _ _ (.inl rfl) e,c⟩
 |dT J=>
  obtain⟨z,y,xs,r,g,i,j,e,c⟩:=x;exact⟨z,y,xs,Paired.Eb r λp q z=>⟨z.1,D _ _ z.2.1,z.2.2⟩,g,i,j,k _ _ (.inl rfl) e,c⟩
 |set S n=>obtain⟨g,i,j,t,e,c⟩:=x;exact⟨g,i,j,t,k _ _ (.inl rfl) e,c⟩
 |ins C M fs=>
  obtain⟨d,z,F,e,l,⟨s,i,j,G,c⟩,r⟩:=x;exact⟨I _ d,z,F,k _ _ (.inl rfl) e,l,⟨s,i,j,k _ _ (.inr d) G,c⟩,r⟩
 |own y=>obtain⟨g,e⟩:=x;exact⟨g,k _ _ (.inl rfl) e⟩
 |xd fs=>obtain⟨l,⟨s,i,j,e,c⟩,r⟩:=x;exact⟨l,⟨s,i,j,k _ _ (.inl rfl) e,c⟩,r⟩
 |rng N L=>obtain⟨t,u,v,e⟩:=x;exact⟨t,u,v,k _ _ (.inl rfl) e⟩
 |frz g u K=>obtain⟨e,q⟩:=x;exact⟨k _ _ (.inl rfl) e,K q⟩
 |tbl A=>
  have e:h.get? a=some { cls:=.none,data:=.fields A }:=x;show h'.get? a=some { cls:=.none,data:=.fields A };exact k a _ (.inl rfl) e
 |met f y=>
  have e:h.get? a=some (methodObj (.ref f)<|.ref y):=x;show h'.get? a=some (methodObj (.ref f)<|.ref y);exact k a _ (.inl rfl) e
 |ext φ=>obtain⟨p,⟨o,e⟩,B⟩:=x;exact⟨B _ _ p λo q=>k _ _ (.inl rfl) q,⟨o,k _ _ (.inl rfl) e⟩,B⟩
def fM.lt(x:fM P w H h)(e:H a=some o):a<h.objs.size:=(x a o e).lt
def fM.fresh(x:fM P w H h)(e:h.objs.size<=a):H a=none:=by
 cases q:H a with
 |none=>rfl
 |some u=>exact absurd (SA (x.lt q) e)<|VA _
def fM.kept(x:fM P w H h)(k:∀b u,h.get? b=some u->h'.get? b=some u):fM P w H h':=λa o e=>
 (x a o e).gD (λb u _ q=>k b u q) (λ_ q=>q) λ_ _ q=>q
def fM.laid(x:fM P w H h)(k:∀b u,h.get? b=some u->h'.get? b=some u)(i:h.objs.size<=a)(new:cV P w (upd H a o) h' a o):fM P w (upd H a o) h':=λb u e=>by
 have g:=x.fresh i;by_cases f:b=a
 ·subst f;rw[cG]at e;cases e;exact new
 ·rw[cI f]at e
  exact(x b u e).gD (λc v _ q=>k c v q) (λc q=>by rw[cI<|cH q g];exact q) λc j q=>by rw[cI<|cH q g];exact q
def Rd(H:Hp)(a:X4)(u:HO):Prop:=H a=some u\/∃o,H a=some (.frz o u)
def Rd.ok(r:Rd H a u)(x:fM P w H h):cV P w H h a u:=by
 obtain r|⟨o,r⟩:=r
 ·exact x a u r
 ·obtain⟨_,q⟩:=x a _ r
  exact q
def N5:X8 HO->Prop
 |some (.lst _)=>True
 |some (.dK _)=>True
 |some (.dT _)=>True
 |some (.set _ _)=>True
 |some (.ins _ _ _)=>True
 |some (.ext _)=>True
 |_=>False
def fM.write(ok:fM P w H h)(i:N5 (H x))(he:e=x\/H e=some (.own x))(k:∀b u,b≠e->h.get? b=some u->h'.get? b=some u)(l:∃u,h'.get? e=some u)
  (new:cV P w (upd H x o') h' x o'):fM P w (upd H x o') h':=λb u q=>by
 have a:∀c y,H c=some (.own y)->c≠x:=λc y r z=>by subst z;rw[r]at i;exact i
 by_cases j:b=x
 ·subst j;rw[cG]at q;cases q;exact new
 ·rw[cI j]at q
  by_cases f:b=e
  ·have n:H b=some (.own x):=by
    obtain z|z:=he
    ·grind
    ·grind
   rw[q]at n;cases n;obtain⟨v,o⟩:=l;exact⟨v,by rw[f];exact o⟩
  ·refine(ok b u q).gD (λc v g r=>k c v ?_ r) (λc r=>by rw[cI<|a c b r];exact r) λc m r=>by rw[cI<|(λc m r z=>by subst z;rw[r]at i;exact i) c m r];exact r
   obtain rfl|g:=g
   ·exact f
   ·rintro rfl
    obtain z|z:=he
    ·exact a c b g z
    ·rw[g]at z;cases z;exact j rfl
structure Un(fs ex:Yb X4)(H H':Hp)(h h':Heap):Prop where
 keep:∀b o,h.get? b=some o->H b=none->b ∉ fs->b ∉ ex->h'.get? b=some o
 slot:∀b o,h.get? b=some o->H b=none->b∈fs->b ∉ ex->∃sl,h'.get? b=some { o with slots:=sl }
 free:∀b o,h.get? b=some o->H b=none->b ∉ ex->H' b=none
 there:∀b o,h.get? b=some o->b ∉ ex->∃o',h'.get? b=some o'
 tups:∀b xs,H b=some (.tup xs)->H' b=some (.tup xs)
 frzs:∀b o u,H b=some (.frz o u)->H' b=some (.frz o u)
 tbls:∀b ps,H b=some (.tbl ps)->∃Yq,H' b=some (.tbl (ps++Yq))
def Un.any(u:Un fs ex H H1 h h1)(q:h.get? b=some ob)(n:H b=none)(a:b ∉ ex):∃sl,h1.get? b=some { ob with slots:=sl }:=by
 by_cases e:b∈fs
 ·exact u.slot b ob q n e a
 ·exact⟨ob.slots,u.keep b ob q n e a⟩
def Un.trans(a:Un fs ex H H1 h h1)(b:Un fs ex H1 H2 h1 h2):Un fs ex H H2 h h2 where
 keep:=λc e q n j f=>b.keep c e (a.keep c e q n j f) (a.free c e q n f) j f
 slot:=λc e q n j f=>by
  obtain⟨sl,g⟩:=a.slot c e q n j f;obtain⟨m,l⟩:=b.slot c _ g (a.free c e q n f) j f;exact⟨m,l⟩
 free:=λc e q n f=>by
  obtain⟨o,g⟩:=a.there c e q f;exact b.free c o g (a.free c e q n f) f
 there:=λc e q f=>by
  obtain⟨o,g⟩:=a.there c e q f;exact b.there c o g f
 tups:=λc i q=>b.tups c i<|a.tups c i q
 frzs:=λc e i q=>b.frzs c e i<|a.frzs c e i q
 tbls:=λc p q=>by
  obtain⟨s,g⟩:=a.tbls c p q;obtain⟨r,l⟩:=b.tbls c _ g;exact⟨s++r,by rw[l,Wt]⟩
def Un.kept(k:∀b u,h.get? b=some u->h'.get? b=some u):Un fs ex H H h h':=
 ⟨λb a q _ _ _=>k b a q,λb a q _ _ _=>⟨a.slots,k b a q⟩,λ_ _ _ n _=>n,λb a q _=>⟨a,k b a q⟩,λ_ _ q=>q,λ_ _ _ q=>q,λ_ e q=>⟨#[],by rw[q];simp⟩⟩
def Un.refl:Un fs ex H H h h:=Un.kept λ_ _ q=>q
def Un.laid(k:∀b u,h.get? b=some u->h'.get? b=some u)(f:h.objs.size<=a)(e:H a=none):Un fs ex H (upd H a o) h h' where
 keep:=λb u q _ _ _=>k b u q
 slot:=λb u q _ _ _=>⟨u.slots,k b u q⟩
 free:=λb u q n _=>by rw[cI<|Ss<|SA (Sv q) f];exact n
 there:=λb u q _=>⟨u,k b u q⟩
 tups:=λb g q=>by rw[cI<|cH q e];exact q
 frzs:=λb u g q=>by rw[cI<|cH q e];exact q
 tbls:=λb i q=>⟨#[],by rw[cI<|cH q e,q];simp⟩
def Un.write(a:N5 (H x))(he:e=x\/H e=some (.own x))(k:∀b u,b≠e->h.get? b=some u->h'.get? b=some u)(m:∃u,h'.get? e=some u):Un fs ex H (upd H x o) h h':=by
 have p:∀b,H b=none->b≠x:=λb n z=>by subst z;rw[n]at a;exact a
 have g:∀b,H b=none->b≠e:=λb n z=>by grind
 have f:∀b u,H b=some u->¬N5 (some u)->b≠x:=λb u q i z=>by subst z;rw[q]at a;exact i a
 refine⟨λb u q n _ _=>k b u (g b n) q,λb u q n _ _=>⟨u.slots,k b u (g b n) q⟩,λb u q n _=>by rw[cI<|p b n];exact n,λb u q _=>?_,
  λb l q=>by rw[cI<|f b _ q λz=>z];exact q,λb u l q=>by rw[cI<|f b _ q λz=>z];exact q,λb r q=>⟨#[],by rw[cI<|f b _ q λz=>z,q];simp⟩⟩
 by_cases j:b=e
 ·grind
 ·grind
def Iq(h:Heap)(H:Hp):Yb X4:=(List.range h.objs.size).filter λa=>(H a).isSome
def vc(h:Heap)(H:Hp):Heap:=hideAll h<|Iq h H
def BN(h:Heap)(H:Hp):(vc h H).objs.size=h.objs.size:=PySem.W.hideAll_size _ _
def EN(e:h.get? b=some o)(n:H b=none):(vc h H).get? b=some o:=
 XX _ e λa=>by
  have q:=(Su.mp a).2;rw[n]at q;simp at q
def Jm(e:(vc h H).get? b=some o):h.get? b=some o/\H b=none:=by
 have a:=of_hideAll (Iq h H) e;refine⟨a,?_⟩;cases q:H b with
 |none=>rfl
 |some x=>
  have z:(vc h H).get? b=none:=XO (Iq h H) (Su.mpr ⟨TU.mpr<|Sv a,by simp[q]⟩);rw[z]at e;cases e
def Il(g h:Heap)(L:X4):Yg:=(List.range h.objs.size).filterMap λa=>if a=L\/(g.get? a).isSome=true then none else(h.get? a).map λo=>(a,o)
def rest(g h:Heap)(L d:X4):Yg:=(Il g h L).filter λp=>decide<|p.1≠d
structure Mod(K:Frag)(mg:Yh)(base:Heap):Prop where
 kin:K.In base
 glob:base.Ns mainGlobals mg
 blt:∃mb,base.Ns builtinsNs mb/\∀x:Yc,x≠ "__name__" ->mb x=bootBuiltins x
 nolimit:base.NoLimit
structure Cx where
 prog:X6
 w:X7
 K:Frag
 mg:Yh
 base:Heap
 A:X9
 N:Yb Yc
 s₀:X5
 H₀:Hp
 env:Env
 outer:Yb Env
 stack:Yb Env
 ex:Yb X4
 fn:Yc->Bool
 calm:Bool
 pn:Yg
 xe:Yd
def iD(l:Yb Env):Yb X4:=l.filterMap (·.frame)
abbrev Cx.fs(X:Cx):Yb X4:=iD X.outer
def PV(sc:Scope)(x:Yc):Prop:=sc.names.lookup x=some .local\/sc.names.lookup x=some .cell\/sc.names.lookup x=some .free
def Loc(sc:Scope)(x:Yc):Prop:=sc.names.lookup x=some .local\/sc.names.lookup x=some .cell
def Look(env:Env)(h:Heap)(m:Yh)(x:Yc)(u:X3):Prop:=
 (env.kindOf x=some .local/\m x=some u)\/((env.kindOf x=some .cell\/env.kindOf x=some .free)/\∃c,env.cells.lookup x=some c/\h.IsCell c (some u))
structure Cx.Ok(X:Cx):Prop where
 mod:Mod X.K X.mg X.base
 kind:X.env.scope.kind=.function
 glob:X.env.globals=mainGlobals
 blt:X.env.builtins=builtinsNs
 above:X.s₀.heap.objs.size<=X.env.locals
 inj:∀x y c,X.env.cells.lookup x=some c->X.env.cells.lookup y=some c->x=y
 has:∀x,(X.env.kindOf x=some .cell\/X.env.kindOf x=some .free)->∃c,X.env.cells.lookup x=some c
 cab:∀x c,X.fn x=true->X.env.cells.lookup x=some c->X.s₀.heap.objs.size<=c
 hd:X.calm=true->X.A.handled=none
 frames:X.A.frames=some X.stack
 stk:X.stack=X.outer\/(X.stack=X.env::X.outer/\X.env.frame=some X.env.locals)
 exf:∀b∈X.ex,b≠X.env.locals/\∀x c,X.env.cells.lookup x=some c->c≠b
 bs:∀b o,X.base.get? b=some o->X.s₀.heap.get? b=some o/\X.H₀ b=none
 bsz:X.base.objs.size<=X.s₀.heap.objs.size
 noex:∀b o,X.base.get? b=some o->b ∉ X.ex
 exfs:∀b∈X.ex,b ∉ X.fs
 mX:X.s₀.heap.FunFrames X.base X.outer
 frf:∀b∈X.fs,X.H₀ b=none
structure Inv(X:Cx)(Yi:Yg)(σ:Yb (X8 V))(H:Hp)(s:X5):Prop where
 ok:X.Ok
 os:s.os=X.s₀.os
 bare:AllBare s.gens
 base:Un X.fs X.ex X.H₀ H X.s₀.heap s.heap
 loc:∃m,s.heap.Ns X.env.locals m/\∀(i:Nat) (x:Yc) (v:V),X.N[i]? =some x->σ[i]? =some (some v)->PV X.env.scope x->∃u,RelV v u/\Look X.env s.heap m x u
 cell:∀x c,X.env.cells.lookup x=some c->∃v,s.heap.IsCell c v
 free:H X.env.locals=none
 freeC:∀x c,X.env.cells.lookup x=some c->H c=none
 pin:∀p∈X.pn++Yi,s.heap.get? p.1=some p.2/\H p.1=none/\p.1≠X.env.locals/\p.1 ∉ X.fs/\∀v,p.2.data≠.cell v
 hok:fM X.prog X.w H s.heap
 len:σ.length=X.N.length
section
variable {X:Cx}{H:Hp}{H':Hp}{s:X5}{h':Heap}
def Cx.Ok.QF(ok:X.Ok)(e:X.base.get? b=some o):b ∉ X.fs:=λa=>by
 have:=(ok.mX.mem a).1;rw[e]at this;cases this
def Inv.bs(I:Inv X Yi σ H s):∀b o,X.base.get? b=some o->s.heap.get? b=some o/\H b=none:=λb o e=>
 ⟨I.base.keep b o (I.ok.bs b o e).1 (I.ok.bs b o e).2 (I.ok.QF e)<|I.ok.noex b o e,I.base.free b o (I.ok.bs b o e).1 (I.ok.bs b o e).2<|I.ok.noex b o e⟩
def Inv.bk(I:Inv X Yi σ H s):∀b o,X.base.get? b=some o->s.heap.get? b=some o:=λb o e=>(I.bs b o e).1
def Inv.mod(I:Inv X Yi σ H s):Mod X.K X.mg X.base:=I.ok.mod
def Inv.jm(I:Inv X Yi σ H s):X.K.In s.heap:=I.ok.mod.kin.keeps I.bk
def Inv.lt(I:Inv X Yi σ H s):X.env.locals<s.heap.objs.size:=let ⟨_,a,_⟩:=I.loc;a.lt
def Inv.sz(I:Inv X Yi σ H s):X.s₀.heap.objs.size<=s.heap.objs.size:=SF I.ok.above<|Vo I.lt
def Inv.QU(I:Inv X Yi σ H s)(h:s.heap.objs.size<=a):a ∉ X.fs:=λe=>by
 obtain⟨_,o,f,_⟩:=I.ok.mX.mem e;exact absurd (SA (Sv f)<|SF I.sz h)<|VA _
def Inv.Eg(I:Inv X Yi σ H s):∀x c,X.env.cells.lookup x=some c->c≠X.env.locals:=λx c e z=>by
 obtain⟨v,o,g,f⟩:=I.cell x c e;obtain⟨m,⟨l,j,i,h,a,_⟩,_⟩:=I.loc;rw[z,h]at g;cases g;rw[a]at f;cases f
def Inv.mX(I:Inv X Yi σ H s):s.heap.FunFrames X.base X.outer:=by
 have all:∀(l:Yb Env),(∀b∈iD l,b∈X.fs)->X.s₀.heap.FunFrames X.base l->s.heap.FunFrames X.base l:=by
  intro l
  induction l with
  |nil=>intro _ _;trivial
  |cons m r v=>
   intro h p;obtain⟨j,⟨L,o,g,q,n,i⟩,hr⟩:=p;have f:=h L (by unfold iD;rw[WA,g];exact SO);obtain⟨sl,e⟩:=I.base.slot L o n (I.ok.frf L f) f λz=>I.ok.exfs L z f;exact⟨j,⟨L,_,g,q,e,i⟩,v (λb a=>h b<|by unfold iD;rw[WA,g];exact Ta _ a) hr⟩
 exact all X.outer (λ_ a=>a) I.ok.mX
def Inv.stack(I:Inv X Yi σ H s):s.heap.FunFrames X.base X.stack:=by
 obtain e|⟨e,a⟩:=I.ok.stk
 ·rw[e];exact I.mX
 ·rw[e]
  obtain⟨m,f,_⟩:=I.loc;refine .cons (by rw[I.ok.kind];decide) a f ?_ I.mX;exact Heap.get?_none_of_le<|SF I.ok.bsz I.ok.above
def Inv.zX(I:Inv X Yi σ H s):∀b∈iD X.stack,b∈X.env.locals::X.fs:=λb a=>by
 obtain e|⟨e,f⟩:=I.ok.stk
 ·grind
 ·rw[e]at a
  unfold iD at a
  rwa [WA,f]at a
def Inv.kr(I:Inv X Yi σ H s):∀b∈iD X.stack,H b=none:=λb a=>by
 obtain e|a:=SS.mp (I.zX b a)
 ·rw[e];exact I.free
 ·obtain⟨_,o,f,_⟩:=I.ok.mX.mem a
  exact I.base.free b o f (I.ok.frf b a) λz=>I.ok.exfs b z a
def Inv.step{ch:Yb X4}(I:Inv X Yi σ H s)
  (E:∀b∈ch,(b∈X.ex\/X.s₀.heap.objs.size<=b)/\b≠X.env.locals/\(∀x c,X.env.cells.lookup x=some c->c≠b)/\∀p∈X.pn++Yi,p.1≠b)
  (keep:∀b o,b≠X.env.locals->b ∉ X.fs->b ∉ ch->s.heap.get? b=some o->H b=none->h'.get? b=some o)
  (slot:∀b o,b≠X.env.locals->b∈X.fs->b ∉ ch->s.heap.get? b=some o->H b=none->∃sl,h'.get? b=some { o with slots:=sl })(free:∀b o,b ∉ ch->s.heap.get? b=some o->H b=none->H' b=none)
  (there:∀b o,b ∉ ch->s.heap.get? b=some o->∃G,h'.get? b=some G)
  (D:∀b xs,H b=some (.tup xs)->H' b=some (.tup xs))(B:∀b o u,H b=some (.frz o u)->H' b=some (.frz o u))(F:∀b ps,H b=some (.tbl ps)->∃S,H' b=some (.tbl<|ps++S))
  (ns:∀m,s.heap.Ns X.env.locals m->h'.Ns X.env.locals m)(K:fM X.prog X.w H' h')(R:AllBare g'):
  Inv X Yi σ H' { s with heap:=h',gens:=g',drawn:=d',toks:=t' }:=by
 have A:∀b o,X.s₀.heap.get? b=some o->b≠X.env.locals:=λb o e=>Ss<|SA (Sv e) I.ok.above;have h:∀b o,X.s₀.heap.get? b=some o->b ∉ X.ex->b ∉ ch:=λb o e a j=>by
  obtain z|z:=(E b j).1
  ·exact a z
  ·exact absurd (SA (Sv e) z)<|VA _
 have cellK:∀x c,X.env.cells.lookup x=some c->∀v,s.heap.IsCell c v->h'.IsCell c v:=λx c e v ⟨o,y,J⟩=>by
  have f:c ∉ ch:=λz=>(E c z).2.2.1 x c e rfl;by_cases O:c∈X.fs
  ·obtain⟨sl,q⟩:=slot c o (I.Eg x c e) O f y (I.freeC x c e)
   exact⟨_,q,J⟩
  ·exact⟨o,keep c o (I.Eg x c e) O f y<|I.freeC x c e,J⟩
 refine⟨I.ok,I.os,R,⟨λb o e n j a=>?_,λb o e n j a=>?_,λb o e n a=>?_,λb o e a=>?_,λb xs e=>D b xs<|I.base.tups b xs e,λb o xs e=>B b o xs<|I.base.frzs b o xs e,λb ps e=>?_⟩,?_,λx c e=>?_,?_,λx c e=>?_,λp N=>?_,K,I.len⟩
 ·exact keep b o (A b o e) j (h b o e a) (I.base.keep b o e n j a)<|I.base.free b o e n a
 ·obtain⟨sl,g⟩:=I.base.slot b o e n j a
  obtain⟨L,C⟩:=slot b _ (A b o e) j (h b o e a) g<|I.base.free b o e n a;exact⟨L,C⟩
 ·obtain⟨G,g⟩:=I.base.there b o e a
  exact free b G (h b o e a) g<|I.base.free b o e n a
 ·obtain⟨G,g⟩:=I.base.there b o e a
  exact there b G (h b o e a) g
 ·obtain⟨U,g⟩:=I.base.tbls b ps e
  obtain⟨Q,C⟩:=F b _ g;exact⟨U++Q,by rw[C,Wt]⟩
 ·obtain⟨m,W,T⟩:=I.loc
  refine⟨m,ns m W,λi x v g C Y=>?_⟩;obtain⟨u,r,l⟩:=T i x v g C Y;refine⟨u,r,?_⟩;obtain l|⟨k,c,e,z⟩:=l
  ·exact .inl l
  ·exact .inr ⟨k,c,e,cellK x c e _ z⟩
 ·obtain⟨v,z⟩:=I.cell x c e
  exact⟨v,cellK x c e v z⟩
 ·obtain⟨m,⟨o,_,_,y,_⟩,_⟩:=I.loc
  exact free _ o (λz=>(E _ z).2.1 rfl) y I.free
 ·obtain⟨v,o,y,J⟩:=I.cell x c e
  exact free c o (λz=>(E c z).2.2.1 x c e rfl) y<|I.freeC x c e
 ·obtain⟨e,n,M,P,d⟩:=I.pin p N
  have f:p.1 ∉ ch:=λz=>(E p.1 z).2.2.2 p N rfl;exact⟨keep p.1 p.2 M P f e n,free p.1 p.2 f e n,M,P,d⟩
def Inv.un{t':Nat}(I:Inv X Yi σ H s)(u:Un X.fs [] H H' s.heap h')(h:fM X.prog X.w H' h'):Inv X Yi σ H' { s with heap:=h',toks:=t' }:=by
 obtain⟨m,⟨o,v,A,j,r⟩,_⟩:=id I.loc;obtain⟨sl,p⟩:=u.any j I.free (by simp);exact I.step (g':=s.gens) (d':=s.drawn) (ch:=[]) (λ_ z=>nomatch z) (λb o _ a _ e n=>u.keep b o e n a<|by simp) (λb o _ a _ e n=>u.slot b o e n a<|by simp) (λb o _ e n=>u.free b o e n<|by simp) (λb o _ e=>u.there b o e<|by simp) u.tups u.frzs u.tbls (λy q=>by
  obtain⟨x,g,f,i,l⟩:=q;rw[j]at i;cases i;exact⟨_,g,f,p,l⟩) h I.bare
def Inv.call{ch:Yb X4}(I:Inv X Yi σ H s)(u:Un (iD X.stack) ch H H' s.heap h')(i:fM X.prog X.w H' h')(A:AllBare g')
  (q:∀b∈ch,(b∈X.ex\/X.s₀.heap.objs.size<=b)/\b≠X.env.locals/\(∀x c,X.env.cells.lookup x=some c->c≠b)/\∀p∈X.pn++Yi,p.1≠b):
  Inv X Yi σ H' { s with heap:=h',gens:=g',drawn:=d',toks:=t' }:=by
 obtain⟨m,⟨o,C,F,l,r⟩,_⟩:=id I.loc;obtain⟨sl,g⟩:=u.any l I.free λz=>(q _ z).2.1 rfl;exact I.step q (λb o g y a e n=>u.keep b o e n (λz=>(SS.mp<|I.zX b z).elim g y) a) (λb o _ _ a e n=>u.any e n a) (λb o a e n=>u.free b o e n a) (λb o a e=>u.there b o e a) u.tups u.frzs u.tbls (λE B=>by
  obtain⟨D,h,f,j,v⟩:=B;rw[l]at j;cases j;exact⟨_,h,f,g,v⟩) i A
def Inv.turned{t':Nat}{it:X4}(I:Inv X Yi σ H s)(k:∀b o,b≠it->s.heap.get? b=some o->h'.get? b=some o)(A:H it=none)(g:it≠X.env.locals)
  (j:it∈X.ex\/X.s₀.heap.objs.size<=it)(h:∀x c,X.env.cells.lookup x=some c->c≠it)(y:∀p∈X.pn++Yi,p.1≠it):Inv X Yi σ H { s with heap:=h',toks:=t' }:=by
 have f:∀b u,H b=some u->b≠it:=λb u e z=>by rw[z,A]at e;cases e
 refine I.step (g':=s.gens) (d':=s.drawn) (ch:=[it]) (λb i=>?_) (λb o _ _ a e _=>k b o (λz=>a<|by simp[z]) e) (λb o _ _ a e _=>⟨o.slots,k b o (λz=>a<|by simp[z]) e⟩) (λ_ _ _ _ n=>n)
  (λb o a e=>⟨o,k b o (λz=>a<|by simp[z]) e⟩) (λ_ _ e=>e) (λ_ _ _ e=>e) (λb D e=>⟨#[],by rw[e];simp⟩) (λm B=>?_) (λb u e=>?_) I.bare
 ·have e:b=it:=by simpa using i
  subst e;exact⟨j,g,h,y⟩
 ·obtain⟨o,w,C,l,r⟩:=B
  exact⟨o,w,C,k _ o (Ui g) l,r⟩
 ·refine(I.hok b u e).gD (λc v a q=>k c v ?_ q) (λ_ q=>q) λ_ _ q=>q
  obtain z|z:=a
  ·rw[z];exact f b u e
  ·exact f c _ z
def Inv.tok(I:Inv X Yi σ H s)(t:Nat):Inv X Yi σ H { s with toks:=t }:=I.un (h':=s.heap) (t':=t) Un.refl I.hok
def Inv.kept(I:Inv X Yi σ H s)(k:∀b u,s.heap.get? b=some u->h'.get? b=some u):Inv X Yi σ H { s with heap:=h',toks:=t' }:=I.un (Un.kept k)<|I.hok.kept k
def Inv.laid(I:Inv X Yi σ H s)(k:∀b u,s.heap.get? b=some u->h'.get? b=some u)(e:s.heap.objs.size<=a)(new:cV X.prog X.w (upd H a o) h' a o):
  Inv X Yi σ (upd H a o) { s with heap:=h',toks:=t' }:=I.un (Un.laid k e<|I.hok.fresh e)<|I.hok.laid k e new
def Inv.write(I:Inv X Yi σ H s)(f:N5 (H x))(he:e=x\/H e=some (.own x))(k:∀b u,b≠e->s.heap.get? b=some u->h'.get? b=some u)(a:∃u,h'.get? e=some u)
  (new:cV X.prog X.w (upd H x o) h' x o):Inv X Yi σ (upd H x o) { s with heap:=h',toks:=t' }:=I.un (Un.write f he k a)<|I.hok.write f he k a new
def Inv.AJ(I:Inv X Yi σ H s)(h:∀p∈pins',s.heap.get? p.1=some p.2/\H p.1=none/\p.1≠X.env.locals/\p.1 ∉ X.fs/\∀v,p.2.data≠.cell v):Inv X pins' σ H s:=
 ⟨I.ok,I.os,I.bare,I.base,I.loc,I.cell,I.free,I.freeC,λp a=>(Sz.mp a).elim (λz=>I.pin p<|SM _ z)<|h p,I.hok,I.len⟩
def qi{N:Yb Yc}(f:N.Nodup){i j:Nat}{x:Yc}(a:N[i]? =some x)(b:N[j]? =some x):i=j:=by
 obtain⟨l,e⟩:=gI0.mp a;obtain⟨h,g⟩:=gI0.mp b;exact(Uy f).mp (e.trans g.symm)
def C0{M:Model}{A:X9}{E:Yd}{i:Nat}{x:Yc}{v:V}{u:X3}{Q:Ye}(I:Inv X Yi σ H s)(hN:X.N.Nodup)(U:X.N[i]? =some x)(B:Loc X.env.scope x)(r:RelV v u)
  (h:∀s',Inv X Yi (σ.set i<|some v) H s'->(∃a,Heap.SameBut a s.heap s'.heap/\(a=X.env.locals\/X.env.cells.lookup x=some a))->Q () s')(hf:X.fn x=true\/X.env.scope.names.lookup x=some .local:=by first|exact .inl rfl|exact .inr rfl|assumption):wpAny M A (storeName X.env x u) Q E s:=by
 obtain⟨m,hn,hl⟩:=id I.loc;have G:i<σ.length:=by rw[I.len];exact(gI0.mp U).1
 have Eg:=I.Eg;have tracked:∀{a:X4}{O:Heap},(∃o,s.heap.get? a=some o/\H a=none)->Heap.SameBut a s.heap O->fM X.prog X.w H O:=λ{a O} ha f b ob e=>by
  obtain⟨_,_,C⟩:=ha;refine(I.hok b ob e).gD (λc W l q=>(f.2 c ?_).trans q) (λ_ q=>q) λ_ _ q=>q;rintro rfl;obtain rfl|l:=l
  ·rw[C]at e;cases e
  ·rw[C]at l;cases l
 obtain F|F:=B
 ·refine wpAny_storeName_local F hn (λO ab f=>?_) (by rw[I.ok.kind];rfl)
  obtain⟨oL,_,_,ac,_⟩:=id hn;refine h _ ⟨I.ok,I.os,I.bare,⟨λb o e n J B=>?_,λb o e n J B=>?_,I.base.free,λb o e B=>?_,I.base.tups,I.base.frzs,I.base.tbls⟩,⟨_,ab,λj y v' g D e3=>?_⟩,λy c e=>?_,I.free,I.freeC,λp hp=>?_,tracked ⟨oL,ac,I.free⟩ f,by simpa using I.len⟩ ⟨_,f,.inl rfl⟩
  ·exact(f.2 b<|Ss<|SA (Sv e) I.ok.above).trans (I.base.keep b o e n J B)
  ·obtain⟨sl,g⟩:=I.base.slot b o e n J B
   exact⟨sl,(f.2 b<|Ss<|SA (Sv e) I.ok.above).trans g⟩
  ·obtain⟨o',g⟩:=I.base.there b o e B
   exact⟨o',(f.2 b<|Ss<|SA (Sv e) I.ok.above).trans g⟩
  ·by_cases K:j=i
   ·subst K
    rw[U]at g;cases g;rw[Vr G]at D;cases D;exact⟨u,r,.inl ⟨F,by simp⟩⟩
   ·rw[We<|Ui K]at D
    obtain⟨u',r',q⟩:=hl j y v' g D e3;refine⟨u',r',?_⟩;obtain ⟨k,e⟩|⟨k,c,e,z⟩:=q
    ·refine .inl ⟨k,?_⟩
     have:y≠x:=λe=>K<|qi hN g<|e ▸ U;simp[this,e]
    ·exact .inr ⟨k,c,e,z.sameBut f<|Eg y c e⟩
  ·obtain⟨W,z⟩:=I.cell y c e
   exact⟨W,z.sameBut f<|Eg y c e⟩
  ·obtain⟨e,n,Z,nf,d⟩:=I.pin p hp
   exact⟨(f.2 p.1 Z).trans e,n,Z,nf,d⟩
 ·have L:X.fn x=true:=by
   obtain z|z:=hf
   ·exact z
   ·rw[z]at F;cases F
  obtain⟨c,l⟩:=I.ok.has x<|.inl F;obtain⟨W,z⟩:=I.cell x c l;refine wpAny_storeName_cell I.ok.kind F l z λO T f=>?_;obtain⟨oc,P,R⟩:=id z;refine h { s with heap:=O } ⟨I.ok,I.os,I.bare,⟨λb o e n J B=>?_,λb o e n J B=>?_,I.base.free,λb o e B=>?_,I.base.tups,I.base.frzs,I.base.tbls⟩,⟨m,hn.sameBut f<|Ui<|Eg x c l,λj y v' g D e3=>?_⟩,λy Y e=>?_,I.free,I.freeC,λp hp=>?_,tracked ⟨oc,P,I.freeC x c l⟩ f,by simpa using I.len⟩ ⟨c,f,.inr l⟩
  ·exact(f.2 b<|Ss<|SA (Sv e)<|I.ok.cab x c L l).trans (I.base.keep b o e n J B)
  ·obtain⟨sl,g⟩:=I.base.slot b o e n J B
   exact⟨sl,(f.2 b<|Ss<|SA (Sv e)<|I.ok.cab x c L l).trans g⟩
  ·obtain⟨o',g⟩:=I.base.there b o e B
   exact⟨o',(f.2 b<|Ss<|SA (Sv e)<|I.ok.cab x c L l).trans g⟩
  ·by_cases K:j=i
   ·subst K
    rw[U]at g;cases g;rw[Vr G]at D;cases D;exact⟨u,r,.inr ⟨.inl F,c,l,T⟩⟩
   ·rw[We<|Ui K]at D
    obtain⟨u',r',q⟩:=hl j y v' g D e3;refine⟨u',r',?_⟩;obtain q|⟨k,Y,e,z'⟩:=q
    ·exact .inl q
    ·refine .inr ⟨k,Y,e,z'.sameBut f ?_⟩
     rintro rfl;exact K<|qi hN g<|I.ok.inj _ _ _ e l ▸ U
  ·by_cases S:Y=c
   ·subst S;exact⟨_,T⟩
   ·obtain⟨w2,z2⟩:=I.cell y Y e
    exact⟨w2,z2.sameBut f S⟩
  ·obtain⟨e,n,Z,nf,d⟩:=I.pin p hp
   refine⟨(f.2 p.1 ?_).trans e,n,Z,nf,d⟩;intro q;rw[q,P]at e;exact d W (by rw[<-(Sy e)];exact R)
def j5(I:Inv X Yi σ H s)(e:X.N.Nodup)(f:X.N[i]? =some x)(g:Loc X.env.scope x)(r:RelV v u)
  (h:∀s',Inv X Yi (σ.set i<|some v) H s'->Q () s')(hf:X.fn x=true\/X.env.scope.names.lookup x=some .local:=by first|exact .inl rfl|exact .inr rfl|assumption):wpAny M A (storeName X.env x u) Q E s:=
 C0 I e f g r (λs' a _=>h s' a) hf
def Inv.tE(I:Inv X Yi σ H s)(f:s'.os=s.os)(u:Un (iD X.stack) ch H H' s.heap s'.heap)(a:fM X.prog X.w H' s'.heap)(h:AllBare s'.gens)
  (g:∀b∈ch,(b∈X.ex\/X.s₀.heap.objs.size<=b)/\b≠X.env.locals/\(∀x c,X.env.cells.lookup x=some c->c≠b)/\∀p∈X.pn++Yi,p.1≠b):Inv X Yi σ H' s':=by
 obtain⟨i,g',d',t',j⟩:=s';have e:=f;subst e;exact I.call (g':=g') (t':=t') (d':=d') u a h g
end
abbrev XK:=X3->X8 X4->Hp->Prop
abbrev St:=Yb (X8 V)
abbrev VK:=V->Hp->Prop
abbrev TE:=St->Hp->VK->Prop
abbrev TT:=St->Hp->(Bool->Hp->Prop)->Prop
abbrev TA:=St->Hp->(Yb V->Hp->Prop)->Prop
structure Ends where
 nx:St->Hp->Prop
 rt:VK
 bk:St->Hp->Prop:=λ_ _=>False
 ct:St->Hp->Prop:=λ_ _=>False
abbrev TS:=Ends->St->Hp->Prop
inductive EP(X:Cx)(a:Yg)(σ:St)(Q:VK)(u:X3)(s':X5):Prop
 |mk(v:V)(H':Hp)(I:Inv X a σ H' s')(r:RelV v u)(q:Q v H')
inductive TP(X:Cx)(a:Yg)(σ:St)(Q:Bool->Hp->Prop)(b:Bool)(s':X5):Prop
 |mk(H':Hp)(I:Inv X a σ H' s')(q:Q b H')
inductive AP(X:Cx)(a:Yg)(σ:St)(Q:Yb V->Hp->Prop)(us:Yb X3)(s':X5):Prop
 |mk(vs:Yb V)(H':Hp)(I:Inv X a σ H' s')(r:Vals vs us)(q:Q vs H')
inductive SN(X:Cx)(e:Yg)(k:St->Hp->Prop)(s':X5):Prop
 |mk(a:St)(H':Hp)(I:Inv X e a H' s')(q:k a H')
def SP(X:Cx)(a:Yg)(D:Ends)(f:Flow)(s':X5):Prop:=
 match f with
 |.next=>SN X a D.nx s'
 |.brk=>SN X a D.bk s'
 |.cont=>SN X a D.ct s'
 |.ret u=>∃v e g,Inv X a e g s'/\RelV v u/\D.rt v g
def PE(X:Cx)(e:Expr)(t:TE):Prop:=
 ∀(a:Yg) (s:X5) (σ:St) (H:Hp) (Q:VK),Inv X a σ H s->t σ H Q->wpAny (model X.prog X.w) X.A (eval e X.env) (EP X a σ Q) X.xe s
def PT(X:Cx)(e:Expr)(t:TT):Prop:=
 ∀(a:Yg) (s:X5) (σ:St) (H:Hp) (Q:Bool->Hp->Prop),Inv X a σ H s->t σ H Q->wpAny (model X.prog X.w) X.A (isTrue e X.env<|eval e X.env) (TP X a σ Q) X.xe s
def PW(X:Cx)(e:Expr)(t:TT):Prop:=
 ∀(f:Sem X3) (a:Yg) (s:X5) (σ:St) (H:Hp) (Q:Bool->Hp->Prop),Inv X a σ H s->t σ H Q->wpAny (model X.prog X.w) X.A (isTrue e X.env f) (TP X a σ Q) X.xe s
def PW.pt(h:PW X e t):PT X e t:=h _
def PA(X:Cx)(es:Yb Expr)(t:TA):Prop:=
 ∀(pos:Pos) (a:Yg) (s:X5) (σ:St) (H:Hp) (Q:Yb V->Hp->Prop),Inv X a σ H s->t σ H Q->wpAny (model X.prog X.w) X.A (spliced<|backTo pos<|starEach es X.env) (AP X a σ Q) X.xe s
def PS(X:Cx)(st:Stmt)(t:TS):Prop:=
 ∀(a:Yg) (s:X5) (σ:St) (H:Hp) (D:Ends),Inv X a σ H s->t D σ H->wpAny (model X.prog X.w) X.A (exec st X.env) (SP X a D) X.xe s
def yG(X:Cx)(st:Yb Stmt)(t:TS):Prop:=
 ∀(a:Yg) (s:X5) (σ:St) (H:Hp) (D:Ends),Inv X a σ H s->t D σ H->wpAny (model X.prog X.w) X.A (execs st X.env) (SP X a D) X.xe s
def c9(h:wpAny M A t Q E s)(e:∀a s,Q a s->Q' a s):wpAny M A t Q' E s:=SJ h e λ_ _ x=>x
section
variable {X:Cx}
inductive Q0(i:Nat)(σ:St)(H:Hp)(Q:VK):Prop
 |mk(v:V)(h:σ[i]? =some (some v))(q:Q v H)
def gC(i:Nat):TE:=λσ H Q=>Q0 i σ H Q
inductive Pm(x:V)(H:Hp)(Q:Bool->Hp->Prop):Prop
 |mk(c:Bool)(h:x=.bl c)(q:Q c H)
def tC(v:V):TE:=λ_ H Q=>Q v H
def nO (z:X.N[i]? =some x) (y:PV X.env.scope x) (hd:(x==("__debug__" :Yc))=false:=by decide) (o:(x==("__classdict__" :Yc))=false:=by decide):PE X (.Name x pos) (gC i):=by
 intro p s σ H Q I h;obtain⟨v,e,h⟩:=h;obtain⟨m,q,n⟩:=I.loc;obtain⟨u,r,l⟩:=n i x v z e y;have f:EP X p σ Q u s:=⟨v,H,I,r,h⟩;obtain ⟨g,w⟩|⟨g,c,j,a⟩:=l
 ·exact wpAny_Name (wpAny_loadName_local I.ok.kind g q w f) hd
 ·obtain g|g:=g
  ·exact wpAny_Name (wpAny_loadName_cell I.ok.kind g j a f) hd
  ·exact wpAny_Name (wpAny_loadName_free I.ok.kind g j a f o) hd
def oA{i j pos}:PE X (.Constant (.int i) j pos) (tC<|.int i):=λ_ _ _ H _ I h=>wpAny_Constant_int ⟨.int i,H,I.tok _,⟨_,rfl⟩,h⟩
def Kh{b j pos}:PE X (.Constant (.bool b) j pos) (tC<|.bl b):=λ_ _ _ H _ I h=>Constant_bool ⟨.bl b,H,I,rfl,h⟩
def L7{j pos}:PE X (.Constant .none j pos) (tC .non):=λ_ _ _ H _ I h=>Constant_none ⟨.non,H,I,rfl,h⟩
def zg{x j pos}:PE X (.Constant (.str x) j pos) (tC<|.str x):=λ_ _ _ H _ I h=>Calls.Constant_str ⟨.str x,H,I.tok _,⟨_,rfl⟩,h⟩
def Gl(X:Cx)(x:Yc):Prop:=X.env.kindOf x=some .globalImplicit
def kT(I:Inv X Yi σ H s)(a:Gl X x)(hm:X.mg x=some u)(h:Q u s)
  (hd:(x==("__debug__" :Yc))=false:=by decide):wpAny (model X.prog X.w) X.A (eval (.Name x pos) X.env) Q E s:=
 XQ I.ok.kind a (Calls.loadGlobal_global (by rw[I.ok.glob];exact I.mod.glob.keeps I.bk) hm h) hd
def jj(I:Inv X Yi σ H s)(g:Gl X x)(hm:X.mg x=none)(a:bootBuiltins x=some u)(h:Q u s)
  (i:x≠ "__name__" :=by decide) (hd:(x==("__debug__" :Yc))=false:=by decide):wpAny (model X.prog X.w) X.A (eval (.Name x pos) X.env) Q E s:=by
 obtain⟨j,f,e⟩:=I.mod.blt;exact XQ I.ok.kind g (Calls.loadGlobal_builtin (by rw[I.ok.glob];exact I.mod.glob.keeps I.bk) hm (by rw[I.ok.blt];exact f.keeps I.bk) ((e x i).trans a) h) hd
def kO (a:Gl X x) (hm:X.mg x=some u) (r:RelV v u) (hd:(x==("__debug__" :Yc))=false:=by decide):PE X (.Name x pos) (tC v):=
 λ_ _ _ H _ I h=>kT I a hm ⟨v,H,I,r,h⟩ hd
def pE (e:Gl X x) (hm:X.mg x=none) (a:bootBuiltins x=some u) (r:RelV v u) (f:x≠ "__name__" :=by decide) (hd:(x==("__debug__" :Yc))=false:=by decide):PE X (.Name x pos) (tC v):=
 λ_ _ _ H _ I h=>jj I e hm a ⟨v,H,I,r,h⟩ f hd
variable {tb:TE}{pos:Pos}
def PC(X:Cx)(op:CmpOp)(a b:Expr)(t:TE):Prop:=
 ∀(g:Yg) (s:X5) (σ:St) (H:Hp) (Q:VK),Inv X g σ H s->t σ H Q->
  wpAny (model X.prog X.w) X.A (eval a X.env) (λv f=>wpAny (model X.prog X.w) X.A (eval b X.env) (λu e=>wpAny (model X.prog X.w) X.A (compareOp op v u) (EP X g σ Q) X.xe e) X.xe f) X.xe s
def tB(t:TE):TT:=λσ H Q=>t σ H λx H1=>Pm x H1 Q
def Lg(h:PC X op a b t)(f:behindInMarks op b=false:=by first|exact nobehind _ (by decide) (by decide)|rfl):PE X (.Compare a [op] [b] pos) t:=λg s σ H Q I e=>wpAny_Compare1 (h g s σ H Q I e) f
def vJ(h:PC X op a b t)(f:behindInMarks op b=false:=by first|exact nobehind _ (by decide) (by decide)|rfl):PT X (.Compare a [op] [b] pos) (tB t):=by
 intro m s σ H Q I l;refine wpAny_isTrue_Compare1 (c9 (h m s σ H _ I l) λv o f=>c9 f λu n g=>c9 g λc p e=>?_) f;obtain⟨x,H1,j,i,q1⟩:=e;obtain⟨d,rfl,q⟩:=q1;cases i;exact Tc ⟨H1,j,q⟩
def zL(h:PE X e t)(he:∀f,isTrue e X.env f=(do let v <-f;standAt e.pos;holding [v] (truthy v)):=by intro _;rfl):PT X e (tB t):=by
 intro l s σ H Q I g;refine isTrue_plain (c9 (h l s σ H _ I g) λv m a=>?_)<|he _;obtain⟨x,H1,j,i,q1⟩:=a;obtain⟨d,rfl,q⟩:=q1;cases i;exact Tc ⟨H1,j,q⟩
variable {rest:Yb Expr}
def KD(t u:TT):TT:=λσ H Q=>t σ H λc H1=>if c=true then u σ H1 Q else Q false H1
def Rg(t u:TT):TT:=λσ H Q=>t σ H λc H1=>if c=true then Q true H1 else u σ H1 Q
def O5(t:TT):TT:=λσ H Q=>t σ H λc H1=>Q (!c) H1
def HZ(f:PT X a tA):PW X (.BoolOp .And [a] pos) tA:=by
 intro i g s σ H Q I h;refine isTrue_and<|c9 (f g s σ H Q I h) λc j e=>?_;cases c with
 |true=>exact isTrue_and_nil e
 |false=>exact e
def EK(f:PT X a tA):PW X (.BoolOp .Or [a] pos) tA:=by
 intro i g s σ H Q I h;refine isTrue_or<|c9 (f g s σ H Q I h) λc j e=>?_;cases c with
 |false=>exact isTrue_or_nil e
 |true=>exact e
def LK(g:PT X a tA)(l:PW X (.BoolOp .And (b::rest) pos) tB'):PW X (.BoolOp .And (a::b::rest) pos) (KD tA tB'):=by
 intro i f s σ H Q I h;refine isTrue_and<|c9 (g f s σ H _ I h) λc j ⟨H1,e,q1⟩=>?_;cases c with
 |true=>exact l i f j σ H1 Q e q1
 |false=>exact⟨H1,e,q1⟩
def Kk(g:PT X a tA)(l:PW X (.BoolOp .Or (b::rest) pos) tB'):PW X (.BoolOp .Or (a::b::rest) pos) (Rg tA tB'):=by
 intro i f s σ H Q I h;refine isTrue_or<|c9 (g f s σ H _ I h) λc j ⟨H1,e,q1⟩=>?_;cases c with
 |true=>exact⟨H1,e,q1⟩
 |false=>exact l i f j σ H1 Q e q1
def yR(e:PT X a tA):PT X (.UnaryOp .Not a pos) (O5 tA):=by
 intro g s σ H Q I h;exact isTrue_not<|c9 (e g s σ H (λc H1=>Q (!c) H1) I h) λc i q=>q.casesOn λH1 f q1=>⟨H1,f,q1⟩
def D9(ta tb:TE):TE:=λσ H Q=>ta σ H λx H1=>Pm x H1 λc a=>if c=true then tb σ a Q else Q (.bl false) a
def Ip(ta tb:TE):TE:=λσ H Q=>ta σ H λx H1=>Pm x H1 λc a=>if c=true then Q (.bl true) a else tb σ a Q
def Kb(ta:TE):TE:=λσ H Q=>ta σ H λx H1=>Pm x H1 λc a=>Q (.bl<|!c) a
def uX{op}(h:PE X a t):PE X (.BoolOp op [a] pos) t:=λf s σ H Q I e=>BoolOp_one<|h f s σ H Q I e
def uA(i:PE X a ta)(m:PE X (.BoolOp .And (b::rest) pos) tb):PE X (.BoolOp .And (a::b::rest) pos) (D9 ta tb):=by
 intro g s σ H Q I h;refine BoolOp_and<|c9 (i g s σ H _ I h) λv l e=>?_;obtain⟨x,H1,f,j,q1⟩:=e;obtain⟨c,rfl,q1⟩:=q1;cases j;refine Tc ?_;cases c with
 |true=>exact m g l σ H1 Q f q1
 |false=>exact⟨.bl false,H1,f,rfl,q1⟩
def Bh(i:PE X a ta)(m:PE X (.BoolOp .Or (b::rest) pos) tb):PE X (.BoolOp .Or (a::b::rest) pos) (Ip ta tb):=by
 intro g s σ H Q I h;refine BoolOp_or<|c9 (i g s σ H _ I h) λv l e=>?_;obtain⟨x,H1,f,j,q1⟩:=e;obtain⟨c,rfl,q1⟩:=q1;cases j;refine Tc ?_;cases c with
 |false=>exact m g l σ H1 Q f q1
 |true=>exact⟨.bl true,H1,f,rfl,q1⟩
def ro(f:PE X a ta):PE X (.UnaryOp .Not a pos) (Kb ta):=by
 intro j s σ H Q I h;refine UnaryOp_<|c9 (f j s σ H _ I h) λv l e=>?_;obtain⟨x,H1,i,g,q1⟩:=e;obtain⟨c,rfl,q1⟩:=q1;cases g;exact not_of<|Tc ⟨.bl<|!c,H1,i,rfl,q1⟩
end
def cP(K:Frag)(H:Hp)(a:X4)(xs:Yb V):Prop:=
 Rd H a (.lst xs)\/
  ∃(o:Obj) (e:Array X3) (n:Nat),K.lookup a=some o/\o.cls=.type "list" /\o.dict=none/\o.data=.seq e n/\e.size<=sizeLine/\Vals xs e.toList
def fc(K:Frag)(H:Hp)(a:X4)(xs:Yb V):Prop:=
 Rd H a (.tup xs)\/
  ∃(o:Obj) (e:Array X3) (n:Nat),K.lookup a=some o/\o.cls=.type "tuple" /\o.data=.seq e n/\e.size<=sizeLine/\Vals xs e.toList
def Rb:X3->X8 V
 |.none=>some .non
 |.bool b=>some<|.bl b
 |.int i _=>some<|.int i
 |.str x _=>some<|.str x
 |.bytes b _=>some<|.byt b
 |.float b _=>some<|.flt b
 |.ref a=>some<|.ref a
 |.type n=>some<|.ty n
 |_=>none
def RelV.abs(r:RelV x u):Rb u=some x:=by
 cases x with
 |non=>cases r;rfl
 |bl _=>cases r;rfl
 |int _=>obtain⟨t,rfl⟩:=r;rfl
 |str _=>obtain⟨t,rfl⟩:=r;rfl
 |byt _=>obtain⟨t,rfl⟩:=r;rfl
 |flt _=>obtain⟨t,rfl⟩:=r;rfl
 |ref _=>cases r;rfl
 |ty _=>cases r;rfl
def RelV.inj(r:RelV x u)(q:RelV y u):x=y:=Sy<|r.abs.symm.trans q.abs
theorem Vals.inj:∀{xs ys:Yb V}{us:Yb X3},Vals xs us->Vals ys us->xs=ys
 |_,_,_,.nil,.nil=>rfl
 |_,_,_,.cons r t,.cons r' t'=>by rw[r.inj r',Vals.inj t t']
def cP.of{K:Frag}(h:H a=some (.lst xs)):cP K H a xs:=.inl<|.inl h
def fc.of{K:Frag}(h:H a=some (.tup xs)):fc K H a xs:=.inl<|.inl h
def Inv.list(I:Inv X Yi σ H s)(h:cP X.K H a xs):∃f:Yb X3,Vals xs f/\PlainL s.heap a f.toArray/\xs.length<=sizeLine:=by
 obtain h|⟨o,f,n,i,l,g,j,m,r⟩:=h
 ·obtain⟨z,f,n,r,e⟩:=h.ok I.hok
  exact⟨f,r,⟨_,n,e,rfl,rfl,rfl⟩,z⟩
 ·refine⟨f.toList,r,⟨o,n,I.jm a o i,l,g,by simpa using j⟩,?_⟩
  have e:=r.length;simp only[length_toList]at e;lia
def Inv.tuple(I:Inv X Yi σ H s)(h:fc X.K H a xs):∃f:Yb X3,Vals xs f/\IsTup s.heap a f.toArray/\xs.length<=sizeLine:=by
 obtain h|⟨o,f,n,g,j,i,l,r⟩:=h
 ·obtain⟨z,f,r,p⟩:=h.ok I.hok
  exact⟨f,r,p,z⟩
 ·refine⟨f.toList,r,⟨o,I.jm a o g,j,n,by simpa using i⟩,?_⟩
  have e:=r.length;simp only[length_toList]at e;lia
def Inv.yC(I:Inv X Yi σ H s)(h:cP X.K H a xs)(h':cP X.K H a ys):xs=ys:=by
 obtain⟨i,r,⟨o,n,e,_,_,d⟩,_⟩:=I.list h;obtain⟨l,j,⟨p,m,g,_,_,f⟩,_⟩:=I.list h';rw[e]at g;cases g;rw[d]at f;injection f with d1 _
 have:i=l:=by simpa using SY Array.toList d1
 subst this;exact r.inj j
def Inv.BV(I:Inv X Yi σ H s)(h:fc X.K H a xs)(h':fc X.K H a ys):xs=ys:=by
 obtain⟨i,r,⟨o,e,_,n,d⟩,_⟩:=I.tuple h;obtain⟨l,j,⟨p,g,_,m,f⟩,_⟩:=I.tuple h';rw[e]at g;cases g;rw[d]at f;injection f with d1 _
 have:i=l:=by simpa using SY Array.toList d1
 subst this;exact r.inj j
abbrev Cx.lh(X:Cx)(E:Yd):Cx:={ X with xe:=E }
abbrev Cx.nh(X:Cx):Cx:=X.lh λ_ _=>False
def Cx.Ok.lh{X:Cx}(ok:X.Ok)(E:Yd):(X.lh E).Ok:=
 ⟨ok.mod,ok.kind,ok.glob,ok.blt,ok.above,ok.inj,ok.has,ok.cab,ok.hd,ok.frames,ok.stk,ok.exf,ok.bs,ok.bsz,ok.noex,ok.exfs,ok.mX,ok.frf⟩
def Cx.Ok.fe{X:Cx}(ok:(X.lh E).Ok):X.Ok:=
 ⟨ok.mod,ok.kind,ok.glob,ok.blt,ok.above,ok.inj,ok.has,ok.cab,ok.hd,ok.frames,ok.stk,ok.exf,ok.bs,ok.bsz,ok.noex,ok.exfs,ok.mX,ok.frf⟩
def Inv.lh(I:Inv X Yi σ H s)(E:Yd):Inv (X.lh E) Yi σ H s:=⟨I.ok.lh E,I.os,I.bare,I.base,I.loc,I.cell,I.free,I.freeC,I.pin,I.hok,I.len⟩
def Inv.fe(I:Inv (X.lh E) Yi σ H s):Inv X Yi σ H s:=⟨I.ok.fe,I.os,I.bare,I.base,I.loc,I.cell,I.free,I.freeC,I.pin,I.hok,I.len⟩
def SP.fe(h:SP (X.lh E) Yi D f s'):SP X Yi D f s':=by
 cases f with
 |next=>obtain⟨a,e,I,q⟩:=h;exact⟨a,e,I.fe,q⟩
 |brk=>obtain⟨a,e,I,q⟩:=h;exact⟨a,e,I.fe,q⟩
 |cont=>obtain⟨a,e,I,q⟩:=h;exact⟨a,e,I.fe,q⟩
 |ret u=>obtain⟨v,a,e,I,r,q⟩:=h;exact⟨v,a,e,I.fe,r,q⟩
def PE.nh(h:PE X.nh e t):PE X e t:=λi s σ H Q I a=>
 SJ (h i s σ H Q (I.lh _) a) (λ_ _ ⟨v,g,f,r,q⟩=>⟨v,g,f.fe,r,q⟩) λ_ _ z=>False.elim z
def PT.nh(h:PT X.nh e t):PT X e t:=λi s σ H Q I a=>
 SJ (h i s σ H Q (I.lh _) a) (λ_ _ ⟨g,f,q⟩=>⟨g,f.fe,q⟩) λ_ _ z=>False.elim z
def yG.nh{st:Yb Stmt}(h:yG X.nh st t):yG X st t:=λe s σ H D I a=>
 SJ (h e s σ H D (I.lh _) a) (λ_ _ q=>q.fe) λ_ _ z=>False.elim z
section
variable {st:Stmt}{rest:Yb Stmt}{t:TS}{u:TS}{e:Expr}{te:TE}{pos:Pos}
def AH:TS:=λD σ H=>D.nx σ H
def B7(t u:TS):TS:=λD σ H=>t { D with nx:=u D } σ H
def Aq:yG X [] AH:=λ_ _ σ H _ I h=>Vc ⟨σ,H,I,h⟩
def wu(i:PS X st t)(g:yG X rest u):yG X (st::rest) (B7 t u):=by
 intro e s σ H D I h;refine Xd<|c9 (i e s σ H { D with nx:=u D } I h) λf m q=>?_;cases f with
 |next=>
  obtain⟨a,l,j,q⟩:=q;exact g e m a l D j q
 |ret v=>exact q
 |brk=>exact q
 |cont=>exact q
def mC(a:PS X st t):yG X [st] t:=by
 intro e s σ H D I h;refine Xd<|c9 (a e s σ H D I h) λf g q=>?_;cases f with
 |next=>exact Vc q
 |ret v=>exact q
 |brk=>exact q
 |cont=>exact q
def Inv.quiet(I:Inv X Yi σ H s):interactive X.env=false:=by simp[interactive,I.ok.kind]
def xJ(a:TE):TS:=λD σ H=>a σ H λ_ H1=>D.nx σ H1
def HQ(he:PE X e te)(a:swapsWith e none pos.line X.env=pure false:=by rfl):PS X (.Expr e pos) (xJ te):=by
 intro g s σ H D I h;exact wpAny_Expr_any (c9 (he g s σ H _ I h) λv j ⟨x,H1,f,i,q1⟩=>⟨σ,H1,f,q1⟩) I.quiet a
def zm(a:TE):TS:=λD σ H=>a σ H D.rt
def lH(he:PE X e te):PS X (.Return (some e) pos) (zm te):=by
 intro g s σ H D I h;exact wpAny_Return_some<|c9 (he g s σ H _ I h) λv i ⟨x,H1,f,a,q1⟩=>⟨x,σ,H1,f,a,q1⟩
def Dh(c:TT)(t u:TS):TS:=λD σ H=>c σ H λb H1=>if b=true then t D σ H1 else u D σ H1
def Ku(l:PT X c tc)(i:yG X a t)(j:yG X b u):PS X (.If c a b pos) (Dh tc t u):=by
 intro e s σ H D I h;refine wpAny_If<|c9 (l e s σ H _ I h) λd f ⟨H1,g,q1⟩=>?_;cases d with
 |true=>exact i e f σ H1 D g q1
 |false=>exact j e f σ H1 D g q1
def DS:TS:=λ_ _ _=>False
def gG:yG X sts DS:=λ_ _ _ _ _ _ h=>h.elim
end
abbrev TG:=V->St->Hp->(St->Hp->Prop)->Prop
abbrev rF:=Yb V->St->Hp->(St->Hp->Prop)->Prop
def PG(X:Cx)(target:Expr)(t:TG):Prop:=
 ∀(e:Yg) (s:X5) (σ:St) (H:Hp) (v:V) (u:X3) (Q:St->Hp->Prop),Inv X e σ H s->RelV v u->t v σ H Q->
  wpAny (model X.prog X.w) X.A (assign target X.env u) (λ_ g=>∃a f,Inv X e a f g/\Q a f) X.xe s
def NH(X:Cx)(i:Yb Expr)(t:rF):Prop:=
 ∀(g:Yg) (s:X5) (σ:St) (H:Hp) (e:Yb V) (us:Yb X3) (Q:St->Hp->Prop),Inv X g σ H s->Vals e us->t e σ H Q->
  wpAny (model X.prog X.w) X.A (assignInOrder ((assignEach i X.env).map (·.2)) us) (λ_ h=>∃a f,Inv X g a f h/\Q a f) X.xe s
def eX(i:Nat):TG:=λv σ H Q=>Q (σ.set i<|some v) H
def pN(f:X.N.Nodup)(e:X.N[i]? =some x)(g:Loc X.env.scope x)(hf:X.fn x=true\/X.env.scope.names.lookup x=some .local:=by first|exact .inl rfl|exact .inr rfl|assumption):PG X (.Name x pos) (eX i):=by
 intro l s σ H v u Q I r h;exact wpAny_assign_Name<|j5 I f e g r (λj a=>⟨_,H,a,h⟩) hf
def NY:rF:=λa σ H Q=>a=[]/\Q σ H
inductive NO(t:TG)(u:rF)(vs:Yb V)(σ:St)(H:Hp)(Q:St->Hp->Prop):Prop
 |mk(v:V)(r:Yb V)(e:vs=v::r)(q:t v σ H λa H'=>u r a H' Q)
def Ka(t:TG)(u:rF):rF:=λa σ H Q=>NO t u a σ H Q
def Iv:NH X [] NY:=by
 intro g s σ H f a Q I r h;obtain⟨e,h⟩:=h;subst e;cases r;exact assignInOrder_nil ⟨σ,H,I,h⟩
def F8(l:PG X e t)(i:NH X es u)
  (o:(assignEach (e::es) X.env).map (·.2)=assign e X.env::(assignEach es X.env).map (·.2):=by rfl):NH X (e::es) (Ka t u):=by
 intro g s σ H q x Q I r h;obtain⟨v,w,p,h⟩:=h;subst p;cases r with
 |cons r m=>
  rw[o];refine assignInOrder_cons<|c9 (l g s σ H _ _ _ I r h) λ_ n a=>?_;obtain⟨f,H1,j,q1⟩:=a;exact i g n f H1 _ _ Q j m q1
inductive Qg(K:Frag)(n:Nat)(t:rF)(v:V)(σ:St)(H:Hp)(Q:St->Hp->Prop):Prop
 |mk(a:X4)(xs:Yb V)(f:v=.ref a)(s:fc K H a xs)(e:xs.length=n)(q:t xs σ H Q)
def Mp(K:Frag)(n:Nat)(t:rF):TG:=λv σ H Q=>Qg K n t v σ H Q
def FA(B:X.calm=true)(h:NH X es t)
  (z:(assignEach es X.env).length=n:=by rfl)(j:(assignEach es X.env).findIdx? (·.1)=none:=by rfl):PG X (.Tuple es k pos) (Mp X.K n t):=by
 intro i s σ H v u Q I r f;obtain⟨a,x,A,q,w,f⟩:=f;subst A;cases r;obtain⟨D,g,l,C⟩:=I.tuple q;refine assign_Tuple_tuple (I.ok.hd B) l (by simp[z,<-w,g.length]) j λp y=>?_;have m:Inv X i σ H { s with heap:=p }:=I.kept (t':=s.toks) λb o e=>y b o (Ss<|Sv e) e;exact h i _ σ H x _ Q m (by simpa using g) f
def wK(a:TE)(g:TG):TS:=λD σ H=>a σ H λx H1=>g x σ H1 D.nx
def LL(he:PE X e te)(m:PG X tg g)(p:swapsWithSole [tg] e pos.line X.env=pure false:=by rfl)(hw:swappedStores [tg] e X.env=pure none:=by rfl)
  (n:(assignEach [tg] X.env).map (·.2)=[assign tg X.env]:=by rfl):PS X (.Assign [tg] e pos) (wK te g):=by
 intro i s σ H D I h;refine wpAny_Assign_stores (c9 (he i s σ H _ I h) λv o f=>?_) p hw;obtain⟨x,H1,l,j,q1⟩:=f;rw[n];exact c9 (m i o σ H1 x v _ l j q1) λ_ q ⟨a,b,c,d⟩=>⟨a,b,c,d⟩
def MF(o:X.N.Nodup)(j:X.N[i]? =some x)(p:Loc X.env.scope x)(he:PE X e te)(l:swapsWith e (some<|.Name x Yy) pos.line X.env=pure false:=by rfl)(hf:X.fn x=true\/X.env.scope.names.lookup x=some .local:=by first|exact .inl rfl|exact .inr rfl|assumption):
  PS X (.Assign [.Name x Yy] e pos) (wK te<|eX i):=by
 intro n s σ H D I h;refine wpAny_Assign_Name (c9 (he n s σ H _ I h) λv r a=>?_) l;obtain⟨y,H1,m,g,q1⟩:=a;exact j5 m o j p g (λq f=>⟨_,H1,f,q1⟩) hf
def Eh(c:TT)(tb:TS):TS:=λD σ H=>∃W:Nat->St->Hp->Prop,(∃m,W m σ H)/\∀m σ H,W m σ H->
 c σ H λb H1=>if b=true then ∃N:St->Hp->Prop,(∀a e,N a e->∃f,f<m/\W f a e)/\tb { D with nx:=N,ct:=N,bk:=D.nx } σ H1 else D.nx σ H1
def FV(z:PassesOwn (model X.prog X.w) X.A X.env X.xe)(R:PT X c tc)(J:yG X body tb):PS X (.While c body [] pos) (Eh tc tb):=by
 intro q s σ H D I h;obtain⟨W,⟨O,P⟩,M⟩:=h;refine wpAny_While<|codeAny_whileLoop (λn F=>∃i C,Inv X q i C F/\W n i C) ?_ O ⟨σ,H,I,P⟩;rintro n Q ⟨e,H1,K,G⟩;refine UH z<|c9 (R q Q e H1 _ K<|M n e H1 G) λb L ⟨B,y,l⟩=>?_;cases b with
 |true=>
  obtain⟨N,E,l⟩:=l;rw[Sb rfl];refine UH z<|c9 (J q L e B _ y l) λf S j=>?_;cases f with
  |next=>
   obtain⟨a,g,p,o⟩:=j;obtain⟨r,x,m⟩:=E a g o;exact⟨r,x,a,g,p,m⟩
  |cont=>
   obtain⟨a,g,p,o⟩:=j;obtain⟨r,x,m⟩:=E a g o;exact⟨r,x,a,g,p,m⟩
  |brk=>exact j
  |ret v=>exact j
 |false=>
  rw[R7 bF0];exact Vc ⟨e,B,y,l⟩
structure It where
 go:Nat->Hp->Prop
 yld:Nat->Hp->V->Hp->Prop
 stop:Nat->Hp->Prop
def oE(X:Cx)(a:Yg)(H:Hp)(b:X4):Prop:=
 H b=none/\b≠X.env.locals/\b ∉ X.fs/\(b∈X.ex\/X.s₀.heap.objs.size<=b)/\(∀x c,X.env.cells.lookup x=some c->c≠b)/\∀p∈X.pn++a,p.1≠b
def Inv.u5(I:Inv X Yi σ H s)(a:s.heap.objs.size<=b)(g:H' b=none):oE X Yi H' b:=by
 refine⟨g,VH<|SA I.lt a,I.QU a,.inr<|SF I.sz a,λx c e z=>?_,λp f z=>?_⟩
 ·obtain⟨v,q⟩:=I.cell x c e
  exact absurd (SA q.lt<|by rw[z];exact a)<|VA _
 ·exact absurd (SA (Sv (I.pin p f).1)<|by rw[z];exact a)<|VA _
structure Turn(P:X6)(w:X7)(K:Frag)(tg:Expr)(J:It)(fp:Yb X4)(it:X4)(tn:Nat->Heap->Prop):Prop where
 mem:it∈fp
 obj:∀i h,tn i h->∀b∈fp,∃o,h.get? b=some o/\∀v,o.data≠.cell v
 keep:∀i h h',tn i h->(∀b∈fp,∀o,h.get? b=some o->h'.get? b=some o)->tn i h'
 item:∀(X:Cx),X.prog=P->X.w=w->X.K=K->X.calm=true->∀(i:Nat) (Yi:Yg) (s:X5) (σ:St) (H:Hp) (E:Yd),Inv X Yi σ H s->(∀b∈fp,oE X Yi H b)->tn i s.heap->J.go i H->
  wpAny (model P w) X.A (pyNext (.ref it)) (λr s1=>∃u,r=some u/\
   wpAny (model P w) X.A (letOwnedTupleGo tg (.ref it) u) (λ_ s2=>∃x H',Inv X Yi σ H' s2/\RelV x u/\J.yld i H x H'/\tn (i+1) s2.heap/\∀b∈fp,H' b=none) E s1) E s
 done:∀(X:Cx),X.prog=P->X.w=w->X.K=K->X.calm=true->∀(i:Nat) (Yi:Yg) (s:X5) (σ:St) (H:Hp) (E:Yd),Inv X Yi σ H s->(∀b∈fp,oE X Yi H b)->tn i s.heap->J.stop i H->
  wpAny (model P w) X.A (pyNext (.ref it)) (λr s1=>r=none/\Inv X Yi σ H s1) E s
 self:∀(A:X9) (i:Nat) (s:X5) (Q:Yd) (E:Yd),tn i s.heap->Q (.ref it) s->wpAny (model P w) A (pyIter (.ref it)) Q E s
abbrev TI:=St->Hp->(It->Hp->Prop)->Prop
def Nu(X:Cx)(h:Yg)(σ:St)(tg:Expr)(R:It->Hp->Prop)(a:X3)(s2:X5):Prop:=
 ∃(it:X4) (g:Yb X4) (f:Nat->Heap->Prop) (J:It) (e:Hp),a=.ref it/\Inv X h σ e s2/\Turn X.prog X.w X.K tg J g it f/\f 0 s2.heap/\(∀b∈g,oE X h e b)/\R J e
def PI(X:Cx)(tg iter:Expr)(e:TI):Prop:=
 ∀(a:Yg) (s:X5) (σ:St) (H:Hp) (R:It->Hp->Prop),Inv X a σ H s->e σ H R->
  wpAny (model X.prog X.w) X.A (eval iter X.env) (λv f=>wpAny (model X.prog X.w) X.A (pyIter v) (Nu X a σ tg R) X.xe f) X.xe s
def sO(f:s.heap.get? it=some o)(e:o.cls=.type n)(hd:o.data=.fields vs)
  (g:["enumerate","zip","dict_itemiterator","dict_reverseitemiterator","odict_iterator","itertools.zip_longest","itertools.pairwise"].contains n=false) (a:Q () s):wpAny M A (letOwnedTupleGo tg (.ref it) u) Q E s:=by
 unfold letOwnedTupleGo;cases tg<;>first
  |exact RZ a
  | (cases u<;>first
    |exact RZ a
    | (refine RX (wpAny_load f ?_)
       rw[e,hd];show wpAny M A (if(["enumerate","zip","dict_itemiterator","dict_reverseitemiterator","odict_iterator","itertools.zip_longest","itertools.pairwise"].contains n&&vs[0]? == some (rawInt _))=true then _ else _) Q E s;rw[R7<|by grind];exact RZ a))
def GQ(K:Frag)(a:X4):It:=
 ⟨λi H=>∃e x,cP K H a e/\e[i]? =some x,λi H x f=>f=H/\∀e,cP K H a e->e[i]? =some x,λi H=>∃e,cP K H a e/\e.length<=i⟩
def QA(K:Frag)(a:X4):It:=
 ⟨λi H=>∃e x,fc K H a e/\e[i]? =some x,λi H x f=>f=H/\∀e,fc K H a e->e[i]? =some x,λi H=>∃e,fc K H a e/\e.length<=i⟩
def HN(lo:Int)(n:Nat):It:=⟨λi _=>i<n,λi H x a=>a=H/\x=.int (lo+i),λi _=>n<=i⟩
def CD{P:X6}{w:X7}{K:Frag}{tg:Expr}(a it:X4):Turn P w K tg (GQ K a) [it] it (λi h=>h.IsListIter it a i) where
 mem:=by simp
 obj:=λi h f b g=>by
  have e:b=it:=by simpa using g
  subst e;obtain⟨o,e,c,d⟩:=f;exact⟨o,e,λv z=>by rw[d]at z;cases z⟩
 keep:=λi h j f k=>f.at λo e=>k it (by simp) o e
 item:=by
  intro X G B y N i M s σ H E I m f n;subst G B y;obtain⟨T,x,l,D⟩:=n;obtain⟨Y,A,p,R⟩:=I.list l;obtain⟨u,U,Z⟩:=A.get D;obtain⟨q,r,W,J,F,C⟩:=m it (by simp);refine wpAny_pyNext_list_item f p.isList (by simpa using U) λj L sb=>?_;have O:Inv X M σ H { s with heap:=j }:=I.turned (t':=s.toks) (λb o g e=>(sb.2 b g).trans e) q r J F C;obtain⟨o,e,c,d⟩:=id L;exact⟨u,rfl,sO (s:={ s with heap:=j }) e c d (by decide) ⟨x,H,O,Z,⟨rfl,λys S=>by rw[I.yC S l];exact D⟩,L,λb g=>(m b g).1⟩⟩
 done:=by
  intro X G B y N i M s σ H E I m f n;subst G B y;obtain⟨T,l,D⟩:=n;obtain⟨Y,A,p,R⟩:=I.list l;obtain⟨q,r,W,J,F,C⟩:=m it (by simp);have hl:=A.length;exact wpAny_pyNext_list_end (I.ok.hd N) f p.isList (by simp;lia) λj Q=>⟨rfl,I.turned (t':=s.toks) (λb o g e=>Q b o g e) q r J F C⟩
 self:=λ_ _ _ _ _ f h=>wpAny_pyIter_listiter f h
def zR{P:X6}{w:X7}{K:Frag}{tg:Expr}(a it:X4):Turn P w K tg (QA K a) [it] it (λi h=>h.IsTupleIter it a i) where
 mem:=by simp
 obj:=λi h f b g=>by
  have e:b=it:=by simpa using g
  subst e;obtain⟨o,e,c,d⟩:=f;exact⟨o,e,λv z=>by rw[d]at z;cases z⟩
 keep:=λi h j f k=>f.at λo e=>k it (by simp) o e
 item:=by
  intro X J B y O i N s σ H E I m f n;subst J B y;obtain⟨U,x,l,D⟩:=n;obtain⟨F,A,p,S⟩:=I.tuple l;obtain⟨u,W,Z⟩:=A.get D;obtain⟨q,r,Y,L,G,C⟩:=m it (by simp);refine wpAny_pyNext_tuple_item f (show s.heap.IsTuple a F.toArray from p) (by simpa using W) λj M sb=>?_;have Q:Inv X N σ H { s with heap:=j }:=I.turned (t':=s.toks) (λb o g e=>(sb.2 b g).trans e) q r L G C;obtain⟨o,e,c,d⟩:=id M;exact⟨u,rfl,sO (s:={ s with heap:=j }) e c d (by decide) ⟨x,H,Q,Z,⟨rfl,λys T=>by rw[I.BV T l];exact D⟩,M,λb g=>(m b g).1⟩⟩
 done:=by
  intro X J B y O i N s σ H E I m f n;subst J B y;obtain⟨U,l,D⟩:=n;obtain⟨F,A,p,S⟩:=I.tuple l;obtain⟨q,r,Y,L,G,C⟩:=m it (by simp);have hl:=A.length;exact wpAny_pyNext_tuple_end (I.ok.hd O) f (show s.heap.IsTuple a F.toArray from p) (by simp;lia) λj R=>⟨rfl,I.turned (t':=s.toks) (λb o g e=>R b o g e) q r L G C⟩
 self:=λ_ _ _ _ _ f h=>wpAny_pyIter_tupleiter f h
def y9{P:X6}{w:X7}{K:Frag}{tg:Expr}(it:X4)(lo:Int)(n:Nat):Turn P w K tg (HN lo n) [it] it (λi h=>IsRangeIter h it (lo+(i:Nat)*1) ((n:Int)-(i:Nat)) 1) where
 mem:=by simp
 obj:=λi h a b f=>by
  have e:b=it:=by simpa using f
  subst e;exact⟨_,a,λv z=>by
   have J:=z;cases J⟩
 keep:=λi h g a k=>k it (by simp) _ a
 item:=by
  intro X A r q C i G s σ H E I j a l;subst A r q;obtain⟨m,p,O,B,y,x⟩:=j it (by simp);have W:=Walks.range (prog:=X.prog) (w:=X.w) (I.ok.hd C) it lo 1 n;refine W.item i s _ _ l a λv g D Q F M=>?_;obtain⟨t,rfl⟩:=Q;have L:Inv X G σ H { s with heap:=g,toks:=D }:=I.turned (λb o f e=>M b o (by simpa using f) e) m p B y x;refine⟨_,rfl,sO (s:={ s with heap:=g,toks:=D }) (n:= "range_iterator") F rfl rfl (by decide) ⟨.int<|lo+i,H,L,⟨t,?_⟩,⟨rfl,rfl⟩,F,λb f=>(j b f).1⟩⟩;rw[Int.mul_one]
 done:=by
  intro X A r q C i G s σ H E I j a l;subst A r q;obtain⟨m,p,O,B,y,x⟩:=j it (by simp);exact wpAny_pyNext_range_end (I.ok.hd C) a (by have:n<=i:=l;lia) λg N=>⟨rfl,I.turned (t':=s.toks) (λb o f e=>N b o f e) m p B y x⟩
 self:=λ_ _ _ _ _ a h=>wpAny_pyIter_rangeiter a h
inductive Mb(K:Frag)(x:V)(H:Hp)(R:It->Hp->Prop):Prop
 |mk(a:X4)(e:x=.ref a)(s:∃xs,cP K H a xs)(q:R (GQ K a) H)
def J9(K:Frag)(a:TE):TI:=λσ H R=>a σ H λx H1=>Mb K x H1 R
def Pk(K:Frag)(e:TE):TI:=λσ H R=>e σ H λx H1=>∃a,x=.ref a/\(∃f,fc K H1 a f)/\R (QA K a) H1
def HK(r:PE X l tl):PI X tg l (J9 X.K tl):=by
 intro w s σ H R I h;refine c9 (r w s σ H _ I h) λv i f=>?_;obtain⟨x,H1,g,j,q1⟩:=f;obtain⟨a,e,⟨A,n⟩,q⟩:=q1;subst e;cases j;obtain⟨B,y,p,z⟩:=g.list n;refine Vu p.isList ⟨i.heap.objs.size,[i.heap.objs.size],_,_,H1,rfl,g.kept (t':=i.toks) λb o e=>R6 _ e,CD a _,⟨_,Sl _ rfl,rfl,rfl⟩,λb m=>?_,q⟩;have e:b=i.heap.objs.size:=by simpa using m
 subst e;exact g.u5 (R9 _)<|g.hok.fresh<|R9 _
def y6(r:PE X l tl):PI X tg l (Pk X.K tl):=by
 intro w s σ H R I h;refine c9 (r w s σ H _ I h) λv f g=>?_;obtain⟨x,H1,i,j,q1⟩:=g;obtain⟨a,e,⟨B,n⟩,q⟩:=q1;subst e;cases j;obtain⟨y,z,p,A⟩:=i.tuple n;refine wpAny_pyIter_tuple (show f.heap.IsTuple a y.toArray from p) ⟨f.heap.objs.size,[f.heap.objs.size],_,_,H1,rfl,i.kept (t':=f.toks) λb o e=>R6 _ e,zR a _,⟨_,Sl _ rfl,rfl,rfl⟩,λb m=>?_,q⟩;have e:b=f.heap.objs.size:=by simpa using m
 subst e;exact i.u5 (R9 _)<|i.hok.fresh<|R9 _
def wx{lo a:Int}{t u v:Tok}{f:Nat}(I:Inv X Yi σ H s)(l: -(2^62)<=lo)(i:lo<2^62)(m: -(2^62)<=a)(j:a<2^62)
  (q:R (HN lo (a-lo).toNat) H):wpAny (model X.prog X.w) X.A (pyIter<|.ref s.heap.objs.size) (Nu X Yi σ tg R) E { s with heap:=s.heap.push { cls:=.type "range",data:=.fields #[.int lo t,.int a u,.int 1 v] },toks:=f }:=by
 refine wpAny_pyIter_range (IsRange.new ..) (small_one l i m j) ?_;have g:Inv X Yi σ H { s with heap:=s.heap.push { cls:=.type "range",data:=.fields #[.int lo t,.int a u,.int 1 v] },toks:=f }:=I.kept λb o e=>R6 _ e;refine⟨(s.heap.push { cls:=.type "range",data:=.fields #[.int lo t,.int a u,.int 1 v] }).objs.size,[(s.heap.push { cls:=.type "range",data:=.fields #[.int lo t,.int a u,.int 1 v] }).objs.size],_,_,H,rfl,
  g.kept (t':=f) λb o e=>R6 _ e,y9 _ lo (a-lo).toNat,?_,λb n=>?_,q⟩
 ·have h:lo+((0:Nat):Int)*1=lo:=by simp
  have p:(((a-lo).toNat:Nat):Int)-((0:Nat):Int)=Builtin.Range.rangeSize lo a 1:=by rw[rangeSize_one];split<;>lia
  show IsRangeIter _ _ (lo+((0:Nat):Int)*1) ((((a-lo).toNat:Nat):Int)-((0:Nat):Int)) 1;rw[h,p];exact Sl _ rfl
 ·have e:b=(s.heap.push { cls:=.type "range",data:=.fields #[.int lo t,.int a u,.int 1 v] }).objs.size:=by simpa using n
  subst e;exact g.u5 (R9 _)<|g.hok.fresh<|R9 _
def Js(ta:TA):TI:=λσ H R=>ta σ H λa H1=>∃j:Int,a=[.int j]/\ -(2^62)<=j/\j<2^62/\R (HN 0 j.toNat) H1
def J5(ta:TA):TI:=λσ H R=>ta σ H λa H1=>∃i j:Int,a=[.int i,.int j]/\(-(2^62)<=i/\i<2^62/\ -(2^62)<=j/\j<2^62)/\R (HN i (j-i).toNat) H1
def Dp {p pos:Pos}(i:Gl X "range") (hm:X.mg "range" =none) (v:PA X [a] ta) (n:starEach [a] X.env=[(false,eval a X.env)]:=by rfl):PI X tg (.Call (.Name "range" p) [a] [] pos) (Js ta):=by
 intro o s σ H R I h;refine Call_<|jj I i hm boot_range<|TN (c9 (v pos o s σ H _ I h) λz y f=>?_) n rfl;obtain⟨x,H1,l,g,q1⟩:=f;obtain⟨j,e,q1,w,q⟩:=q1;subst e;cases g with
 |cons r m=>
  cases m;obtain⟨t,rfl⟩:=r;exact call_range_1 (wx l (by lia) (by lia) q1 w<|by simpa using q)
def kK (o:Gl X "range") (hm:X.mg "range" =none) (A:PA X [a,b] ta) (y:starEach [a,b] X.env=[(false,eval a X.env),(false,eval b X.env)]:=by rfl) (l:starEach [b] X.env=[(false,eval b X.env)]:=by rfl):
  PI X tg (.Call (.Name "range" p) [a,b] [] pos) (J5 ta):=by
 intro z s σ H R I h;refine Call_ (jj I o hm boot_range<|TN (c9 (A pos z s σ H _ I h) λF E f=>?_) (by rw[y,l])<|by rw[l];rfl);obtain⟨D,H1,v,n,q1⟩:=f;obtain⟨i,j,e,⟨q1,B,w,x⟩,q⟩:=q1;subst e;cases n with
 |cons r g=>
  cases g with
  |cons m g=>
   cases g;obtain⟨t,rfl⟩:=r;obtain⟨C,rfl⟩:=m;exact call_range_2<|wx v q1 B w x q
def ON(j:TI)(g:TG)(tb:TS):TS:=λD σ H=>j σ H λJ H1=>∃W:Nat->Nat->St->Hp->Prop,(∃m,W 0 m σ H1)/\∀i m σ H,W i m σ H->
 (J.stop i H/\D.nx σ H)\/(J.go i H/\∃N:St->Hp->Prop,(∀e a,N e a->∃h,h<m/\W (i+1) h e a)/\∀x a,J.yld i H x a->g x σ a λf l=>tb { D with nx:=N,ct:=N,bk:=D.nx } f l)
def vG(fp:Yb X4)(h:Heap):Yg:=fp.filterMap λb=>(h.get? b).map λo=>(b,o)
def fq(a:b∈fp)(e:h.get? b=some o):(b,o)∈vG fp h:=UI.mpr ⟨b,a,by rw[e];rfl⟩
def Cn(a:p∈vG fp h):p.1∈fp/\h.get? p.1=some p.2:=by
 obtain⟨b,f,e⟩:=UI.mp a;cases q:h.get? b with
 |none=>grind
 |some o=>grind
def Inv.pinned(I:Inv X Yi σ H s)(hf:∀b∈fp,oE X Yi H b)(i:∀b∈fp,∃o,s.heap.get? b=some o/\∀v,o.data≠.cell v):Inv X (Yi++vG fp s.heap) σ H s:=
 I.AJ λp h=>(Sz.mp h).elim (λz=>I.pin p<|Sg _ z) λz=>by
  obtain⟨a,e⟩:=Cn z;obtain⟨l,j,g,_⟩:=hf p.1 a;obtain⟨o,f,d⟩:=i p.1 a;rw[e]at f;cases f;exact⟨e,l,j,g,d⟩
def Inv.iI(I:Inv X (Yi++pl) σ H s):Inv X Yi σ H s:=I.AJ λp a=>I.pin p<|Sg _<|SM _ a
def LQ(P:PassesOwn (model X.prog X.w) X.A X.env X.xe)(hc:X.calm=true)(hi:PI X tg iter wi)(hg:PG X tg g)(l:yG X body tb)
  (hs:∀x,foldedSetIterable iter X.env x=pure x:=by intro _;rfl):PS X (.For tg iter body [] pos) (ON wi g tb):=by
 intro G s σ H D I h;refine wpAny_For (c9 (hi G s σ H _ I h) λv s1 h1=>c9 h1 λab s2 h2=>?_) hs;obtain⟨it,L,tn,J,H2,e,I2,T,YE,f2,W,⟨m0,w0⟩,YW⟩:=h2;subst e;have p:∀{C:Hp},(∀b∈L,C b=none)->∀b∈L,oE X G C b:=λhn b l=>⟨hn b l,(f2 b l).2⟩;refine codeAny_forLoop_any (λn s'=>∃i B C,Inv X G B C s'/\tn i s'.heap/\(∀b∈L,C b=none)/\W i n B C) ?_ m0 ⟨0,σ,H2,I2,YE,λb l=>(f2 b l).1,w0⟩;rintro n s3 ⟨i,j,Q,I3,M,O,w3⟩;obtain ⟨stop,qn⟩|⟨go,N,hN,step⟩:=YW i n j Q w3
 ·refine UH P (c9 (T.done X rfl rfl rfl hc i G s3 j Q X.xe I3 (p O) M stop) λr s4 ⟨hr,I4⟩=>?_)
  subst hr;exact Vc ⟨j,Q,I4,qn⟩
 ·refine UH P (c9 (T.item X rfl rfl rfl hc i G s3 j Q X.xe I3 (p O) M go) λr s4 ⟨u,hr,h4⟩=>?_)
  subst hr;refine UH P<|c9 h4 λ_ s5 y=>?_;obtain⟨x,Z,I5,r5,y5,F,S⟩:=y;have Y:=I5.pinned (p S)<|T.obj _ _ F;refine UH P<|c9 (hg _ s5 j Z x u _ Y r5<|step x Z y5) λ_ s6 y=>?_;obtain⟨U,H6,I6,q6⟩:=y;refine UH P<|c9 (l _ s6 U H6 _ I6 q6) λf R E=>?_;have again:∀{a:St}{q:Hp},Inv X (G++vG L s5.heap) a q R->N a q->∃m,m<n/\∃i B C,Inv X G B C R/\tn i R.heap/\(∀b∈L,C b=none)/\W i m B C:=λ{a q} z K=>by
   obtain⟨m',hm,w7⟩:=hN a q K;refine⟨m',hm,i+1,a,q,z.iI,T.keep _ _ _ F λb l o e=>(z.pin (b,o)<|Sg _<|Sg _<|fq l e).1,λb l=>?_,w7⟩;obtain⟨o,e,d⟩:=T.obj _ _ F b l;exact(z.pin (b,o)<|Sg _<|Sg _<|fq l e).2.1
  cases f with
  |next=>obtain⟨a,q,z,K⟩:=E;exact again z K
  |cont=>obtain⟨a,q,z,K⟩:=E;exact again z K
  |brk=>obtain⟨a,q,z,E⟩:=E;exact⟨a,q,z.iI,E⟩
  |ret v=>obtain⟨x7,a,q,z,r7,E⟩:=E;exact⟨x7,a,q,z.iI,r7,E⟩
def dw{K:Frag}{a:X4}{xs:Yb V}{g:TG}{tb:TS}{D:Ends}{σ:St}{H:Hp}(Pv:Nat->St->Hp->Prop)(h0:Pv 0 σ H)(o:∀i σ H,i<=xs.length->Pv i σ H->cP K H a xs)
  (r:∀i x σ H,xs[i]? =some x->Pv i σ H->g x σ H λh l=>tb { D with nx:=Pv<|i+1,ct:=Pv<|i+1,bk:=D.nx } h l)(hd:∀σ H,Pv xs.length σ H->D.nx σ H):
  ∃W:Nat->Nat->St->Hp->Prop,(∃m,W 0 m σ H)/\∀i m σ H,W i m σ H->
   ((GQ K a).stop i H/\D.nx σ H)\/((GQ K a).go i H/\∃N:St->Hp->Prop,(∀f H',N f H'->∃n,n<m/\W (i+1) n f H')/\∀x H',(GQ K a).yld i H x H'->g x σ H' λh l=>tb { D with nx:=N,ct:=N,bk:=D.nx } h l):=by
 refine⟨λi m σ H=>m=xs.length-i/\i<=xs.length/\Pv i σ H,⟨xs.length,by simp,Tq _,h0⟩,?_⟩;rintro i m σ H ⟨rfl,s,p⟩;have q:=o i σ H s p;by_cases j:i<xs.length
 ·refine .inr ⟨⟨xs,xs[i],q,by simp[j]⟩,Pv<|i+1,λf H' v=>⟨xs.length-(i+1),by lia,rfl,j,v⟩,λx H' y=>?_⟩
  obtain⟨e,y⟩:=y;subst e;exact r i x σ _ (y xs q) p
 ·have e:i=xs.length:=by lia
  subst e;exact .inl ⟨⟨xs,q,R9 _⟩,hd σ H p⟩
def iB{lo:Int}{n:Nat}{g:TG}{tb:TS}{D:Ends}{σ:St}{H:Hp}(Pv:Nat->St->Hp->Prop)(h0:Pv 0 σ H)
  (q:∀i σ H,i<n->Pv i σ H->g (.int<|lo+i) σ H λf j=>tb { D with nx:=Pv<|i+1,ct:=Pv<|i+1,bk:=D.nx } f j)(hd:∀σ H,Pv n σ H->D.nx σ H):
  ∃W:Nat->Nat->St->Hp->Prop,(∃m,W 0 m σ H)/\∀i m σ H,W i m σ H->
   ((HN lo n).stop i H/\D.nx σ H)\/((HN lo n).go i H/\∃N:St->Hp->Prop,(∀h H',N h H'->∃l,l<m/\W (i+1) l h H')/\∀x H',(HN lo n).yld i H x H'->g x σ H' λf j=>tb { D with nx:=N,ct:=N,bk:=D.nx } f j):=by
 refine⟨λi m σ H=>m=n-i/\i<=n/\Pv i σ H,⟨n,by simp,Tq _,h0⟩,?_⟩;rintro i m σ H ⟨rfl,r,p⟩;by_cases a:i<n
 ·refine .inr ⟨a,Pv<|i+1,λh H' o=>⟨n-(i+1),by lia,rfl,a,o⟩,λx H' y=>?_⟩
  obtain⟨e,y⟩:=y;subst e y;exact q i σ _ a p
 ·have e:i=n:=by lia
  subst e;exact .inl ⟨R9 _,hd σ H p⟩
abbrev R2:=V->V->Hp->VK->Prop
def iU(X:Cx)(f:X3->X3->Sem X3)(r:R2):Prop:=
 ∀(a:Yg) (s:X5) (σ:St) (H:Hp) (x y:V) (v u:X3) (Q:VK),Inv X a σ H s->RelV x v->RelV y u->r x y H Q->
  wpAny (model X.prog X.w) X.A (f v u) (EP X a σ Q) X.xe s
def PF(X:Cx)(f:X3->Sem X3)(r:V->Hp->VK->Prop):Prop:=
 ∀(a:Yg) (s:X5) (σ:St) (H:Hp) (x:V) (v:X3) (Q:VK),Inv X a σ H s->RelV x v->r x H Q->
  wpAny (model X.prog X.w) X.A (f v) (EP X a σ Q) X.xe s
def eW(X:Cx)(f:X3)(r:Yb V->Hp->VK->Prop):Prop:=
 ∀(a:Yg) (s:X5) (σ:St) (H:Hp) (xs:Yb V) (us:Yb X3) (Q:VK),Inv X a σ H s->Vals xs us->r xs H Q->
  wpAny (model X.prog X.w) X.A (call f us) (EP X a σ Q) X.xe s
def yM(r:R2)(ta tb:TE):TE:=λσ H Q=>ta σ H λx H1=>tb σ H1 λy a=>r x y a Q
def PB(r:V->Hp->VK->Prop)(ta:TE):TE:=λσ H Q=>ta σ H λx H1=>r x H1 Q
inductive QT(C:Int->Int->Prop)(g:Int->Int->V)(x y:V)(H:Hp)(Q:VK):Prop
 |mk(i j:Int)(a:x=.int i)(e:y=.int j)(c:C i j)(q:Q (g i j) H)
inductive NP(g:Int->Int->V)(x y:V)(H:Hp)(Q:VK):Prop
 |mk(i j:Int)(e:x=.int i)(a:y=.int j)(q:Q (g i j) H)
def rI(C:Int->Int->Prop)(g:Int->Int->V):R2:=λx y H Q=>QT C g x y H Q
def yI(g:Int->Int->V):R2:=λx y H Q=>NP g x y H Q
def rU(g:Int->V):V->Hp->VK->Prop:=λx H Q=>∃i,x=.int i/\Q (g i) H
def My(z:PE X a ta)(n:PE X b tb){H:Hp}{R:V->V->Hp->Prop}(I:Inv X Yi σ H s)
  (h:ta σ H λx H1=>tb σ H1 λy g=>R x y g){Q:Yd}{f:X3->X3->Sem X3}
  (hf:∀v u l x y g,Inv X Yi σ g l->RelV x v->RelV y u->R x y g->wpAny (model X.prog X.w) X.A (f v u) Q X.xe l):
  wpAny (model X.prog X.w) X.A (eval a X.env) (λv j=>wpAny (model X.prog X.w) X.A (eval b X.env) (λu i=>wpAny (model X.prog X.w) X.A (f v u) Q X.xe i) X.xe j) X.xe s:=by
 refine c9 (z Yi s σ H _ I h) λv q e=>?_;obtain⟨x,H1,o,m,q1⟩:=e;refine c9 (n Yi q σ H1 _ o q1) λu l e=>?_;obtain⟨y,g,p,r,B⟩:=e;exact hf v u l x y g p m r B
def Jp{r:R2}(f:iU X (binaryOp op) r)(i:PE X a ta)(l:PE X b tb):PE X (.BinOp a op b pos) (yM r ta tb):=by
 intro o s σ H Q I h;exact wpAny_BinOp<|My i l I h λv u g x y e n m j q=>f o g σ e x y v u Q n m j q
def xX(f:PF X (unaryOp op) r)(g:PE X a ta):PE X (.UnaryOp op a pos) (PB r ta):=by
 intro e s σ H Q I h;exact UnaryOp_<|c9 (g e s σ H _ I h) λv j ⟨x,H1,l,i,q1⟩=>f e j σ H1 x v Q l i q1
def Py{g:Int->Int->Int}
  (rule:∀(i j:Int)(t u:Tok)(s:X5)(Q:Yd)(E:Yd),C i j->Q (.int (g i j) s.toks) { s with toks:=s.toks+1 }->wpAny (model X.prog X.w) X.A (f (.int i t)<|.int j u) Q E s):
  iU X f (rI C λi j=>.int<|g i j):=by
 intro n s σ H x y v u Q I e l h;obtain⟨i,j,rfl,rfl,m,q⟩:=h;obtain⟨t,rfl⟩:=e;obtain⟨a,rfl⟩:=l;exact rule i j t a s _ _ m ⟨.int<|g i j,H,I.tok _,⟨_,rfl⟩,q⟩
def Ow{g:Int->Int->Int}
  (rule:∀(i j:Int)(t u:Tok)(s:X5)(Q:Yd)(E:Yd),Q (.int (g i j) s.toks) { s with toks:=s.toks+1 }->wpAny (model X.prog X.w) X.A (f (.int i t)<|.int j u) Q E s):
  iU X f (yI λi j=>.int<|g i j):=by
 intro m s σ H x y v u Q I e l h;obtain⟨i,j,rfl,rfl,q⟩:=h;obtain⟨t,rfl⟩:=e;obtain⟨a,rfl⟩:=l;exact rule i j t a s _ _ ⟨.int<|g i j,H,I.tok _,⟨_,rfl⟩,q⟩
def Jn{g:Int->Int->Bool}
  (rule:∀(i j:Int)(t u:Tok)(s:X5)(Q:Yd)(E:Yd),Q (.bool<|g i j) s->wpAny (model X.prog X.w) X.A (f (.int i t)<|.int j u) Q E s):
  iU X f (yI λi j=>.bl<|g i j):=by
 intro m s σ H x y v u Q I e l h;obtain⟨i,j,rfl,rfl,q⟩:=h;obtain⟨t,rfl⟩:=e;obtain⟨a,rfl⟩:=l;exact rule i j t a s _ _ ⟨.bl<|g i j,H,I,rfl,q⟩
def NQ(i j:Int):Prop:=0<j/\j<1073741824
def N2(i j:Int):Prop:=0<=j/\j<=1000000/\i.natAbs<2^64
def Ik(i j:Int):Prop:=(-(2^64)<i/\i<2^64)\/(-(2^64)<j/\j<2^64)
def Ik.ok(h:Ik i j):IntMulOk i j:=by
 obtain ⟨a,e⟩|⟨a,e⟩:=h
 ·exact .of_left<|intBits_le_64 a e
 ·exact .of_right<|intBits_le_64 a e
def LN:iU X (binaryOp .Add) (yI λi j=>.int<|i+j):=Ow λ_ _ _ _ _ _ _ q=>add_int q
def p5:iU X (binaryOp .Sub) (yI λi j=>.int<|i-j):=Ow λ_ _ _ _ _ _ _ q=>sub_int q
def KL:iU X (binaryOp .Mult) (rI Ik λi j=>.int<|i*j):=Py λ_ _ _ _ _ _ _ a q=>mul_int q a.ok
def IX:iU X (binaryOp .FloorDiv) (rI NQ λi j=>.int<|i / j):=Py λi j _ _ _ _ _ a q=>by
 have f:=a.1;have e:=a.2;exact floordiv_int (by lia) (by grind) (.inl<|PyProof.noPylong_small<|by lia)
def KZ:iU X (binaryOp .Mod) (rI (λ_ j=>0<j) λi j=>.int<|i%j):=Py λi j _ _ _ _ _ a q=>by
 exact mod_int' (by lia) (by grind)
def ou:iU X (binaryOp .Pow) (rI N2 λi j=>.int<|i^j.toNat):=Py λ_ _ _ _ _ _ _ a q=>pow_int_small a.1 a.2.1 a.2.2 q
def RE{g:Int->Int}
  (rule:∀(i:Int)(t:Tok)(s:X5)(Q:Yd)(E:Yd),Q (.int (g i) s.toks) { s with toks:=s.toks+1 }->wpAny (model X.prog X.w) X.A (f<|.int i t) Q E s):
  PF X f (rU λi=>.int<|g i):=by
 intro e s σ H x v Q I a h;obtain⟨i,rfl,q⟩:=h;obtain⟨t,rfl⟩:=a;exact rule i t s _ _ ⟨.int<|g i,H,I.tok _,⟨_,rfl⟩,q⟩
def qy:PF X (unaryOp .USub) (rU λi=>.int<|-i):=RE λ_ _ _ _ _ q=>neg_int q
def OF:V->V->Bool
 |.non,.non=>true|.non,.int _=>true|.int _,.non=>true|.non,.bl _=>true|.bl _,.non=>true|.non,.str _=>true|.str _,.non=>true
 |.int _,.int _=>true|.bl _,.bl _=>true|.str _,.str _=>true|.byt _,.byt _=>true
 |.int _,.str _=>true|.str _,.int _=>true|.bl _,.str _=>true|.str _,.bl _=>true
 |_,_=>false
def Qu:R2:=λx y H Q=>OF x y=true/\Q (.bl<|decide<|x=y) H
def Ro:R2:=λx y H Q=>OF x y=true/\Q (.bl<|!decide (x=y)) H
def Bb:decide (V.int i=V.int j)=(i==j):=by grind
def EI:decide (V.bl i=V.bl j)=(i==j):=by grind
def Ax:decide (V.str i=V.str j)=(i==j):=by grind
def BH:decide (V.byt i=V.byt j)=(i.toList==j.toList):=by
 rw[VB];cases i;cases j;simp
def c6(I:Inv X Yi σ H s)(q:Q (.bl k) H)(e:k=k'):EP X Yi σ Q (.bool k') s:=by
 subst e;exact⟨.bl k,H,I,rfl,q⟩
def J0:iU X (compareOp .Eq) Qu:=by
 intro l s σ H x y v u Q I g a h;obtain⟨f,q⟩:=h;cases x with
 |non=>
  cases g;cases y with
  |non=>cases a;exact PySem.EqNone.eq_none_none (c6 I q<|by simp)
  |bl j=>cases a;exact PySem.EqNone.eq_none_bool (c6 I q<|by simp)
  |int j=>obtain⟨e,rfl⟩:=a;exact PySem.EqNone.eq_none_int (c6 I q<|by simp)
  |str j=>obtain⟨e,rfl⟩:=a;exact PySem.EqNone.eq_none_str (c6 I q<|by simp)
  |_=>exact absurd (show false=true from f) bF0
 |bl i=>
  cases g;cases y with
  |non=>cases a;exact PySem.EqNone.eq_bool_none (c6 I q<|by simp)
  |bl j=>cases a;exact eq_bool<|c6 I q EI
  |str j=>obtain⟨e,rfl⟩:=a;exact PySem.EqMixed.eq_bool_str (c6 I q<|by simp)
  |_=>exact absurd (show false=true from f) bF0
 |int i=>
  obtain⟨t,rfl⟩:=g;cases y with
  |non=>cases a;exact PySem.EqNone.eq_int_none (c6 I q<|by simp)
  |int j=>obtain⟨e,rfl⟩:=a;exact eq_int<|c6 I q Bb
  |str j=>obtain⟨e,rfl⟩:=a;exact PySem.EqMixed.eq_int_str (c6 I q<|by simp)
  |_=>exact absurd (show false=true from f) bF0
 |str i=>
  obtain⟨t,rfl⟩:=g;cases y with
  |non=>cases a;exact PySem.EqNone.eq_str_none (c6 I q<|by simp)
  |bl j=>cases a;exact PySem.EqMixed.eq_str_bool (c6 I q<|by simp)
  |int j=>obtain⟨e,rfl⟩:=a;exact PySem.EqMixed.eq_str_int (c6 I q<|by simp)
  |str j=>obtain⟨e,rfl⟩:=a;exact eq_str<|c6 I q Ax
  |_=>exact absurd (show false=true from f) bF0
 |byt i=>
  obtain⟨t,rfl⟩:=g;cases y with
  |byt j=>obtain⟨e,rfl⟩:=a;exact PySem.W.eq_bytes<|c6 I q BH
  |_=>exact absurd (show false=true from f) bF0
 |_=>cases y<;>exact absurd (show false=true from f) bF0
def Kv:iU X (compareOp .NotEq) Ro:=by
 intro l s σ H x y v u Q I g a h;obtain⟨f,q⟩:=h;cases x with
 |non=>
  cases g;cases y with
  |non=>cases a;exact PySem.EqNone.ne_none_none (c6 I q<|by simp)
  |bl j=>cases a;exact PySem.EqNone.ne_none_bool (c6 I q<|by simp)
  |int j=>obtain⟨e,rfl⟩:=a;exact PySem.EqNone.ne_none_int (c6 I q<|by simp)
  |str j=>obtain⟨e,rfl⟩:=a;exact PySem.EqNone.ne_none_str (c6 I q<|by simp)
  |_=>exact absurd (show false=true from f) bF0
 |bl i=>
  cases g;cases y with
  |non=>cases a;exact PySem.EqNone.ne_bool_none (c6 I q<|by simp)
  |bl j=>cases a;exact ne_bool<|c6 I q<|SY not EI
  |str j=>obtain⟨e,rfl⟩:=a;exact PySem.EqMixed.ne_bool_str (c6 I q<|by simp)
  |_=>exact absurd (show false=true from f) bF0
 |int i=>
  obtain⟨t,rfl⟩:=g;cases y with
  |non=>cases a;exact PySem.EqNone.ne_int_none (c6 I q<|by simp)
  |int j=>obtain⟨e,rfl⟩:=a;exact ne_int<|c6 I q<|SY not Bb
  |str j=>obtain⟨e,rfl⟩:=a;exact PySem.EqMixed.ne_int_str (c6 I q<|by simp)
  |_=>exact absurd (show false=true from f) bF0
 |str i=>
  obtain⟨t,rfl⟩:=g;cases y with
  |non=>cases a;exact PySem.EqNone.ne_str_none (c6 I q<|by simp)
  |bl j=>cases a;exact PySem.EqMixed.ne_str_bool (c6 I q<|by simp)
  |int j=>obtain⟨e,rfl⟩:=a;exact PySem.EqMixed.ne_str_int (c6 I q<|by simp)
  |str j=>obtain⟨e,rfl⟩:=a;exact ne_str<|c6 I q<|SY not Ax
  |_=>exact absurd (show false=true from f) bF0
 |byt i=>
  obtain⟨t,rfl⟩:=g;cases y with
  |byt j=>obtain⟨e,rfl⟩:=a;exact PySem.W.ne_bytes<|c6 I q<|SY not BH
  |_=>exact absurd (show false=true from f) bF0
 |_=>cases y<;>exact absurd (show false=true from f) bF0
def OR:iU X (compareOp .Lt) (yI λi j=>.bl<|decide<|i<j):=Jn λ_ _ _ _ _ _ _ q=>lt_int q
def wg:iU X (compareOp .LtE) (yI λi j=>.bl<|decide<|i<=j):=Jn λ_ _ _ _ _ _ _ q=>le_int q
def N6:iU X (compareOp .Gt) (yI λi j=>.bl<|decide<|j<i):=Jn λ_ _ _ _ _ _ _ q=>gt_int q
def AY:iU X (compareOp .GtE) (yI λi j=>.bl<|decide<|j<=i):=Jn λ_ _ _ _ _ _ _ q=>ge_int q
def pQ:iU X (compareOp .Is) (λx y H Q=>y=.non/\Q (.bl<|decide<|x=.non) H):=by
 intro f s σ H x y v u Q I a e h;obtain⟨rfl,q⟩:=h;cases e;refine is_none_gen<|c6 I q ?_;cases x<;>first
  | (cases a;rfl)
  | (obtain⟨t,rfl⟩:=a;rfl)
def pC:iU X (compareOp .IsNot) (λx y H Q=>y=.non/\Q (.bl<|!decide (x=.non)) H):=by
 intro f s σ H x y v u Q I a e h;obtain⟨rfl,q⟩:=h;cases e;refine isnot_none_gen<|c6 I q ?_;cases x<;>first
  | (cases a;rfl)
  | (obtain⟨t,rfl⟩:=a;rfl)
def cM(b:Expr)(h:op≠.In:=by decide)(a:op≠.NotIn:=by decide):behindInMarks op b=false:=by
 have f:(op==CmpOp.In)=false:=by cases op<;>first|rfl|exact absurd rfl h
 have e:(op==CmpOp.NotIn)=false:=by cases op<;>first|rfl|exact absurd rfl a
 cases b<;>simp[behindInMarks,f,e]
def Bq{r:R2}(f:iU X (compareOp op) r)(i:PE X a ta)(l:PE X b tb)(hm:behindInMarks op b=false):PE X (.Compare a [op] [b] pos) (yM r ta tb):=by
 intro o s σ H Q I h;exact wpAny_Compare1 (My i l I h λv u g x y e n m j q=>f o g σ e x y v u Q n m j q) hm
def AO(t:TE):TT:=λσ H Q=>t σ H λx a=>Pm x a Q
def Ho(w:iU X (compareOp op) r)(D:PE X a ta)(j:PE X b tb)(hm:behindInMarks op b=false):PT X (.Compare a [op] [b] pos) (AO<|yM r ta tb):=by
 intro f s σ H Q I h;refine wpAny_isTrue_Compare1 (c9 (D f s σ H _ I h) λv A ⟨x,H1,l,i,q1⟩=>c9 (j f A σ H1 _ l q1) λu o ⟨y,C,q,B,E⟩=>
  c9 (w f o σ C x y v u _ q i B E) λc F ⟨z,m,n,g,k,e,p⟩=>?_) hm
 subst e;cases g;exact Tc ⟨m,n,p⟩
def uN(r g:R2)(ta tb i:TE):TE:=λσ H Q=>ta σ H λx H1=>tb σ H1 λy e=>r x y e λz a=>∃k,z=.bl k/\
 (if k=true then i σ a λh f=>g y h f Q else Q (.bl false) a)
def j3(J:iU X (compareOp op) r)(E:iU X (compareOp op') r')(O:PE X a ta)(w:PE X b tb)(P:PE X c tc)
  (hm:lastMarks [op,op'] [b,c]=false:=by with_unfolding_all rfl):PE X (.Compare a [op,op'] [b,c] pos) (uN r r' ta tb tc):=by
 intro f s σ H Q I h;refine Compare_chain (c9 (O f s σ H _ I h) λv L ⟨x,H1,B,p,q1⟩=>chain_link (c9 (w f L σ H1 _ B q1) λu F ⟨y,M,G,l,R⟩=>
  c9 (J f F σ M x y v u _ G p l R) λd N ⟨z,g,i,n,k,e,j⟩=>?_)) hm
 subst e;cases n;refine Tc ?_;cases k with
 |false=>exact ite_ff ⟨.bl false,g,i,rfl,j⟩
 |true=>exact ite_tt<|chain_last<|c9 (P f N σ g _ i j) λo m ⟨A,D,q,C,K⟩=>E f m σ D y A u o Q q l C K
def iJ(R:iU X (compareOp op) r)(G:iU X (compareOp op') r')(Y:PE X a ta)(A:PE X b tb)(hc:PE X c tc)
  (hm:lastMarks [op,op'] [b,c]=false:=by with_unfolding_all rfl):PT X (.Compare a [op,op'] [b,c] pos) (AO<|uN r r' ta tb tc):=by
 intro f s σ H Q I h;refine isTrue_chain (c9 (Y f s σ H _ I h) λv T ⟨x,H1,C,q,q1⟩=>test_link (c9 (A f T σ H1 _ C q1) λu J ⟨y,U,M,m,q2⟩=>
  c9 (R f J σ U x y v u _ M q m q2) λd W ⟨z,i,j,o,k,e,l⟩=>?_)) hm
 subst e;cases o;refine Tc ?_;cases k with
 |false=>
  obtain⟨k',L,Z⟩:=l;cases L;exact ite_ff ⟨i,j,Z⟩
 |true=>
  refine ite_tt<|test_last<|c9 (hc f W σ i _ j l) λp n ⟨B,F,w,E,S⟩=>c9 (G f n σ F y B u p _ w m E S) λd' s5 g=>?_;obtain⟨z2,D,K,O,k2,N,P⟩:=g;subst N;cases O;exact Tc ⟨D,K,P⟩
def qE:(sizeLine:Nat)<2^63:=by rw[Sq];decide
def i8:iU X (binaryOp .Add) (λx y H Q=>∃i j,x=.str i/\y=.str j/\i.length+j.length<=sizeLine/\Q (.str<|i++j) H):=by
 intro m s σ H x y v u Q I e f h;obtain⟨i,j,rfl,rfl,g,q⟩:=h;obtain⟨t,rfl⟩:=e;obtain⟨a,rfl⟩:=f;exact add_str (λa l=>⟨.str<|i++j,H,I.tok _,⟨_,rfl⟩,q⟩) g
def vals1(r:Vals [x] us):∃u,us=[u]/\RelV x u:=by
 cases r with
 |cons e a=>cases a;exact⟨_,rfl,e⟩
def vals2(r:Vals [x,y] us):∃u a,us=[u,a]/\RelV x u/\RelV y a:=by
 cases r with
 |cons h e=>
  cases e with
  |cons g f=>cases f;exact⟨_,_,rfl,h,g⟩
def nU(e:X.calm=true):eW X (.builtin "max") (λxs H Q=>∃i j,xs=[.int i,.int j]/\Q (.int<|if j > i then j else i) H):=by
 intro n s σ H xs o Q I r h;obtain⟨i,j,rfl,q⟩:=h;obtain⟨u,f,rfl,⟨t,rfl⟩,⟨g,rfl⟩⟩:=vals2 r;refine max_two_ints (I.ok.hd e) λl m k=>⟨_,H,I.kept k,?_,q⟩;by_cases a:j > i
 ·rw[Sb a,Sb a];exact⟨_,rfl⟩
 ·rw[R7 a,R7 a];exact⟨_,rfl⟩
def iw(e:X.calm=true):eW X (.builtin "min") (λxs H Q=>∃i j,xs=[.int i,.int j]/\Q (.int<|if j<i then j else i) H):=by
 intro n s σ H xs o Q I r h;obtain⟨i,j,rfl,q⟩:=h;obtain⟨u,f,rfl,⟨t,rfl⟩,⟨g,rfl⟩⟩:=vals2 r;refine min_two_ints (I.ok.hd e) λl m k=>⟨_,H,I.kept k,?_,q⟩;by_cases a:j<i
 ·rw[Sb a,Sb a];exact⟨_,rfl⟩
 ·rw[R7 a,R7 a];exact⟨_,rfl⟩
def n5:eW X (.type "int") (λxs H Q=>(∃i,xs=[.int i]/\Q (.int i) H)\/∃k,xs=[.bl k]/\Q (.int<|if k then 1 else 0) H):=by
 intro f s σ H xs e Q I r h;obtain ⟨i,rfl,q⟩|⟨k,rfl,q⟩:=h
 ·obtain⟨u,rfl,t,rfl⟩:=vals1 r
  exact call_int_int ⟨.int i,H,I,⟨_,rfl⟩,q⟩
 ·obtain⟨u,rfl,a⟩:=vals1 r
  cases a;exact call_int_bool ⟨.int<|if k then 1 else 0,H,I.tok _,⟨_,rfl⟩,q⟩
structure Ac(h:Heap)(x dx C:X4)(mA:Yh):Prop where
 obj:h.get? x=some (instObj C dx)
 ns:h.Ns1 dx mA
 ne:dx≠x
def CY{h:Heap}(n:h.Ns1 dx mA):∃g,h.get? dx=some g/\∀name,lookIn name g=some (mA name):=by
 obtain⟨o,r,s,m,i,j,_,l⟩:=n;refine⟨o,m,λname=>?_⟩;have e:=l name;unfold nsFind findBy at e;rw[<-Array.find?_toList]at e;unfold lookIn;rw[i];dsimp only;split
 ·grind
 ·rename_i q
  rw[q]at e;have a:r.toList.any (·.refKey)=false:=by
   rw[List.any_eq_false];intro y p;obtain⟨z,t,f⟩:=j y<|Wf.mp p;simp[DictEntry.refKey,f]
  rw[R7<|by rw[a];exact bF0];exact SY some e
def Ac.look(I:Ac h x dx C mA):∃a,PySem.W.InstAt h x (instObj C dx) C (some a)/\∀name,lookIn name a=some (mA name):=
 let ⟨a,f,e⟩:=CY I.ns
 ⟨a,⟨I.obj,rfl,rfl,f⟩,e⟩
section
variable {E:Yd}{s:X5}{K:Frag}{x:X4}{dx:X4}{C:X4}{f:X4}{mA:Yh}{name:Yc}{v:X3}
def get_map(X:K.In s.heap)(I:Ac s.heap x dx C mA)(j:plainGet K C name=true)(g:hasDictIn K C=true)
  (f:findIn K (.ref C) name=some none)(e:mA name=some v)(a:handedIn v=true)(h:Q v { s with toks:=s.toks+1 }):
  wpAny (model prog w) A (getAttr (.ref x) name expr) Q E s:=by
 obtain⟨l,J,i⟩:=I.look;exact PySem.W.get_value X J (plainGet_of j).1 (PySem.W.findObj_own g f rfl<|by rw[i,e]) a h
def Et(X:K.In s.heap)(I:Ac s.heap x dx C mA)(a:plainGet K C name=true)
  (hf:findIn K (.ref C) name=some (some<|.ref f))(j:isFn K (.ref f)=true)(e:mA name=none)(h:Q (.ref f,[.ref x]) s):
  wpAny (model prog w) A (getMethod (.ref x) name pl) Q E s:=by
 obtain⟨g,J,i⟩:=I.look;exact PySem.W.method_fn X J (plainGet_of a).1 (plainGet_of a).2 hf (UJ.mp j) (by show(lookIn name g).map (·.isSome)=some false;rw[i,e];rfl) h
def HU(X:K.In s.heap)(I:Ac s.heap x dx C mA)
  (p:findIn K (.ref C) "__setattr__" =some (some<|.builtin "object.__setattr__")) (n:plainOver K C=true) (l:takerIn K C name=some none) (o:hasDictIn K C=true)
  (hw:PySem.Within mA ns)(G:ns.length<=sizeLine)
  (h:∀h',Ac h' x dx C (λy=>if y=name then some v else mA y)->Heap.SameBut dx s.heap h'->Q () { s with heap:=h',toks:=s.toks+2 }):
  wpAny (model prog w) A (setAttr (.ref x) name v) Q E s:=by
 obtain⟨F,J,D⟩:=I.look;refine PySem.W.set_plain X J p<|PySem.W.osa_open X J n l λb=>?_;obtain⟨B,q,i⟩:=PySem.W.any_some o;refine RX<|RZ<|RX<|RX<|wpAny_loadPart I.obj<|RX<|Looks.here (PySem.W.looks_clsIn X q) ?_;rw[i];refine RZ<|RX<|RZ<|RX ?_;refine wpAny_nsSet1 I.ns λh' a j=>?_;obtain⟨z,r,m,g,e,f⟩:=a.count<|PySem.Within.cons name v hw;refine RX (wpAny_lookBehind g (by rw[e];exact pastItsLine_dict<|SF f<|by rw[Te];lia) ?_);exact RZ<|h _ ⟨(j.2 _<|Ui I.ne).trans I.obj,a,I.ne⟩ j
def FZ(X:K.In s.heap)(hm:makesIn K C=true)
  (a:findIn K (.ref C) "__init__" =some (some<|.ref f)) (hf:PySem.W.typeIn K (.ref f)=some (.type "function"))
  (h:codeAny (model prog w) (A.under<|.builtin "type.__call__" ⟨.ref C::vs,kw⟩) (.call (.ref f) ⟨.ref (s.heap.objs.size+1)::vs,kw⟩) (PySem.W.InitBack (s.heap.objs.size+1) R)
   { s with heap:=(s.heap.push emptyDict).push (instObj C s.heap.objs.size) }):
  codeAny (model prog w) A (.call (.ref C) ⟨vs,kw⟩) R s:=by
 obtain⟨i,g,d,t,e⟩:=s;exact PySem.W.make_core (PySem.W.makes_of X hm) (PySem.W.looks_findIn X a) (λself=>PySem.W.bind_fn X self hf) (.inl rfl) h
end
def gB(f:Yc)(v:V):Yb (Yc×V)->Yb (Yc×V)
 |[]=>[(f,v)]
 | (g,x)::r=>if g=f then(g,v)::r else(g,x)::gB f v r
theorem cW(f g:Yc)(v:V):∀fs:Yb (Yc×V),(gB f v fs).lookup g=if g=f then some v else fs.lookup g
 |[]=>by
  show List.lookup g [(f,v)]=_;by_cases h:g=f
  ·grind
  ·grind
 | (k,x)::r=>by
  have a:=cW f g v r;rw[show gB f v ((k,x)::r)=(if k=f then(k,v)::r else(k,x)::gB f v r) from rfl];by_cases e:k=f
  ·grind
  ·grind
theorem nE(f:Yc)(v:V):∀fs:Yb (Yc×V),f∈(gB f v fs).map (·.1)/\∀g,g∈fs.map (·.1)->g∈(gB f v fs).map (·.1)
 |[]=>⟨by simp[gB],λg h=>by simp at h⟩
 | (k,x)::r=>by
  obtain⟨a,i⟩:=nE f v r;rw[show gB f v ((k,x)::r)=(if k=f then(k,v)::r else(k,x)::gB f v r) from rfl];by_cases e:k=f
  ·grind
  ·grind
theorem oN(f:Yc)(v:V):∀fs:Yb (Yc×V),(gB f v fs).length<=fs.length+1
 |[]=>by simp[gB]
 | (k,x)::r=>by
  have a:=oN f v r;rw[show gB f v ((k,x)::r)=(if k=f then(k,v)::r else(k,x)::gB f v r) from rfl];by_cases e:k=f
  ·grind
  ·grind
def jA.some_of(r:jA (some v) o):∃u,o=some u/\RelV v u:=by
 cases o with
 |none=>exact(show False from r).elim
 |some u=>exact⟨u,rfl,r⟩
def jA.none_of(r:jA none o):o=none:=by
 cases o with
 |none=>rfl
 |some u=>exact(show False from r).elim
def Dj(r:RelV v u):handedIn u=true:=by
 cases v with
 |non=>cases (show u=Value.none from r);rfl
 |bl b=>cases (show u=Value.bool b from r);rfl
 |int i=>obtain⟨t,e⟩:=(show ∃t,u=Value.int i t from r);cases e;rfl
 |str x=>obtain⟨t,e⟩:=(show ∃t,u=Value.str x t from r);cases e;rfl
 |byt b=>obtain⟨t,e⟩:=(show ∃t,u=Value.bytes b t from r);cases e;rfl
 |flt b=>obtain⟨t,e⟩:=(show ∃t,u=Value.float b t from r);cases e;rfl
 |ref a=>cases (show u=Value.ref a from r);rfl
 |ty n=>cases (show u=Value.type n from r);rfl
def pG(i:fM P w H h)(e:H a=some (.ins C dx fs)):∃g,Ac h a dx C g/\(∀f,jA (fs.lookup f)<|g f)/\PySem.Within g (fs.map (·.1))/\fs.length<=1000/\H dx=some (.own a):=by
 obtain⟨d,z,j,l,g,n,r,q⟩:=(show cV P w H h a (.ins C dx fs) from i a _ e);exact⟨g,⟨l,n,j⟩,r,q,z,d⟩
structure vm(K:Frag)(C:X4):Prop where
 pg:plainGet K C Str.empty=true
 hd:hasDictIn K C=true
 po:plainOver K C=true
 sa:findIn K (.ref C) "__setattr__" =some (some (.builtin "object.__setattr__"))
def vm.get{K:Frag}(c:vm K C)(f:Yc):plainGet K C f=true:=c.pg
def ir(K:Frag)(C:X4)(f:Yc):Prop:=findIn K (.ref C) f=some none
def ir.NA{K:Frag}(n:ir K C f):takerIn K C f=some none:=by
 unfold takerIn;rw[show findIn K (.ref C) f=some none from n];rfl
structure Meth(K:Frag)(C:X4)(m:Yc)(f:X4):Prop where
 at_:findIn K (.ref C) m=some (some (.ref f))
 fn:isFn K (.ref f)=true
 kp:keepIn K (.ref f)=true
def zO(I:Inv X Yi σ H s)(e:H a=some (.ins C dx fs))(c:vm X.K C)(n:ir X.K C f)(l:fs.lookup f=some v)
  (h:∀u s',Inv X Yi σ H s'->RelV v u->Q u s'):wpAny (model X.prog X.w) A (getAttr (.ref a) f b) Q E s:=by
 obtain⟨j,O,r,_,_,_⟩:=pG I.hok e;obtain⟨u,i,g⟩:=jA.some_of (v:=v) (o:=j f) (by grind);exact get_map I.jm O (c.get f) c.hd n i (Dj g)<|h u _ (I.tok _) g
def ql(I:Inv X Yi σ H s)(e:H a=some (.ins C dx fs))(c:vm X.K C)(k:Meth X.K C m g)(l:fs.lookup m=none)
  (h:Q (.ref g,[.ref a]) s):wpAny (model X.prog X.w) A (getMethod (.ref a) m pl) Q E s:=by
 obtain⟨f,O,r,_,_,_⟩:=pG I.hok e;exact Et I.jm O (c.get m) k.at_ k.fn (jA.none_of<|by grind) h
def zF(I:Inv X Yi σ H s)(e:H a=some (.ins C dx fs))(c:vm X.K C)(n:ir X.K C f)(L:fs.length<1000)(G:RelV y u)
  (h:∀s',Inv X Yi σ (upd H a<|.ins C dx<|gB f y fs) s'->Q () s'):wpAny (model X.prog X.w) A (setAttr (.ref a) f u) Q E s:=by
 obtain⟨m,O,r,j,_,l⟩:=pG I.hok e;refine HU I.jm O c.sa c.po n.NA c.hd j (by rw[R5,Sq];lia) λD i J=>h _ ?_;have p:∃o,D.get? dx=some o:=let ⟨o,_,_,F,_⟩:=i.ns;⟨o,F⟩;refine I.write (x:=a) (e:=dx) (by rw[e];exact True.intro) (.inr l) (λb q v z=>(J.2 b v).trans z) p ?_;refine⟨by rw[cI O.ne];exact l,?_,O.ne,i.obj,_,i.ns,λg=>?_,λg B=>?_⟩
 ·have:=oN f y fs;lia
 ·show jA ((gB f y fs).lookup g) (if g=f then some u else m g)
  rw[cW];by_cases q:g=f
  ·rw[Sb q,Sb q];exact G
  ·rw[R7 q,R7 q];exact r g
 ·by_cases q:g=f
  ·rw[q];exact(nE f y fs).1
  ·refine(nE f y fs).2 g (j g λz=>B ?_)
   show(if g=f then some u else m g)=none;rw[R7 q];exact z
def Inv.made(I:Inv X Yi σ H s):Inv X Yi σ (upd (upd H s.heap.objs.size<|.own<|s.heap.objs.size+1) (s.heap.objs.size+1)<|.ins C s.heap.objs.size [])
  { s with heap:=(s.heap.push emptyDict).push (instObj C s.heap.objs.size) }:=by
 have f:(s.heap.push emptyDict).get? s.heap.objs.size=some emptyDict:=Sl s.heap rfl;have l:((s.heap.push emptyDict).push<|instObj C s.heap.objs.size).get? (s.heap.objs.size+1)=some (instObj C s.heap.objs.size):=by
  have:=Sl (s.heap.push emptyDict) (o:=instObj C s.heap.objs.size) rfl
  rwa [W3]at this
 have j:=I.laid (o:=.own<|s.heap.objs.size+1) (h':=s.heap.push emptyDict) (t':=s.toks) (λb u q=>R6 _ q) (R9 _) ⟨_,f⟩;refine j.laid (a:=s.heap.objs.size+1) (o:=.ins C s.heap.objs.size []) (t':=s.toks) (λb u q=>R6 _ q) (Um<|W3 _ _) ?_;have g:s.heap.objs.size≠s.heap.objs.size+1:=Ss<|Vp _;refine⟨by rw[cI g,cG],Tq _,g,l,λ_=>none,(Heap.Ns1.of_empty<|⟨emptyDict,#[],_,f,rfl,λe h=>absurd h<|by simp,λ_=>rfl⟩).at λo q=>R6 _ q,λ_=>True.intro,λy i=>absurd rfl i⟩
def IJ(g:attributeBase e f env (eval e env)=eval e env)
  (h:wpAny (model prog w) A (eval e env) (λo a=>wpAny (model prog w) A (getAttr o f true) Q E a) E s):wpAny (model prog w) A (eval (.Attribute e f pos) env) Q E s:=
 Attribute_any_ h (by rw[arm_eval_Attribute,g])
inductive PM(K:Frag)(f:Yc)(x:V)(H:Hp)(Q:VK):Prop
 |mk(a C e:X4)(fs:Yb (Yc×V))(v:V)(g:x=.ref a)(h:H a=some (.ins C e fs))(c:vm K C)(n:ir K C f)(l:fs.lookup f=some v)(q:Q v H)
def Ni(K:Frag)(ta:TE)(f:Yc):TE:=λσ H Q=>ta σ H λx H1=>PM K f x H1 Q
def NB(K:Frag)(ta h:TE)(f:Yc):TS:=λD σ H=>h σ H λy H1=>ta σ H1 λx e=>∃a C g fs,x=.ref a/\e a=some (.ins C g fs)/\vm K C/\ir K C f/\fs.length<1000/\
 D.nx σ (upd e a<|.ins C g<|gB f y fs)
def Ej(X:Cx)(op:Operator)(rd:V->V->Hp->VK->Prop):Prop:=
 ∀(a:Yg) (s:X5) (σ:St) (H:Hp) (x y:V) (u v:X3) (Q:VK),Inv X a σ H s->RelV x u->RelV y v->rd x y H Q->wpAny (model X.prog X.w) X.A (inplaceOp op u v) (EP X a σ Q) X.xe s
def L4(he:PE X e ta)(j:attributeBase e f X.env (eval e X.env)=eval e X.env):PE X (.Attribute e f pos) (Ni X.K ta f):=by
 intro r s σ H Q I h;refine IJ j<|c9 (he r s σ H _ I h) λu B g=>?_;obtain⟨x,H1,m,p,a,C,D,fs,v,i,y,c,n,l,q⟩:=g;subst i;obtain rfl:u=Value.ref a:=p;exact zO m y c n l λA z o w=>⟨v,H1,o,w,q⟩
def ni(E:PE X o ta)(B:PE X value tv)(w:swapsWith value (some<|.Attribute o f Yy) pos.line X.env=pure false):PS X (.Assign [.Attribute o f Yy] value pos) (NB X.K ta tv f):=by
 intro g s σ H D I h;refine plainObj_wpAny_Assign_Attribute (c9 (B g s σ H _ I h) λu r ⟨y,H1,j,z,q⟩=>c9 (E g r σ H1 _ j q) λv J e=>?_) w;obtain⟨x,L,p,A,a,C,N,fs,i,F,c,n,l,G⟩:=e;subst i;obtain rfl:v=Value.ref a:=A;exact zF p F c n l z λM m=>⟨σ,_,m,G⟩
def Qt:V->V->Hp->VK->Prop:=λx y H Q=>∃i j,x=.int i/\y=.int j/\Q (.int<|i+j) H
def Qe:V->V->Hp->VK->Prop:=λx y H Q=>∃i j,x=.int i/\y=.int j/\Q (.int<|i-j) H
def K0:Ej X .Add Qt:=by
 rintro g s σ H x y u v Q I e f ⟨i,j,rfl,rfl,q⟩;obtain⟨t,rfl⟩:=(show ∃t,u=Value.int i t from e);obtain⟨a,rfl⟩:=(show ∃a,v=Value.int j a from f);exact PyProof.Rows.iadd_int ⟨.int<|i+j,H,I.tok _,⟨_,rfl⟩,q⟩
def KW:Ej X .Sub Qe:=by
 rintro g s σ H x y u v Q I e f ⟨i,j,rfl,rfl,q⟩;obtain⟨t,rfl⟩:=(show ∃t,u=Value.int i t from e);obtain⟨a,rfl⟩:=(show ∃a,v=Value.int j a from f);exact PyProof.Rows.isub_int ⟨.int<|i-j,H,I.tok _,⟨_,rfl⟩,q⟩
inductive eZ(K:Frag)(H:Hp):V->X3->Prop where
 |non:eZ K H .non (.type "NoneType")
 |bl (x:Bool):eZ K H (.bl x) (.type "bool")
 |int (i:Int):eZ K H (.int i) (.type "int")
 |str (x:Yc):eZ K H (.str x) (.type "str")
 |flt (x:UInt64):eZ K H (.flt x) (.type "float")
 |lst {a:X4}{xs:Yb V}(e:H a=some (.lst xs)):eZ K H (.ref a) (.type "list")
 |frz {a:X4}{o:Obj}{xs:Yb V}(e:H a=some (.frz o (.lst xs))):eZ K H (.ref a) (.type "list")
 |tup {a:X4}{xs:Yb V}(e:H a=some (.tup xs)):eZ K H (.ref a) (.type "tuple")
 |dK {a:X4}{Yj:Yb (Key×V)}(e:H a=some (.dK Yj)):eZ K H (.ref a) (.type "dict")
 |dT {a:X4}{Yj:Yb (Yb Key×V)}(e:H a=some (.dT Yj)):eZ K H (.ref a) (.type "dict")
 |ins {a C f:X4}{fs:Yb (Yc×V)}(e:H a=some (.ins C f fs)) (cl:vm K C) (g:findIn K (.ref C) "__class__" =some (some (.builtin "object.__class__")))
   (j:PySem.W.specialIn K (.builtin "object.__class__") "__get__" =some (some (.builtin "getset_descriptor.__get__"))) (h:PySem.W.takesIn K (.builtin "object.__class__")=some true)
   (hm:PySem.W.mroIn K C (.type "object")=some true):eZ K H (.ref a) (.ref C)
def Ci(I:Inv X Yi σ H s)(f:RelV x u)(ty:eZ X.K H x t)(e:kitOne X.K t c=some b)(h:∀m,Q (.bool b) { s with toks:=m }):
  wpAny (model X.prog X.w) A (call (.builtin "isinstance") [u,c]) Q E s:=by
 cases ty with
 |non=>cases (show u=Value.none from f);exact VC PySem.W.kitx_none I.jm True.intro e (λz=>nomatch z) h
 |bl y=>cases (show u=Value.bool y from f);exact VC PySem.W.kitx_bool I.jm True.intro e (λz=>nomatch z) h
 |int i=>obtain⟨t,q⟩:=(show ∃t,u=Value.int i t from f);cases q;exact VC PySem.W.kitx_int I.jm True.intro e (λz=>nomatch z) h
 |str y=>obtain⟨t,q⟩:=(show ∃t,u=Value.str y t from f);cases q;exact VC PySem.W.kitx_str I.jm True.intro e (λz=>nomatch z) h
 |flt y=>obtain⟨t,q⟩:=(show ∃t,u=Value.float y t from f);cases q;exact VC PySem.W.kitx_float I.jm True.intro e (λz=>nomatch z) h
 | @lst a j ea=>
  cases (show u=Value.ref a from f);obtain⟨_,_,n,_,g⟩:=(show cV X.prog X.w H s.heap a (.lst j) from I.hok a _ ea);exact VC kitx_list I.jm ⟨_,g,rfl⟩ e (λz=>nomatch z) h
 | @frz a ob j ea=>
  cases (show u=Value.ref a from f);obtain⟨_,_,_,n,_,g⟩:=(show cV X.prog X.w H s.heap a (.frz ob<|.lst j) from I.hok a _ ea);exact VC kitx_list I.jm ⟨_,g,rfl⟩ e (λz=>nomatch z) h
 | @tup a j ea=>
  cases (show u=Value.ref a from f);obtain⟨_,_,_,p⟩:=(show cV X.prog X.w H s.heap a (.tup j) from I.hok a _ ea);obtain⟨o,g,l,_⟩:=p;exact VC PySem.W.kitx_tuple I.jm ⟨o,g,l⟩ e (λz=>nomatch z) h
 | @dK a Yj ea=>
  cases (show u=Value.ref a from f);obtain⟨_,_,B,_,p⟩:=(show cV X.prog X.w H s.heap a (.dK Yj) from I.hok a _ ea);obtain⟨o,r,v,g,l,_⟩:=p;exact VC kitx_dict I.jm ⟨o,g,l.1⟩ e (λz=>nomatch z) h
 | @dT a Yj ea=>
  cases (show u=Value.ref a from f);obtain⟨_,_,j,_,o,r,v,g,l,_⟩:=(show cV X.prog X.w H s.heap a (.dT Yj) from I.hok a _ ea);exact VC kitx_dict I.jm ⟨o,g,l.1⟩ e (λz=>nomatch z) h
 | @ins a C dx fs ea cl ha hn YI hm=>
  cases (show u=Value.ref a from f);obtain⟨D,O,_⟩:=pG I.hok ea;obtain⟨F,J,_⟩:=O.look;exact VC (PySem.W.kitx_own (cl.get _) cl.hd ha hn YI hm) I.jm J e (λz=>nomatch z) h
structure dB(k:Nat)(A:X9):Prop where
 hd:A.handled=none
 dp:A.depth+3*k+5<recursionLimit
 un:A.units+16*k+200<cLine
def dB.mono(r:dB k A)(h:j<=k):dB j A:=⟨r.hd,by have:=r.dp;lia,by have:=r.un;lia⟩
def dB.deeper(r:dB (k+1) A)(env:Env):dB k (A.deeper env):=
 ⟨r.hd,by have:=r.dp;show A.depth+1+3*k+5<_;lia,by have:=r.un;show A.units+3+16*k+200<_;lia⟩
def dB.in1(r:dB (k+1) A):dB k A.in1:=
 ⟨r.hd,by have:=r.dp;show A.depth+3*k+5<_;lia,by have:=r.un;show A.units+1+16*k+200<_;lia⟩
def Ad{A:X9}{us:Yb X3}{kw:Yb (Yc×X3)}:(A.under<|.builtin "type.__call__" ⟨.ref C::us,kw⟩).depth=A.depth+1:=by
 first|rfl|simp[Around.under,Code.weight,Code.isCreation,Code.isGuard,Code.isCaller,Code.frames,Code.isFrame,guardIds]
def zU{A:X9}{us:Yb X3}{kw:Yb (Yc×X3)}:(A.under<|.builtin "type.__call__" ⟨.ref C::us,kw⟩).units=A.units+1:=by
 first|rfl|simp[Around.under,Code.cUnits,Code.frames,Code.isFrame]
def dB.make(r:dB (k+1) A)(C:X4)(us:Yb X3)(kw:Yb (Yc×X3)):dB k (A.under<|.builtin "type.__call__" ⟨.ref C::us,kw⟩):=
 ⟨r.hd,by have:=r.dp;rw[Ad];lia,by have:=r.un;rw[zU];lia⟩
def dB.depth(r:dB k A):A.depth<recursionLimit:=by have:=r.dp;lia
def dB.units(r:dB k A):A.units+64<cLine:=by have:=r.un;lia
def kU:TA:=λ_ H Q=>Q [] H
def dF(ta:TE)(tr:TA):TA:=λσ H Q=>ta σ H λx H1=>tr σ H1 λe a=>Q (x::e) a
def lP:PA X [] kU:=λ_ _ _ _ H Q I h=>Vv ⟨[],H,I,.nil,h⟩
def fQ(r:PE X e te)(hr:PA X es t)(o:starEach (e::es) X.env=(false,eval e X.env)::starEach es X.env:=by rfl):PA X (e::es) (dF te t):=by
 intro f g s σ H Q I h;rw[o];refine T5<|c9 (r g s σ H _ I h) λu n a=>?_;obtain⟨x,H1,j,i,q1⟩:=a;exact c9 (hr f g n σ H1 _ j q1) λy w ⟨m,q,l,p,v⟩=>⟨x::m,q,l,.cons i p,v⟩
def Ot(t:TA):TE:=λσ H Q=>t σ H λa H1=>a.length<=sizeLine/\∀p,H1 p=none->Q (.ref p) (upd H1 p<|.tup a)
def Gu(t:TA):TE:=λσ H Q=>t σ H λa H1=>a.length<=sizeLine/\∀p,H1 p=none->Q (.ref p) (upd H1 p<|.lst a)
def K8{x1}(h:PA X es t):PE X (.Tuple es x1 pos) (Ot t):=by
 intro l s σ H Q I i;refine wpAny_Tuple_spliced (c9 (h pos l s σ H _ I i) λg a ⟨j,H1,f,r,z,q⟩=>⟨by rw[<-r.length];exact z,?_⟩);refine⟨.ref a.heap.objs.size,upd H1 a.heap.objs.size<|.tup j,f.laid (t':=a.toks) (λb u e=>R6 _ e) (R9 _) ?_,rfl,q _<|f.hok.fresh<|R9 _⟩;exact⟨z,g,r,⟨_,Sl _ rfl,rfl,_,rfl⟩⟩
def MD(h:PA X es t):PE X (.List es pos) (Gu t):=by
 intro l s σ H Q I i;refine wpAny_List_spliced (c9 (h pos l s σ H _ I i) λg a ⟨j,H1,f,r,z,q⟩=>⟨by rw[<-r.length];exact z,?_⟩);refine⟨.ref a.heap.objs.size,upd H1 a.heap.objs.size<|.lst j,f.laid (t':=a.toks) (λb u e=>R6 _ e) (R9 _) ?_,rfl,q _<|f.hok.fresh<|R9 _⟩;exact⟨z,g,0,r,Sl _ rfl⟩
abbrev Sp:=Yb V->Hp->VK->XK->Prop
abbrev Jt:=Yb Env->Hp->X5->XK->Yd
structure rP(P:X6)(w:X7)(K:Frag)(mg:Yh)(base:Heap)(A:X9)(outer:Yb Env)(s:X5)(H:Hp):Prop where
 frames:A.frames=some outer
 mod:Mod K mg base
 bs:∀b o,base.get? b=some o->s.heap.get? b=some o/\H b=none
 bsz:base.objs.size<=s.heap.objs.size
 mX:s.heap.FunFrames base outer
 frf:∀b∈iD outer,H b=none
 hok:fM P w H s.heap
 bare:AllBare s.gens
def CE(outer:Yb Env)(P:X6)(w:X7)(H:Hp)(s:X5)(Q:VK)(u:X3)(s':X5):Prop:=
 ∃v a,s'.os=s.os/\AllBare s'.gens/\Un (iD outer) [] H a s.heap s'.heap/\fM P w a s'.heap/\RelV v u/\Q v a
def CR(CX:Jt)(outer:Yb Env)(P:X6)(w:X7)(H:Hp)(s:X5)(Q:VK)(E:XK)(r:Result)(s':X5):Prop:=
 match r with
 |.ok (.ret u)=>CE outer P w H s Q u s'
 |.ok _=>False
 |.error e=>CX outer H s E e s'
structure dZ(P:X6)(w:X7)(K:Frag)(mg:Yh)(base:Heap)(CX:Jt)(k:Nat)(f:X4)(fd:FuncData)(ps:Yb Yc)(sp:Sp):Prop where
 len:∀vs H Q E,sp vs H Q E->vs.length=ps.length
 run:∀(A:X9) (outer:Yb Env) (s:X5) (H:Hp) (args:Args) (us:Yb X3) (vs:Yb V) (Q:VK) (E:XK),dB k A->rP P w K mg base A outer s H->BindsTo s fd args (ps.zip us)->Vals vs us->sp vs H Q E->
  codeAny (model P w) A (.call (.ref f) args) (CR CX outer P w H s Q E) s
def rP.make{K:Frag}{a:Yh}{base:Heap}{A:X9}{outer:Yb Env}{s:X5}{H:Hp}(e:rP P w K a base A outer s H)(C:X4)(us:Yb X3)(kw:Yb (Yc×X3)):
  rP P w K a base (A.under<|.builtin "type.__call__" ⟨.ref C::us,kw⟩) outer s H:=⟨by first|exact e.frames| (simpa [Around.under,Code.envs,Code.isFrame,pushEnvs] using e.frames),e.mod,e.bs,e.bsz,e.mX,e.frf,e.hok,e.bare⟩
def rP.in1{K:Frag}{a:Yh}{base:Heap}{A:X9}{outer:Yb Env}{s:X5}{H:Hp}(e:rP P w K a base A outer s H):
  rP P w K a base A.in1 outer s H:=⟨e.frames,e.mod,e.bs,e.bsz,e.mX,e.frf,e.hok,e.bare⟩
def Inv.Iy(I:Inv X Yi σ H s):rP X.prog X.w X.K X.mg X.base X.A X.stack s H:=
 ⟨I.ok.frames,I.ok.mod,I.bs,SF I.ok.bsz I.sz,I.stack,I.kr,I.hok,I.bare⟩
def Inv.after(I:Inv X Yi σ H s)(h:CE X.stack X.prog X.w H s Q u s'):EP X Yi σ Q u s':=by
 obtain⟨v,j,f,bare,un,a,r,q⟩:=h;obtain⟨i,g,d,t,e⟩:=s';obtain rfl:e=s.os:=f;exact⟨v,j,I.call (h':=i) (g':=g) (d':=d) (t':=t) un a bare λb z=>absurd z<|by simp,r,q⟩
def jO(sp:Sp)(a:Yb V)(E:XK)(t:TA):TE:=λσ H Q=>t σ H λe H1=>sp (e++a) H1 Q E
inductive MethP(C:X4)(m:Yc)(x:V)(H:Hp)(G:Prop):Prop
 |mk(a e:X4)(fs:Yb (Yc×V))(f:x=.ref a)(h:H a=some (.ins C e fs))(l:fs.lookup m=none)(q:G)
def AE(C:X4)(m:Yc)(sp:Sp)(f:Yb V)(E:XK)(ta:TE)(t:TA):TE:=λσ H Q=>ta σ H λx H1=>MethP C m x H1<|t σ H1 λe a=>sp (x::(e++f)) a Q E
def Fs(C:X4)(sp:Sp)(g:Yb V)(E:XK)(t:TA):TE:=λσ H Q=>t σ H λf H1=>∀x a,H1 x=none->H1 a=none->a≠x->
 sp (.ref x::(f++g)) (upd (upd H1 a<|.own x) x<|.ins C a []) (λv e=>v=.non/\Q (.ref x) e) E
def Binds(K:Frag)(fd:FuncData)(ps:Yb Yc)(ds:Yb X3):Prop:=
 ∀(s:X5) (us:Yb X3),K.In s.heap->(us++ds).length=ps.length->BindsTo s fd ⟨us,[]⟩ (ps.zip<|us++ds)
def Binds.all{K:Frag}(h:∀us:Yb X3,us.length=ps.length->bindArgs fd ⟨us,[]⟩=pure (ps.zip us)):Binds K fd ps []:=λs us _ a=>by
 rw[SH]at a ⊢;exact .of_eq<|h us a
def Passes(CX:Jt)(X:Cx)(E:XK):Prop:=∀(f:Yg) (σ:St) (H:Hp) (s:X5) (e:X3) (a:X5),Inv X f σ H s->CX X.stack H s E e a->X.xe e a
def Ae(F:dZ X.prog X.w X.K X.mg X.base CX k f fd ps sp)(hr:dB k X.A)(j:Binds X.K fd ps ds)(hd:Vals YR ds)(l:Passes CX X E)
  (I:Inv X Yi σ H s)(r:Vals vs us)(h:sp (vs++YR) H Q E):wpAny (model X.prog X.w) X.A (call (.ref f) us) (EP X Yi σ Q) X.xe s:=by
 have g:=r.append hd;refine WU (UD (F.run X.A X.stack s H ⟨us,[]⟩ (us++ds) (vs++YR) Q E hr I.Iy (j s us I.jm<|by rw[<-g.length];exact F.len _ _ _ _ h) g h) λr i a=>?_);cases r with
 |error e=>exact l Yi σ H s e i I a
 |ok fl=>
  cases fl with
  |ret u=>exact I.after a
  |next=>exact False.elim a
  |brk=>exact False.elim a
  |cont=>exact False.elim a
def uT(F:dZ X.prog X.w X.K X.mg X.base CX k f fd ps sp)(hr:dB k X.A)(i:Gl X x)(hm:X.mg x=some (.ref f))(j:keepIn X.K (.ref f)=true)(g:Binds X.K fd ps ds)(hd:Vals YR ds)(o:Passes CX X E)
  (v:PA X (e::es) t) (m:(x==("__debug__" :Yc))=false:=by decide) (he:starEach (e::es) X.env=(false,eval e X.env)::starEach es X.env:=by rfl) (l:(backTo pos<|starEach es X.env).any (·.1)=false:=by rfl):
  PE X (.Call (.Name x p) (e::es) [] pos) (jO sp YR E t):=by
 intro n s σ H Q I h;refine T6<|kT I i hm ?_ m;refine callWith_K I.ok.mod.kin j (c9 (v pos n s σ H _ I h) λB z ⟨y,H1,a,r,q⟩=>⟨a.jm,?_⟩) he l;exact Ae F hr g hd o a r q
def GY(he:PE X o ta)(c:vm X.K C)(hm:Meth X.K C m f)(F:dZ X.prog X.w X.K X.mg X.base CX k f fd ps sp)(hr:dB k X.A)(B:Binds X.K fd ps ds)(hd:Vals YR ds)(L:Passes CX X E)(M:PA X (e::es) t)
  (v:starEach (e::es) X.env=(false,eval e X.env)::starEach es X.env:=by rfl)(D:(backTo pos<|starEach es X.env).any (·.1)=false:=by rfl)
  (z:eval (.Call (.Attribute o m Yo) (e::es) [] pos) X.env=(do
   let n <-eval o X.env
   standAt Yo.atName
   let (f,first) <-holding [n] (getMethod n m pl)
   callWith pos f first (backTo pos<|starEach (e::es) X.env) (backToKw pos<|keywordEach [] X.env)):=by rfl):
  PE X (.Call (.Attribute o m Yo) (e::es) [] pos) (AE C m sp YR E ta t):=by
 intro p s σ H Q I h;refine XF (c9 (he p s σ H _ I h) λu G g=>?_) z;obtain⟨x,H1,i,J,a,S,fs,y,N,l,q⟩:=g;subst y;obtain rfl:u=Value.ref a:=J;refine ql i N c hm l <| callWith_K I.ok.mod.kin hm.kp (c9 (M pos p G σ H1 _ i q) λus P ⟨vs,R,j,r,O⟩=>⟨j.jm,?_⟩) v D;exact Ae (us:=.ref a::us) (vs:=.ref a::vs) F hr B hd L j (.cons rfl r) O
def D4(he:PE X o ta)(c:vm X.K C)(hm:Meth X.K C m f)(F:dZ X.prog X.w X.K X.mg X.base CX k f fd ps sp)(hr:dB k X.A)(p:Binds X.K fd ps ds)(hd:Vals YR ds)(y:Passes CX X E)
  (n:eval (.Call (.Attribute o m Yo) [] [] pos) X.env=(do
   let i <-eval o X.env
   standAt Yo.atName
   let (f,first) <-holding [i] (getMethod i m pl)
   callWith pos f first (backTo pos<|starEach [] X.env) (backToKw pos<|keywordEach [] X.env)):=by rfl):
  PE X (.Call (.Attribute o m Yo) [] [] pos) (AE C m sp YR E ta kU):=by
 intro v s σ H Q I h;refine XF (c9 (he v s σ H _ I h) λu B e=>?_) n;obtain⟨x,H1,g,r,a,D,fs,j,z,l,q⟩:=e;subst j;obtain rfl:u=Value.ref a:=r;exact ql g z c hm l <| PySem.W.callWith_K0 g.jm hm.kp (Ae (vs:=[.ref a]) F hr p hd y g (.cons rfl .nil) q)
structure Mk(K:Frag)(C f:X4):Prop where
 makes:makesIn K C=true
 init:findIn K (.ref C) "__init__" =some (some (.ref f))
 fn:isFn K (.ref f)=true
 kp:keepIn K (.ref C)=true
def DK(M:Mk X.K C f)(F:dZ X.prog X.w X.K X.mg X.base CX k f fd ps sp)(hr:dB (k+1) X.A)(n:Binds X.K fd ps ds)(hd:Vals YR ds)
  (B:Passes CX X E)(I:Inv X Yi σ H s)(r:Vals vs us)
  (h:∀x i,H x=none->H i=none->i≠x->sp (.ref x::(vs++YR)) (upd (upd H i<|.own x) x<|.ins C i []) (λv D=>v=.non/\Q (.ref x) D) E):
  wpAny (model X.prog X.w) X.A (call (.ref C) us) (EP X Yi σ Q) X.xe s:=by
 have j:=h (s.heap.objs.size+1) s.heap.objs.size (I.hok.fresh<|VP _) (I.hok.fresh<|R9 _)<|Ss<|Vp _;have g:=Inv.made (C:=C) I;have l:Vals (V.ref (s.heap.objs.size+1)::(vs++YR)) (Value.ref (s.heap.objs.size+1)::(us++ds)):=.cons rfl<|r.append hd;have z:(Value.ref (s.heap.objs.size+1)::us++ds).length=ps.length:=by
  have e:=l.length;rw[F.len _ _ _ _ j]at e;exact e.symm
 refine WU (FZ I.jm M.makes M.init (UJ.mp M.fn) (UD (F.run _ X.stack _ _ ⟨Value.ref (s.heap.objs.size+1)::us,[]⟩ (Value.ref (s.heap.objs.size+1)::(us++ds)) _ _ E (hr.make C us [])
  (g.Iy.make C us []) (n _ (Value.ref (s.heap.objs.size+1)::us) g.jm z) l j) λr m a=>?_))
 cases r with
 |error e=>exact B Yi σ _ _ e m g a
 |ok fl=>
  cases fl with
  |ret u=>
   obtain⟨v,G,p,y,o,q⟩:=g.after a;subst o;exact⟨y,⟨V.ref<|s.heap.objs.size+1,G,p,rfl,q⟩⟩
  |next=>exact False.elim a
  |brk=>exact False.elim a
  |cont=>exact False.elim a
def AV(M:Mk X.K C f)(F:dZ X.prog X.w X.K X.mg X.base CX k f fd ps sp)(hr:dB (k+1) X.A)(l:Gl X x)(hm:X.mg x=some (.ref C))(m:Binds X.K fd ps ds)(hd:Vals YR ds)(o:Passes CX X E)
  (j:PA X (e::es) t) (i:(x==("__debug__" :Yc))=false:=by decide) (he:starEach (e::es) X.env=(false,eval e X.env)::starEach es X.env:=by rfl) (g:(backTo pos<|starEach es X.env).any (·.1)=false:=by rfl):
  PE X (.Call (.Name x p) (e::es) [] pos) (Fs C sp YR E t):=by
 intro n s σ H Q I h;refine T6<|kT I l hm ?_ i;refine callWith_K I.ok.mod.kin M.kp (c9 (j pos n s σ H _ I h) λy z ⟨v,H1,a,r,q⟩=>⟨a.jm,?_⟩) he g;exact DK M F hr m hd o a r q
structure cL(N P:Yb Yc)(sc:Scope):Prop where
 kind:sc.kind=.function:=by rfl
 co:sc.isCoroutine=false:=by rfl
 gen:sc.isGenerator=false:=by rfl
 nd:N.Nodup:=by decide+kernel
 pre:N.take P.length=P:=by rfl
 par:∀x∈P,sc.names.lookup x=some .local\/sc.names.lookup x=some .cell:=by decide+kernel
 nofree:∀y∈sc.names,y.2≠.free:=by decide+kernel
theorem tP{kindOf:Yc->X8 NameKind}{x:Yc}:∀{binds:Yb (Yc×X3)}{m:Yh},(∀v,(x,v) ∉ binds)->bindL kindOf binds m x=m x
 |[],_,_=>rfl
 | (n,v)::r,m,h=>by
  unfold bindL;rw[tP λw a=>h w<|Ta _ a];split
  ·grind
  ·rfl
theorem uq{kindOf:Yc->X8 NameKind}{x:Yc}:∀{binds:Yb (Yc×X3)}{m:Yh},(∀v,(x,v) ∉ binds)->bindC kindOf binds m x=m x
 |[],_,_=>rfl
 | (n,v)::r,m,h=>by
  unfold bindC;rw[uq λw a=>h w<|Ta _ a];split
  ·rfl
  ·grind
theorem sZ{kindOf:Yc->X8 NameKind}{x:Yc}{v:X3}:∀{P:Yb Yc}{vs:Yb X3}{i:Nat}{m:Yh},P.Nodup->P[i]? =some x->vs[i]? =some v->kindOf x=some .local->
  bindL kindOf (P.zip vs) m x=some v
 |[],_,_,_,_,h,_,_=>by simp at h
 |_::_,[],_,_,_,_,h,_=>by simp at h
 |p::P,w::vs,0,m,nd,h1,h2,hk=>by
  simp at h1 h2;subst h1;subst h2;show bindL kindOf ((p,w)::P.zip vs) m p=_;unfold bindL;rw[tP λv a=>(Uz.mp nd).1 (XG a).1,Sb hk];simp
 |p::P,w::vs,i+1,m,nd,h1,h2,hk=>by
  show bindL kindOf ((p,w)::P.zip vs) m x=_;unfold bindL;exact sZ (Uz.mp nd).2 (by simpa using h1) (by simpa using h2) hk
theorem ui{kindOf:Yc->X8 NameKind}{x:Yc}{v:X3}:∀{P:Yb Yc}{vs:Yb X3}{i:Nat}{m:Yh},P.Nodup->P[i]? =some x->vs[i]? =some v->kindOf x≠some .local->
  bindC kindOf (P.zip vs) m x=some v
 |[],_,_,_,_,h,_,_=>by simp at h
 |_::_,[],_,_,_,_,h,_=>by simp at h
 |p::P,w::vs,0,m,nd,h1,h2,hk=>by
  simp at h1 h2;subst h1;subst h2;show bindC kindOf ((p,w)::P.zip vs) m p=_;unfold bindC;rw[uq λv a=>(Uz.mp nd).1 (XG a).1,R7 hk];simp
 |p::P,w::vs,i+1,m,nd,h1,h2,hk=>by
  show bindC kindOf ((p,w)::P.zip vs) m x=_;unfold bindC;exact ui (Uz.mp nd).2 (by simpa using h1) (by simpa using h2) hk
def start(N:Yb Yc)(vs:Yb V):St:=vs.map some++List.replicate (N.length-vs.length) none
def kZ(CX:Jt)(P:X6)(w:X7)(K:Frag)(mg:Yh)(base:Heap)(N:Yb Yc)(g:Yc)(scope:Scope)(f:X4)(cd:X3)(A:X9)(outer:Yb Env)(s:X5)(H:Hp)(E:XK):Cx where
 prog:=P
 w:=w
 K:=K
 mg:=mg
 base:=base
 A:=A.deeper<|envOfC g scope s.heap.objs.size f cd
 N:=N
 s₀:=s
 H₀:=H
 env:=envOfC g scope s.heap.objs.size f cd
 outer:=outer
 stack:=envOfC g scope s.heap.objs.size f cd::outer
 ex:=[]
 calm:=true
 fn:=λ_=>true
 pn:=[]
 xe:=λe h=>wpAny (model P w) (A.deeper<|envOfC g scope s.heap.objs.size f cd) (leaving (envOfC g scope s.heap.objs.size f cd) e) (λ_ a=>CX outer H s E e a) (λi a=>CX outer H s E i a) h
def wJ{sc:Scope}(h:sc.names.lookup x=some .cell):∃c,(cellsFrom n sc.names []).lookup x=some c:=Xe.mp<|Xp sc.names n []<|.inl h
def Ct{w:X7}{K:Frag}{F:Yh}{base:Heap}{N ps:Yb Yc}{D:Yc}{scope:Scope}{f:X4}{cd:X3}{A:X9}{outer:Yb Env}{s s1:X5}{H:Hp}{E:XK}{us:Yb X3}{vs:Yb V}
  (S:cL N ps scope)(hd:A.handled=none)(j:rP P w K F base A outer s H)(Q:vs.length=ps.length)(r:Vals vs us)
  (x:InCallC s s.heap.objs.size (bindL (envOfC D scope s.heap.objs.size f cd).kindOf (ps.zip us) λ_=>none) (cellsFrom (s.heap.objs.size+1) scope.names []) (bindC (envOfC D scope s.heap.objs.size f cd).kindOf (ps.zip us) λ_=>none) s1):
  Inv (kZ CX P w K F base N D scope f cd A outer s H E) [] (start N vs) H s1:=by
 have O:ps.length<=N.length:=by have:=SY List.length S.pre;rw[Tp]at this;lia
 obtain⟨B,M,rfl,G⟩:=x.done;have m:∀b:X4,b ∉ (kZ CX P w K F base N D scope f cd A outer s H E).ex:=λb z=>absurd (show b∈([]:Yb X4) from z) (by simp);refine⟨⟨j.mod,S.kind,rfl,rfl,R9 _,λy z c B g=>?_,λy l=>?_,λy c _ h=>?_,λ_=>hd,Around.frames_deeper j.frames,.inr ⟨rfl,rfl⟩,λb z=>absurd z<|m b,j.bs,j.bsz,λb _ _=>m b,λb z=>absurd z<|m b,j.mX,j.frf⟩,
  rfl,j.bare,Un.kept G,⟨_,x.toInCall.ns,λi y v B g R=>?_⟩,λy c h=>⟨_,x.cell y c h⟩,j.hok.fresh<|R9 _,λy c h=>?_,λp n=>absurd (show p∈([]:Yg) from n)<|by simp,j.hok.kept G,?_⟩
 ·exact name_of_addr x.apart (T8 B)<|T8 g
 ·have l:scope.names.lookup y=some .cell\/scope.names.lookup y=some .free:=l
  obtain l|l:=l
  ·exact wJ l
  ·exact absurd rfl<|S.nofree _<|T8 l
 ·exact Vo<|x.above y c<|T8 h
 ·have C:i<vs.length:=by
   unfold start at g;by_cases C:i<vs.length
   ·exact C
   ·rw[Sf<|by simpa using C]at g
    rw[Xl]at g;split at g<;>cases g
  have L:vs[i]? =some v:=by
   unfold start at g;rw[Sr<|by simpa using C,Sk]at g;cases e:vs[i]? with
   |none=>rw[e]at g;cases g
   |some a=>rw[e]at g;cases g;rfl
  obtain⟨u,I,J⟩:=r.get L;have n:ps[i]? =some y:=by
   rw[<-S.pre,Uh<|by lia];exact B
  have o:ps.Nodup:=by rw[<-S.pre];exact S.nd.sublist<|List.take_sublist _ _
  refine⟨u,J,?_⟩;obtain k|k:=S.par y (R4 n)
  ·exact .inl ⟨k,sZ o n I k⟩
  ·obtain⟨c,e⟩:=wJ k
   refine .inr ⟨.inl k,c,e,?_⟩;have q:=x.cell y c e;rw[ui o n I<|by show scope.names.lookup y≠_;rw[k];decide]at q;exact q
 ·exact j.hok.fresh<|Vo<|x.above y c<|T8 h
 ·unfold start
  show _=N.length;rw[R3,R5,Vk];lia
def Jr{w:X7}{K:Frag}{B:Yh}{base:Heap}{k:Nat}{f:X4}{name j:Yc}{params:Arguments}{body:Yb Stmt}{scope:Scope}{G kV C pm h ct L:X3}{an od:X8 X4}
  {X:Array (X8 X3)}{N ps:Yb Yc}{sp:Sp}(I:K.lookup f=some ⟨L,od,.func<|fnOf name j params body scope G kV C pm an h ct,X⟩) (Z:codeIn K h j=true) (S:cL N ps scope)
  (len:∀vs H Q E,sp vs H Q E->vs.length=ps.length)
  (Yr:∀(A:X9) (outer:Yb Env) (s:X5) (H:Hp) (vs:Yb V) (Q:VK) (E:XK),dB k (A.deeper<|envOfC j scope s.heap.objs.size f h)->sp vs H Q E->
   ∃t,yG (kZ CX P w K B base N j scope f h A outer s H E) body t/\t { nx:=λ_ H'=>Q .non H',rt:=Q } (start N vs) H):
  dZ P w K B base CX (k+1) f (fnOf name j params body scope G kV C pm an h ct) ps sp:=by
 refine⟨len,λA outer s H args us vs Q E hr l M r F=>?_⟩;have D:=l.mod.kin.keeps λb o e=>(l.bs b o e).1;have g:∀y∈ps.zip us,scope.names.lookup y.1=some .local\/(scope.names.lookup y.1=some .cell/\((cellsFrom (s.heap.objs.size+1) scope.names []).lookup y.1).isSome=true):=λ⟨n,v⟩ U=>by
  obtain q|q:=S.par n (XG U).1
  ·exact .inl q
  ·exact .inr ⟨q,Xp _ _ _<|.inl q⟩
 refine codeAny_call_function hr.depth (D _ _ I) rfl S.co S.gen rfl (PySem.W.codeRec_of D Z)<|M _ _ _ _ ?_;refine wpAny_newFunctionEnv_cells S.kind g λT he Y x=>?_;subst he;refine⟨(l.mod.nolimit.keeps λb o e=>(l.bs b o e).1).keeps x.toInCall.keep,codeAny_func ?_⟩;obtain⟨t,O,R⟩:=Yr A outer s H vs Q E (hr.deeper _) F;refine SJ (O [] Y (start N vs) H _ (Ct S hr.hd l (len _ _ _ _ F) r x) R) (λfl p i=>?_) λe p i=>i;have m:∀{a:St}{H':Hp}{v:V}{u:X3},Inv (kZ CX P w K B base N j scope f h A outer s H E) [] a H' p->RelV v u->Q v H'->CE outer P w H s Q u p:=
  λ{a H' v u} J z q=>⟨v,H',J.os,J.bare,J.base,J.hok,z,q⟩
 cases fl with
 |ret u=>
  obtain⟨v,a,H',J,z,q⟩:=i;exact m J z q
 |next=>
  obtain⟨a,H',J,q⟩:=i;exact m (v:=V.non) (u:=Value.none) J rfl q
 |brk=>
  obtain⟨_,_,_,q⟩:=i;exact False.elim q
 |cont=>
  obtain⟨_,_,_,q⟩:=i;exact False.elim q
section
variable {id:String}{T:String}{r:Yb V->Hp->VK->Prop}
def MZ(r:Yb V->Hp->VK->Prop)(t:TA):TE:=λσ H Q=>t σ H λa H1=>r a H1 Q
def iM (w:eW X (.builtin id) r) (o:Gl X x) (hm:X.mg x=none) (j:bootBuiltins x=some (.builtin id)) (m:PA X (e::es) t) (y:x≠ "__name__" :=by decide) (l:(x==("__debug__" :Yc))=false:=by decide)
  (he:starEach (e::es) X.env=(false,eval e X.env)::starEach es X.env:=by rfl)(f:(backTo pos<|starEach es X.env).any (·.1)=false:=by rfl):PE X (.Call (.Name x p) (e::es) [] pos) (MZ r t):=by
 intro a s σ H Q I h;refine T6<|jj I o hm j ?_ y l;exact PyProof.Rows.callWith_builtin1 (c9 (m pos a s σ H _ I h) λi q ⟨g,H1,v,n,q1⟩=>w a q σ H1 g i Q v n q1) he f
def C3 (w:eW X (.type T) r) (o:Gl X x) (hm:X.mg x=none) (j:bootBuiltins x=some (.type T)) (m:PA X (e::es) t) (y:x≠ "__name__" :=by decide) (l:(x==("__debug__" :Yc))=false:=by decide)
  (he:starEach (e::es) X.env=(false,eval e X.env)::starEach es X.env:=by rfl)(f:(backTo pos<|starEach es X.env).any (·.1)=false:=by rfl):PE X (.Call (.Name x p) (e::es) [] pos) (MZ r t):=by
 intro a s σ H Q I h;refine T6<|jj I o hm j ?_ y l;exact TN (c9 (m pos a s σ H _ I h) λi q ⟨g,H1,v,n,q1⟩=>w a q σ H1 g i Q v n q1) he f
end
end L2
namespace HT
def iA(n d:Nat):X8 Int->Nat
 |none=>d
 |some v=>if v<0 then(v+(n:Int)).toNat else min v.toNat n
def jR(n d:Nat):iA n d none=d:=rfl
def mJ(n d k:Nat):iA n d (some (k:Int))=min k n:=by
 show(if(k:Int)<0 then((k:Int)+(n:Int)).toNat else min (k:Int).toNat n)=min k n;rw[R7<|by lia,WH]
def LJ(n d:Nat)(hd:d<=n)(o:X8 Int):iA n d o<=n:=by
 cases o with
 |none=>exact hd
 |some v=>
  show(if v<0 then(v+(n:Int)).toNat else min v.toNat n)<=n;by_cases a:v<0
  ·rw[Sb a];lia
  ·rw[R7 a];exact WO _ _
def Gs(a b:Nat):((min a b:Nat):Int)=min (a:Int) (b:Int):=by lia
end HT
namespace L2
abbrev TO:=St->Hp->(X8 Int->Hp->Prop)->Prop
def PO(X:Cx)(e:X8 Expr)(t:TO):Prop:=
 ∀(f:Yg) (s:X5) (σ:St) (H:Hp) (Q:X8 Int->Hp->Prop),Inv X f σ H s->t σ H Q->
  wpAny (model X.prog X.w) X.A (evalPart e X.env) (λu g=>∃o a,Inv X f σ a g/\IsPart u o/\Q o a) X.xe s
def Bx:TO:=λ_ H Q=>Q none H
inductive PX(x:V)(H:Hp)(Q:X8 Int->Hp->Prop):Prop
 |mk(i:Int)(h:x=.int i)(q:Q (some i) H)
def JM(t:TE):TO:=λσ H Q=>t σ H λx H1=>PX x H1 Q
def intsAre_of{ns:Yb Int}:∀{us:Yb X3},Vals (ns.map V.int) us->IntsAre us ns:=by
 induction ns with
 |nil=>intro us r;rw[map_nil]at r;cases r;exact .nil
 |cons n ns f=>
  intro us r;rw[SV]at r;cases r with
  |cons g a=>
   obtain⟨t,e⟩:=g;subst e;exact .cons n t<|f a
section
variable {te:TE}{lo:X8 Expr}{hi:X8 Expr}{tl:TO}{th:TO}{pos:Pos}{p2:Pos}
def Hv:PO X none Bx:=by
 intro a s σ H Q I h;rw[evalPart_none];exact RZ ⟨none,H,I,.none,h⟩
def HS(h:PE X e te):PO X (some e) (JM te):=by
 intro l s σ H Q I f;rw[evalPart_some];refine c9 (h l s σ H _ I f) λu m a=>?_;obtain⟨x,H1,j,g,q1⟩:=a;obtain⟨i,rfl,q⟩:=q1;obtain⟨t,rfl⟩:=g;exact⟨some i,H1,j,.int i t,q⟩
def Pu(X:Cx)(r:V->X8 Int->X8 Int->Hp->VK->Prop):Prop:=
 ∀(f:Yg) (s:X5) (σ:St) (H:Hp) (x:V) (v e a:X3) (lo g:X8 Int) (sl:X4) (Q:VK),Inv X f σ H s->RelV x v->s.heap.IsSliceOf sl e a .none->IsPart e lo->IsPart a g->r x lo g H Q->
  ∃T id,typeLookup (.type T) "__getitem__" =pure (some<|.builtin id)/\s.TypeIs v T/\wpAny (model X.prog X.w) X.A (getItem v<|.ref sl) (EP X f σ Q) X.xe s
def Rr(r:V->X8 Int->X8 Int->Hp->VK->Prop)(e:TE)(f g:TO):TE:=λσ H Q=>e σ H λx H1=>f σ H1 λl a=>g σ a λu h=>r x l u h Q
def EU(hr:Pu X r)(he:PE X e te)(G:PO X lo tl)(K:PO X hi th):PE X (.Subscript e (.Slice lo hi none p2) pos) (Rr r te tl th):=by
 intro g s σ H Q I h;refine Subscript_<|c9 (he g s σ H _ I h) λv L a=>?_;obtain⟨x,H1,z,n,q1⟩:=a;refine wpAny_Slice<|c9 (G g L σ H1 _ z q1) λj C ⟨l,M,F,pl,N⟩=>c9 (K g C σ M _ F N) λi f a=>?_;obtain⟨u,m,B,J,E⟩:=a;rw[evalPart_none];refine RZ ?_;have o:Inv X g σ m { f with heap:=f.heap.push { cls:=.type "slice",data:=.fields #[j,i,.none] } }:=B.kept (t':=f.toks) λb O q=>R6 _ q;obtain⟨T,id,D,p,y⟩:=hr g { f with heap:=f.heap.push { cls:=.type "slice",data:=.fields #[j,i,.none] } } σ m x v j i l u f.heap.objs.size Q o n (Heap.IsSliceOf.new ..) pl J E;show wpAny (model X.prog X.w) X.A (subscriptTail e (.Slice lo hi none p2) v<|.ref f.heap.objs.size) (EP X g σ Q) X.xe { f with heap:=f.heap.push { cls:=.type "slice",data:=.fields #[j,i,.none] } };exact tail_any p D y (by with_unfolding_all rfl)
def eB(xs:Yb V)(lo a:X8 Int):Yb V:=(xs.drop<|HT.iA xs.length 0 lo).take<|HT.iA xs.length xs.length a-HT.iA xs.length 0 lo
def jG(xs:Yb V)(lo a:X8 Int):(eB xs lo a).length<=xs.length:=by
 unfold eB;rw[Tp,T3];exact SF (WO _ _)<|sub_le _ _
end
def J4(n:Nat)(i:Int):X8 Nat:=if 0<=i then(if i<n then some i.toNat else none) else if -(n:Int)<=i then some (i+n).toNat else none
def mZ{α:Type}(xs:Yb α)(i:Int):X8 α:=(J4 xs.length i).bind λj=>xs[j]?
def Hc(h:J4 n i=some j):seqIndex? i n=some j/\j<n/\ -(n:Int)<=i/\i<n:=by
 unfold J4 at h;by_cases f:0<=i
 ·rw[Sb f]at h
  by_cases a:i<n
  ·rw[Sb a]at h
   have e:=Sy h;exact⟨by rw[seqIndex_of f a,e],by lia,by lia,a⟩
  ·rw[R7 a]at h;cases h
 ·rw[R7 f]at h
  by_cases a: -(n:Int)<=i
  ·rw[Sb a]at h
   have e:=Sy h;exact⟨by rw[seqIndex_neg (by lia) a,e],by lia,a,by lia⟩
  ·rw[R7 a]at h;cases h
def uM{α:Type}{xs:Yb α}{i:Int}{v:α}(h:mZ xs i=some v):∃j,seqIndex? i xs.length=some j/\xs[j]? =some v/\j<xs.length/\ -(xs.length:Int)<=i/\i<xs.length:=by
 unfold mZ at h;cases e:J4 xs.length i with
 |none=>rw[e]at h;cases h
 |some j=>
  rw[e]at h;obtain⟨g,a,l,f⟩:=Hc e;exact⟨j,g,h,a,l,f⟩
def c8{j:Nat}{v:α}(h:xs[j]? =some v):mZ xs (j:Int)=some v:=by
 have a:=(gI0.mp h).1;have e:J4 xs.length (j:Int)=some j:=by
  unfold J4;rw[Sb<|by lia,Sb<|by lia];simp
 unfold mZ;rw[e];exact h
def dR(b:Expr):Prop:=∀o i,subscripted b false o i=operate [o,i] (getItem o i)
def M8(X:Cx)(r:R2):Prop:=
 ∀(value slice:Expr) (a:Yg) (s:X5) (σ:St) (H:Hp) (x y:V) (v u:X3) (Q:VK),Inv X a σ H s->RelV x v->RelV y u->r x y H Q->
  subscripted slice false v u=operate [v,u] (getItem v u)->wpAny (model X.prog X.w) X.A (subscriptTail value slice v u) (EP X a σ Q) X.xe s
def PK(X:Cx)(id:String)(r:V->Yb V->Hp->VK->Prop):Prop:=
 ∀(a:Yg) (s:X5) (σ:St) (H:Hp) (x:V) (xs:Yb V) (v:X3) (us:Yb X3) (Q:VK),Inv X a σ H s->RelV x v->Vals xs us->r x xs H Q->
  wpAny (model X.prog X.w) X.A (call (.builtin id) (v::us)) (EP X a σ Q) X.xe s
section
variable {tb:TE}{pos:Pos}
def N8{r:R2}(hr:M8 X r)(o:PE X a ta)(e:PE X b tb)(j:dR b):PE X (.Subscript a b pos) (yM r ta tb):=by
 intro m s σ H Q I h;exact Subscript_<|My o e I h λv u f x y n g i l q=>hr a b m f σ n x y v u Q g i l q<|j _ _
inductive PH(S:X4->Yb V->Prop)(x y:V)(H:Hp)(Q:VK):Prop
 |mk(p:X4)(xs:Yb V)(i:Int)(v:V)(f:x=.ref p)(a:y=.int i)(s:S p xs)(e:mZ xs i=some v)(q:Q v H)
inductive PU(x y:V)(H:Hp)(Q:VK):Prop
 |mk(z:Yc)(i:Int)(c:Nat)(f:x=.str z)(a:y=.int i)(s:z.length<=sizeLine)(e:mZ z.cps.toList i=some c)(q:Q (.str ⟨#[c]⟩) H)
def xT{K:Frag}{H:Hp}{p:X4}{xs:Yb V}{i:Int}{v:V}{Q:VK}(h:H p=some (.tup xs))(e:mZ xs i=some v)(q:Q v H):PH (fc K H) (.ref p) (.int i) H Q:=⟨p,xs,i,v,rfl,rfl,fc.of h,e,q⟩
def xL{K:Frag}{H:Hp}{p:X4}{xs:Yb V}{i:Int}{v:V}{Q:VK}(h:H p=some (.lst xs))(e:mZ xs i=some v)(q:Q v H):PH (cP K H) (.ref p) (.int i) H Q:=⟨p,xs,i,v,rfl,rfl,cP.of h,e,q⟩
def Fi(K:Frag):R2:=λx y H Q=>PH (cP K H) x y H Q
def Gk(K:Frag):R2:=λx y H Q=>PH (fc K H) x y H Q
def Nm:R2:=λx y H Q=>PU x y H Q
def AL:M8 X (Fi X.K):=by
 intro value slice G s σ H x y v u Q I E F h n;obtain⟨p,N,i,z,rfl,rfl,A,L,q⟩:=h;cases E;obtain⟨t,rfl⟩:=F;obtain⟨J,r,pl,M⟩:=I.list A;obtain⟨j,e,o,O,B,C⟩:=uM L;obtain⟨w,m,f⟩:=r.get o;have D:=r.length;have P:=qE;have a:EP X G σ Q w s:=⟨z,H,I,f,q⟩;by_cases l:0<=i
 ·have g:i.toNat=j:=by
   rw[seqIndex_of l C]at e;exact Sy e
  exact item_listR pl.isList l (by lia) (by rw[g];simpa using m) a n
 ·have g:(i+(J.toArray.size:Int)).toNat=j:=by
   rw[seqIndex_neg (by lia) B]at e;rw[SI,<-D];exact Sy e
  exact subscriptTail_builtinR pl.isList.typeIs slot_list_getitem.lookup
   (wpAny_getItem_list_neg pl.isList (by lia) (by rw[SI]<;>lia) (by lia) (by rw[g];simpa using m) ⟨rfl,a⟩) n
def Fd:M8 X (Gk X.K):=by
 intro value slice J s σ H x y v u Q I l n h m;obtain⟨p,F,i,z,rfl,rfl,f,o,q⟩:=h;cases l;obtain⟨t,rfl⟩:=n;obtain⟨M,r,pl,D⟩:=I.tuple f;obtain⟨j,B,e,G,A,C⟩:=uM o;obtain⟨w,g,a⟩:=r.get e;have E:=r.length;have L:=qE;exact subscriptTail_builtinR pl.typeIs slot_tuple_getitem.lookup
  (getItem_tuple (j:=j) pl (by lia) (by lia) (by grind) (by simpa using g) ⟨rfl,⟨z,H,I,a,q⟩⟩) m
def zj:M8 X Nm:=by
 intro value slice D s σ H x y v u Q I n p h o;obtain⟨z,i,c,rfl,rfl,B,w,q⟩:=h;obtain⟨t,rfl⟩:=n;obtain⟨A,rfl⟩:=p;obtain⟨j,a,e,C,f,g⟩:=uM w;have m:z.cps.toList.length=z.length:=by simp[Str.length]
 rw[m]at a f g;have E:=qE;exact tail_any (typeIs_str s z t) slot_str_getitem.lookup (getItem_str (by
  have r:decide (i < -(2^63:Int))=false:=Se (by lia);have l:decide (i ≥ 2^63)=false:=Se (by lia);rw[r,l,Bool.or_false]) (by rw[a];simpa using e) ⟨.str ⟨#[c]⟩,H,I.tok _,⟨_,rfl⟩,q⟩) o
def Ez(v:Int)(n d:Nat):max 0 (min (if v<0 then v+(n:Int) else v) (n:Int))=((HT.iA n d (some v):Nat):Int):=by
 show _=(((if v<0 then(v+(n:Int)).toNat else min v.toNat n):Nat):Int);by_cases a:v<0
 ·rw[Sb a,Sb a,Int.toNat_eq_max,Int.max_comm,Int.min_eq_left<|by lia]
 ·rw[R7 a,R7 a,HT.Gs,T9<|Int.not_lt.mp a]
  exact Int.max_eq_right<|Int.le_min.mpr ⟨Int.not_lt.mp a,Int.natCast_nonneg n⟩
def vx(lo a:X8 Int)(n:Nat):(sliceBounds lo a none n).1=((HT.iA n 0 lo:Nat):Int)/\(sliceBounds lo a none n).2.1=((HT.iA n n a:Nat):Int)/\(sliceBounds lo a none n).2.2=1:=by
 refine⟨?_,?_,rfl⟩
 ·cases lo with
  |none=>simp[sliceBounds,HT.iA]
  |some i=>
   simp only[sliceBounds,getD_none,show(1:Int) > 0 by decide,if_true];exact Ez i n 0
 ·cases a with
  |none=>simp[sliceBounds,HT.iA]
  |some i=>
   simp only[sliceBounds,getD_none,show(1:Int) > 0 by decide,if_true];exact Ez i n n
def rL(a:Yb X3)(lo e:X8 Int):slicePick a.toArray lo e none=((a.drop<|HT.iA a.length 0 lo).take<|HT.iA a.length a.length e-HT.iA a.length 0 lo).toArray:=by
 obtain⟨g,f,h⟩:=vx lo e a.toArray.size;unfold slicePick;rw[g,f,h];simp only[sliceRange_one,pick_run,size_toArray]<;>rfl
inductive RV(K:Frag)(x:V)(lo e:X8 Int)(H:Hp)(Q:VK):Prop
 |mk(a:X4)(xs:Yb V)(f:x=.ref a)(s:cP K H a xs)(q:∀p,H p=none->Q (.ref p) (upd H p (.lst (eB xs lo e))))
def N7(K:Frag):V->X8 Int->X8 Int->Hp->VK->Prop:=λx a e H Q=>RV K x a e H Q
def GG:Pu X (N7 X.K):=by
 intro A s σ H x v z w f i sl Q I n o pl m h;obtain⟨a,e,rfl,p,q⟩:=h;cases n;obtain⟨B,r,g,l⟩:=I.list p;have j:=r.length;refine⟨"list",_,slot_list_getitem.lookup,g.isList.typeIs,?_⟩;refine wpAny_getItem_list_slice g.isList o pl m .none (by simp) ?_ (by grind);rw[rL,<-j];refine⟨.ref s.heap.objs.size,_,I.laid (t':=s.toks) (λb y q=>R6 _ q) (R9 _) ?_,rfl,q _<|I.hok.fresh<|R9 _⟩;exact⟨SF (jG e f i) l,_,0,(r.drop<|HT.iA e.length 0 f).take<|HT.iA e.length e.length i-HT.iA e.length 0 f,Sl _ rfl⟩
def dI:V->Bool
 |.non=>true
 |.bl _=>true
 |.int _=>true
 |.str _=>true
 |_=>false
def tf:V->V->Bool
 |.non,.non=>true
 |.bl a,.bl b=>a==b
 |.bl a,.int b=>(if a then 1 else 0)==b
 |.int a,.bl b=>a==(if b then 1 else 0)
 |.int a,.int b=>a==b
 |.str a,.str b=>a==b
 |_,_=>false
def u7(h:RelV y u)(e:RelV x v)(i:dI y=true)(g:dI x=true):SeqAt.EqAt A s u v (tf y x):=by
 cases y with
 |non=>
  cases h;cases x with
  |non=>cases e;exact Xq _
  |bl b=>cases e;exact SeqAt.EqAt.none_bool b
  |int b=>obtain⟨t,rfl⟩:=e;exact SeqAt.EqAt.none_int b t
  |str b=>obtain⟨t,rfl⟩:=e;exact SeqAt.EqAt.none_str b t
  |_=>exact absurd (show false=true from g) bF0
 |bl a=>
  cases h;cases x with
  |non=>cases e;exact SeqAt.EqAt.bool_none a
  |bl b=>cases e;exact SeqAt.EqAt.bool_bool a b
  |int b=>obtain⟨t,rfl⟩:=e;exact SeqAt.EqAt.bool_int a b t
  |str b=>obtain⟨t,rfl⟩:=e;exact SeqAt.EqAt.bool_str a b t
  |_=>exact absurd (show false=true from g) bF0
 |int a=>
  obtain⟨f,rfl⟩:=h;cases x with
  |non=>cases e;exact SeqAt.EqAt.int_none a f
  |bl b=>cases e;exact SeqAt.EqAt.int_bool a f b
  |int b=>obtain⟨t,rfl⟩:=e;exact SeqAt.EqAt.int_int a f b t
  |str b=>obtain⟨t,rfl⟩:=e;exact SeqAt.EqAt.int_str a f b t
  |_=>exact absurd (show false=true from g) bF0
 |str a=>
  obtain⟨f,rfl⟩:=h;cases x with
  |non=>cases e;exact SeqAt.EqAt.str_none a f
  |bl b=>cases e;exact SeqAt.EqAt.str_bool a f b
  |int b=>obtain⟨t,rfl⟩:=e;exact SeqAt.EqAt.str_int a f b t
  |str b=>obtain⟨t,rfl⟩:=e;exact SeqAt.EqAt.str_str a f b t
  |_=>exact absurd (show false=true from g) bF0
 |_=>exact absurd (show false=true from i) bF0
def zH(x:V)(u:X3):Bool:=match u with
 |.none=>tf .non x
 |.bool b=>tf (.bl b) x
 |.int i _=>tf (.int i) x
 |.str z _=>tf (.str z) x
 |_=>false
def Ei(r:RelV y u)(f:dI y=true):zH x u=tf y x:=by
 cases y with
 |non=>cases r;rfl
 |bl b=>cases r;rfl
 |int i=>obtain⟨t,rfl⟩:=r;rfl
 |str z=>obtain⟨t,rfl⟩:=r;rfl
 |_=>exact absurd (show false=true from f) bF0
theorem mK{x:V}:∀{xs:Yb V}{us:Yb X3},Vals xs us->xs.all dI=true->us.any (zH x)=xs.any λy=>tf y x
 |_,_,.nil,_=>rfl
 |y::xs,u::us,.cons r t,f=>by
  rw[W0,Uj]at f;rw[Uu,Uu,Ei r f.1,mK t f.2]
theorem jI{A:X9}{s:X5}{x:V}{v:X3}(g:RelV x v)(e:dI x=true):∀{xs:Yb V}{us:Yb X3},Vals xs us->xs.all dI=true->∀u∈us,SeqAt.EqAt A s u v (zH x u)
 |_,_,.nil,_=>λu a=>by cases a
 |y::xs,u::us,.cons r t,f=>λh a=>by
  rw[W0,Uj]at f;obtain rfl|a:=SS.mp a
  ·rw[Ei r f.1];exact u7 r g f.1 e
  ·exact jI g e t f.2 h a
def J6(x:V)(xs:Yb V):Bool:=xs.any λy=>tf y x
inductive RD(K:Frag)(neg:Bool)(x y:V)(H:Hp)(Q:VK):Prop
 |mk(p:X4)(xs:Yb V)(a:y=.ref p)(s:cP K H p xs\/fc K H p xs)(f:dI x=true)(fs:xs.all dI=true)(q:Q (.bl (if neg then !J6 x xs else J6 x xs)) H)
def Oi(K:Frag)(neg:Bool):R2:=λx y H Q=>RD K neg x y H Q
def iK:iU X (compareOp .In) (Oi X.K false):=by
 intro n s σ H x y v u Q I i l h;obtain⟨p,m,rfl,a,g,fs,q⟩:=h;cases l;obtain a|a:=a
 ·obtain⟨e,r,pl,j⟩:=I.list a
  refine SeqAt.in_listAt (zH x) pl.isList (λw f=>jI i g r fs w<|by simpa using f) ⟨.bl _,H,I,rfl,?_⟩;rw[show e.toArray.any (zH x)=e.any (zH x) by simp,mK r fs];exact q
 ·obtain⟨e,r,pl,j⟩:=I.tuple a
  refine SeqAt.in_tupleAt (zH x) pl (λw f=>jI i g r fs w<|by simpa using f) ⟨.bl _,H,I,rfl,?_⟩;rw[show e.toArray.any (zH x)=e.any (zH x) by simp,mK r fs];exact q
def gv:iU X (compareOp .NotIn) (Oi X.K true):=by
 intro n s σ H x y v u Q I i l h;obtain⟨p,m,rfl,a,g,fs,q⟩:=h;cases l;obtain a|a:=a
 ·obtain⟨e,r,pl,j⟩:=I.list a
  refine SeqAt.notIn_listAt (zH x) pl.isList (λw f=>jI i g r fs w<|by simpa using f) ⟨.bl _,H,I,rfl,?_⟩;rw[show e.toArray.any (zH x)=e.any (zH x) by simp,mK r fs];exact q
 ·obtain⟨e,r,pl,j⟩:=I.tuple a
  refine SeqAt.notIn_tupleAt (zH x) pl (λw f=>jI i g r fs w<|by simpa using f) ⟨.bl _,H,I,rfl,?_⟩;rw[show e.toArray.any (zH x)=e.any (zH x) by simp,mK r fs];exact q
inductive M6(K:Frag)(xs:Yb V)(H:Hp)(Q:VK):Prop
 |mk(p:X4)(ys:Yb V)(e:xs=[.ref p])(s:cP K H p ys\/fc K H p ys)(q:Q (.int ys.length) H)
def uY:eW X (.builtin "len") (λxs H Q=>L2.M6 X.K xs H Q):=by
 intro m s σ H xs o Q I r h;obtain⟨p,g,rfl,a,q⟩:=h;obtain⟨u,rfl,j⟩:=vals1 r;cases j;have n:=qE;obtain a|a:=a
 ·obtain⟨l,e,pl,i⟩:=I.list a
  have f:=e.length;exact Calls.call_len_list pl.isList (by simp only[size_toArray]<;>lia) ⟨.int g.length,H,I.tok _,⟨s.toks+1,by rw[SI,f]⟩,q⟩
 ·obtain⟨l,e,pl,i⟩:=I.tuple a
  have f:=e.length;exact len_tuple pl (by simp only[size_toArray]<;>lia) ⟨.int g.length,H,I.tok _,⟨s.toks+1,by rw[SI,f]⟩,q⟩
def gx:eW X (.builtin "len") (λxs H Q=>∃z,xs=[.str z]/\z.length<=sizeLine/\Q (.int z.length) H):=by
 intro e s σ H xs a Q I r h;obtain⟨z,rfl,g,q⟩:=h;obtain⟨u,rfl,t,rfl⟩:=vals1 r;have f:=qE;exact len_str (by lia) ⟨.int z.length,H,I.tok _,⟨_,rfl⟩,q⟩
def vZ:eW X (.type "list") (λxs H Q=>∃p ys,xs=[.ref p]/\(cP X.K H p ys\/fc X.K H p ys)/\∀l,H l=none->Q (.ref l) (upd H l<|.lst ys)):=by
 intro E s σ H xs F Q I r h;obtain⟨p,ys,rfl,v,q⟩:=h;obtain⟨u,rfl,D⟩:=vals1 r;cases D;have m:∀(f:Yb X3),Vals ys f->ys.length<=sizeLine->∀(a:Heap) (i:Nat),(∀b B,s.heap.get? b=some B->a.get? b=some B)->
   a.get? s.heap.objs.size=some { cls:=.type "list",dict:=none,data:=.seq f.toArray i,slots:= #[] }->EP X E σ Q (.ref s.heap.objs.size) { s with heap:=a }:=λf g x a i j e=>
  ⟨.ref s.heap.objs.size,_,I.laid (t':=s.toks) j (R9 _)<|show cV X.prog X.w _ a _ (.lst ys) from ⟨x,f,i,g,e⟩,rfl,q _<|I.hok.fresh<|R9 _⟩
 obtain v|v:=v
 ·obtain⟨f,g,pl,x⟩:=I.list v
  have C:=g.length;obtain⟨o,z,A,n,y⟩:=pl.isList;exact call_list_seq p (.inl rfl) z A y (λa i j e=>m f g x a i j e) (by simp only[size_toArray]<;>lia)
 ·obtain⟨f,g,pl,x⟩:=I.tuple v
  have C:=g.length;obtain⟨o,z,A,n,y⟩:=pl;exact call_list_seq p (.inr rfl) z A y (λa i j e=>m f g x a i j e) (by simp only[size_toArray]<;>lia)
def QW(K:Frag)(T:String)(x:V)(H:Hp):Prop:=match x with
 |.str _=>T= "str"
 |.int _=>T= "int"
 |.ref p=>(T= "list" /\∃e,cP K H p e)\/(T= "tuple" /\∃o,K.lookup p=some o/\o.cls=.type "tuple" /\o.dict=none)\/
   (T= "dict" /\((∃a,H p=some (.dK a))\/∃a,H p=some (.dT a)))\/(T= "set" /\∃S n,H p=some (.set S n))
 |_=>False
def El(I:Inv X Yi σ H s)(r:RelV x v)(ty:QW X.K T x H):
  s.TypeIs v T/\∀a,v=.ref a->∃l,s.heap.get? a=some l/\l.dict=none:=by
 cases x with
 |str z=>
  obtain⟨t,rfl⟩:=r;cases (show T= "str" from ty);exact⟨typeIs_str s z t,λ_ e=>nomatch e⟩
 |int i=>
  obtain⟨t,rfl⟩:=r;cases (show T= "int" from ty);exact⟨typeIs_int s i t,λ_ e=>nomatch e⟩
 |ref p=>
  cases r;obtain ⟨rfl,y,m⟩|⟨rfl,o,f,w,h⟩|⟨rfl,f⟩|⟨rfl,S,n,f⟩:=ty
  ·obtain⟨A,_,pl,_⟩:=I.list m
   refine⟨pl.isList.typeIs,λa e=>?_⟩;cases e;obtain⟨o,n,e,c,h,_⟩:=pl;exact⟨o,e,h⟩
  ·refine⟨⟨o,I.jm p o f,w⟩,λa e=>?_⟩
   cases e;exact⟨o,I.jm _ o f,h⟩
  ·have z:∃o,s.heap.get? p=some o/\o.ExactDict:=by
    obtain ⟨q,f⟩|⟨q,f⟩:=f
    ·obtain⟨_,_,_,_,o,_,_,e,g,_⟩:=I.hok p _ f
     exact⟨o,e,g⟩
    ·obtain⟨_,_,_,_,o,_,_,e,g,_⟩:=I.hok p _ f
     exact⟨o,e,g⟩
   obtain⟨o,e,g⟩:=z;refine⟨⟨o,e,g.1⟩,λa j=>?_⟩;cases j;exact⟨o,e,g.2.1⟩
  ·obtain⟨o,_,_,_,e,g,_⟩:=I.hok p _ f
   refine⟨⟨o,e,g.1⟩,λa j=>?_⟩;cases j;exact⟨o,e,g.2.1⟩
 |_=>exact False.elim ty
def OL(K:Frag)(T:String)(r:V->Yb V->Hp->VK->Prop)(to:TE):TE:=λσ H Q=>to σ H λx H1=>QW K T x H1/\r x [] H1 Q
def Rk(K:Frag)(T:String)(r:V->Yb V->Hp->VK->Prop)(to:TE)(t:TA):TE:=λσ H Q=>to σ H λx H1=>QW K T x H1/\t σ H1 λa e=>r x a e Q
variable {T:String}{id:String}{r:V->Yb V->Hp->VK->Prop}
def Lj (w:PlainAttrs T) (slot:Slot T name id) (e:typeOf (.builtin id)=pure (.type "method_descriptor")) (hm:PK X id r) (p:PE X o to)
  (m:attributeBase o name X.env (eval o X.env)=eval o X.env:=by rfl)(l:(Yo.endLine==Yn.line)=true:=by rfl):PE X (.Call (.Attribute o name Yo) [] [] Yn) (OL X.K T r to):=by
 intro i s σ H Q I h;refine wpAny_Call_method0_late m l<|c9 (p i s σ H _ I h) λv q a=>?_;obtain⟨x,H1,g,f,ty,q1⟩:=a;obtain⟨n,j⟩:=El g f ty;exact⟨T,id,w,slot,e,n,j,Uk rfl<|XY<|hm i q σ H1 x [] v [] Q g f .nil q1⟩
def OU (M:PlainAttrs T) (slot:Slot T name id) (g:typeOf (.builtin id)=pure (.type "method_descriptor")) (hm:PK X id r) (C:PE X o to) (L:PA X (e::es) t)
  (y:attributeBase o name X.env (eval o X.env)=eval o X.env:=by rfl)
  (f:((backTo Yn<|starEach (e::es) X.env).all (λx=> !x.1)&&(backToKw Yn<|keywordEach [] X.env).all (λx=>x.1.isSome)
   && decide ((e::es).length+([]:Yb Keyword).length+(if([]:Yb Keyword).isEmpty then 0 else 1)<30))=true:=by rfl)
  (p:(Yo.endLine==Yn.line)=true:=by rfl) (E:starEach (e::es) X.env=(false,eval e X.env)::starEach es X.env:=by rfl) (B:(backTo Yn<|starEach es X.env).any (·.1)=false:=by rfl):
  PE X (.Call (.Attribute o name Yo) (e::es) [] Yn) (Rk X.K T r to t):=by
 intro i s σ H Q I h;refine wpAny_Call_method_late y f p rfl<|c9 (C i s σ H _ I h) λv D a=>?_;obtain⟨x,H1,l,j,ty,q1⟩:=a;obtain⟨z,n⟩:=El l j ty;refine⟨T,id,M,slot,g,z,n,?_⟩;have m:=L Yn i D σ H1 _ l q1;rw[E]at m ⊢;refine Uk (by show(false||(backTo Yn<|starEach es X.env).any (·.1))=false;rw[B]<;>rfl)<|UT ?_;exact c9 m λJ w ⟨q,G,A,F,N⟩=>hm i w σ G x q v J Q A j F N
end
def PJ(X:Cx)(id:String)(r:V->Yb V->Hp->VK->Prop):Prop:=
 ∀(a:Yg) (s:X5) (σ:St) (H:Hp) (x:V) (xs:Yb V) (v:X3) (us:Yb X3) (Q:VK),Inv X a σ H s->RelV x v->Vals xs us->r x xs H Q->
  wpAny (model X.prog X.w) X.A (call (.builtin id) (v::us)) (EP X a σ Q) X.xe s
def Vals.one:∀{x:V}{us:Yb X3},Vals [x] us->∃u,us=[u]/\RelV x u
 |_,_,.cons r .nil=>⟨_,rfl,r⟩
def Vals.zero:∀{us:Yb X3},Vals [] us->us=[]
 |_,.nil=>rfl
theorem Vals.eraseIdx:∀{xs:Yb V}{us:Yb X3}(i:Nat),Vals xs us->Vals (xs.eraseIdx i) (us.eraseIdx i)
 |_,_,_,.nil=>.nil
 |_,_,0,.cons _ t=>t
 |_,_,i+1,.cons r t=>.cons r<|Vals.eraseIdx i t
theorem sR{α:Type}:∀(l:Yb α) (i:Nat),(l.eraseIdx i).length<=l.length
 |[],_=>R9 _
 |_::_,0=>VP _
 |_::r,i+1=>Nat.succ_le_succ<|sR r i
def Inv.Hx{a YH:Yb X3}{f:Array X3->Array X3}{t':Nat}(I:Inv X Yi σ H s)(h:H l=some (.lst xs))
  (e:s.heap.get? l=some { cls:=.type "list",data:=.seq a.toArray n }) (hf:f a.toArray=YH.toArray) (g:Vals ys YH) (m:ys.length<=sizeLine):
  Inv X Yi σ (upd H l<|.lst ys) { s with heap:=s.heap.update l<|Obj.mapSeq f,toks:=t' }:=by
 have q:=PySem.IsL.update e f;rw[hf]at q;refine I.write (by rw[h];exact trivial) (.inl rfl) (λo u j i=>(U5 s.heap (Obj.mapSeq f)<|Ui j).trans i) ⟨_,q⟩ ?_;exact⟨m,YH,_,g,q⟩
def Inv.Qo(I:Inv X Yi σ H s)(a:Vals ys Yl)(e:ys.length<=sizeLine):
  Inv X Yi σ (upd H s.heap.objs.size<|.lst ys) { s with heap:=s.heap.push { cls:=.type "list",data:=.seq Yl.toArray },toks:=t' }:=
 I.laid (λ_ _ q=>R6 _ q) (R9 _) ⟨e,Yl,0,a,Sl _ rfl⟩
def Inv.fresh(I:Inv X Yi σ H s):H s.heap.objs.size=none:=I.hok.fresh<|R9 _
def Inv.DJ(I:Inv X Yi σ H s)(f:H l=some (.lst xs)):xs.length<=sizeLine/\∃(a:Yb X3) (n:Nat),Vals xs a/\xs.length=a.length/\s.heap.get? l=some { cls:=.type "list",data:=.seq a.toArray n }:=by
 obtain⟨z,a,n,r,e⟩:=I.hok l _ f;exact⟨z,a,n,r,r.length,e⟩
def FD(h:n<=sizeLine):Builtin.List.listTooLong n=false:=by
 unfold Builtin.List.listTooLong;exact Se (by lia)
inductive Qc(x:V)(vs:Yb V)(H:Hp)(Q:VK):Prop
 |mk(l:X4)(xs:Yb V)(y:V)(e:x=.ref l)(a:vs=[y])(s:H l=some (.lst xs))(b:xs.length<sizeLine)(q:Q .non (upd H l (.lst (xs++[y]))))
def Bd:V->Yb V->Hp->VK->Prop:=λx a H Q=>Qc x a H Q
def tN:PJ X "list.append" Bd:=by
 intro A s σ H x m v B Q I i g h;obtain⟨l,w,y,rfl,rfl,a,o,q⟩:=h;cases i;obtain⟨u,rfl,j⟩:=g.one;obtain⟨z,f,n,r,p,e⟩:=I.DJ a;refine WV SE ⟨_,e,rfl⟩ F.entry_list_append (F.args_list_append_2 _ _) (PySem.list_append l f.toArray n u<|by grind) ⟨e,.non,_,I.Hx (YH:=f++[u]) a e (by simp) (r.append<|.cons j .nil) ?_,rfl,q⟩;rw[R3,List.length_singleton];lia
def BL:V->Yb V->Hp->VK->Prop:=λx f H Q=>∃l b a e,x=.ref l/\f=[.ref b]/\H l=some (.lst a)/\H b=some (.lst e)/\a.length+e.length<=sizeLine/\Q .non (upd H l<|.lst<|a++e)
def nI:PJ X "list.extend" BL:=by
 intro M s σ H x G v N Q I p o h;obtain⟨l,b,L,D,rfl,rfl,i,A,J,q⟩:=h;cases p;obtain⟨u,rfl,y⟩:=o.one;cases y;obtain⟨z,g,n,r,K,e⟩:=I.DJ i;obtain⟨E,a,C,w,j,m⟩:=I.DJ A;have B:g.toArray.size+a.toArray.size<=sizeLine:=by rw[SI,SI];lia
 have f:¬(!g.toArray.isEmpty&&Builtin.List.listTooLong (g.toArray.size+a.toArray.size))=true:=by
  rw[FD B,TX];exact bF0
 refine WV F.slot_list_extend ⟨_,e,rfl⟩ F.entry_list_extend (F.args_list_extend_2 _ _)
  (AutoSeq1.list_extend_list_list_0 l g.toArray n b a.toArray C f (by lia)<|by lia) ⟨e,m,?_⟩
 refine⟨.non,_,I.Hx (YH:=g++a) i e (by simp) (r.append w) ?_,rfl,q⟩;rw[R3];lia
def Fc:V->Yb V->Hp->VK->Prop:=λx e H Q=>∃l a i k y,x=.ref l/\e=[.int i]/\H l=some (.lst a)/\ -(2^63)<=i/\i<2^63/\seqIndex? i a.length=some k/\a[k]? =some y/\Q y (upd H l<|.lst<|a.eraseIdx k)
def qv:PJ X "list.pop" Fc:=by
 intro K s σ H x J v L Q I E p h;obtain⟨l,D,i,k,y,rfl,rfl,g,o,j,m,C,q⟩:=h;cases E;obtain⟨u,rfl,G⟩:=p.one;obtain⟨t,rfl⟩:=G;obtain⟨z,a,n,r,B,e⟩:=I.DJ g;obtain⟨w,A,f⟩:=r.get C;refine WV F.slot_list_pop ⟨_,e,rfl⟩ F.entry_list_pop (F.args_list_pop_2 _ _)
  (MeetsSeq.list_pop_at l a.toArray n i t k w (fitsIndex_both o j) (by rw[SI,<-B];exact m) (by rw[<-Sx];exact A)<|by rw[SI];lia) ⟨e,?_⟩
 refine⟨y,_,I.Hx (YH:=a.eraseIdx k) g e ?_ (r.eraseIdx k) ?_,f,q⟩
 ·show a.toArray.eraseIdxIfInBounds k=(a.eraseIdx k).toArray
  rw[List.eraseIdxIfInBounds_toArray]
 ·have:=sR D k
  lia
def Fp:V->Yb V->Hp->VK->Prop:=λx e H Q=>∃l a,x=.ref l/\e=[]/\H l=some (.lst a)/\Q .non (upd H l<|.lst [])
def pU:PJ X "list.clear" Fp:=by
 intro w s σ H x m v y Q I i g h;obtain⟨l,p,rfl,rfl,f,q⟩:=h;cases i;have a:=g.zero;subst a;obtain⟨z,j,n,r,o,e⟩:=I.DJ f;exact WV F.slot_list_clear ⟨_,e,rfl⟩ F.entry_list_clear (F.args_list_clear_1 _) (AutoSeq1.list_clear_list_0 l j.toArray n<|by grind) ⟨e,.non,_,I.Hx (YH:=[]) f e rfl .nil<|Tq _,rfl,q⟩
end L2
namespace Att
open PySem.W PySem.Calls
def o6{P:Params}{h:Heap}:∀(ns:Yb Int) (vs:Yb X3),WellAll P h vs (ns.map WData.int)->IntsAre vs ns:=by
 intro ns
 induction ns with
 |nil=>
  intro vs w;rw[map_nil]at w;cases w;exact .nil
 |cons n ns e=>
  intro vs w;rw[SV]at w;cases w with
  |cons a b=>
   cases a;exact .cons _ _<|e _ b
def Dl{l:OpenLaw}(z:l.most=some n){h:Heap}{args:Yb WData}{j:Yb X3}
  (m:l.row.toRowW.claim.pre args=true)(i:WellAll P h j args):
  ∃a vs ns,j=[Value.ref a]/\args=[WData.list<|ns.map WData.int]/\h.get? a=some { cls:=.type "list",data:=.seq vs.toArray }/\IntsAre vs ns/\ns.length<=n:=by
 have o:l.pre.holds [] { args:=args }=true:=(pre_splitW m).2;obtain⟨d,r,rfl,w,s⟩:=hasAllW_cons<|(pre_splitW m).1;obtain rfl:=hasAllW_nil s;obtain⟨B,rfl,y⟩:=hasW_list w;obtain⟨ns,rfl⟩:=items_int y;have v:ns.length<=n:=by
  unfold OpenLaw.pre at o;have f:(WTm.not<|.lt (.lit<|.int (n:Int))<|.len<|.arg 0).holds [] { args:=[.list<|ns.map .int] }=true:=by
   have f:=(holds_andW o).1;rw[z]at f;exact f
  have g:=condW_of f<|w_not<|w_lt w_lit<|w_len_list<|w_arg rfl;rw[R5]at g;refine Nat.le_of_not_lt λq=>?_
  first
   | (rw[dT0<|by lia]at g;exact absurd g<|by decide)
   | (simp at g;lia)
 cases i with
 |cons p A=>
  cases A;cases p with
  |list x e=>exact⟨_,_,ns,rfl,rfl,x,o6 ns _ e,v⟩
def CH(l:OpenLaw)(args:Yb WData):l.row.toRowW.claim.post args (.bool true) args=true:=
 postW_of
  (show WShape.has [] (.bool true) .bool=true by first|rfl|decide|simp[WShape.has,WShape.arms,WShape.armsAll])
  (show(WTm.eq .res<|.lit<|.bool true).value [] { args:=args,res:=some<|.bool true,after:=args }=some (.bool<|true==true) from w_eq_bool (w_res rfl) w_lit) rfl
def xf{l:OpenLaw}{loose:Yb Yc}{XP:(Yh)->Heap->Prop}{YP:X7->Heap->Prop}{d:DefRec}
  (L:l.most=some n)(v:d.params.defaults=[])
  (call:∀(w:X7)(s₀ e:X5)(j x:Yh)(h:X4)(o:Obj)(m i p:X3)(a:X4)(vs:Yb X3)(ns:Yb Int),
   Ground q loose [] XP w s₀ j x e.heap->YP w e.heap->
   e.heap.get? h=some o->o.data=.func (docDef d.name d.params d.body d.scope m i p)->e.heap.CodeRec i d.name->j d.name=some (.ref h)->
   e.heap.get? a=some { cls:=.type "list",data:=.seq vs.toArray }->IntsAre vs ns->ns.length<=n->e.gens= #[]->
   codeAny (model l.prog w) callerA (.call (.ref h) ⟨[.ref a],[]⟩) (λr s'=>r=.ok (.ret<|.bool true)/\OldK e.heap s'.heap/\s'.os=e.os/\AllBare s'.gens) e):
  WalkO q loose XP YP l.row.toRowW d [] (λf vs=>PySem.call f vs):=by
 intro w s₀ e j x G Y h o m i p O kV I B K z y D args R Q M A P s S;obtain rfl:O=.none:=Dflts.none z v;obtain rfl:kV=.none:=Dflts.noKw z;obtain⟨a,vs,ns,rfl,rfl,g,hints,E⟩:=Dl L M s;refine enter_call<|UD (call w s₀ e j x h o m i p a vs ns G Y I (fd_plain B) K y g hints E D) λr s' F=>?_;obtain⟨rfl,C,J,H⟩:=F;exact⟨.inl ⟨.bool true,.bool true,[],rfl,λ_=>rfl,.bool true,CH l _,λ_=>⟨List.Pairwise.nil,λ_ N=>nomatch N⟩⟩,C,J,H⟩
end Att
namespace L2
theorem sH:∀{vs:Yb X3}{ns:Yb Int},IntsAre vs ns->Vals (ns.map V.int) vs
 |_,_,.nil=>.nil
 |_,_,.cons n t h=>.cons ⟨t,rfl⟩<|sH h
def Mu(H:Hp):Prop:=∀b,H b=none\/∃o a,H b=some (.frz o<|.lst a)
def E6{w:X7}{K:Frag}{I O:Yh}{CX:Jt}{k:Nat}{M a:X4}{fd:FuncData}{x:Yc}{sp:Sp}{f:X5}{vs:Yb X3}{ns:Yb Int}
  (U:K.In f.heap) (A:f.heap.Ns mainGlobals I) (i:f.heap.Ns builtinsNs O) (S:∀x:Yc,x≠ "__name__" ->O x=bootBuiltins x) (B:f.heap.NoLimit) (hg:f.gens= #[])
  (L:f.heap.get? a=some { cls:=.type "list",data:=.seq vs.toArray }) (hi:IntsAre vs ns) (Z:ns.length<=sizeLine) (hr:dB k callerA)
  (F:∀base:Heap,K.In base->base.Ns mainGlobals I->dZ P w K I base CX k M fd [x] sp)(l:∀(s:X5)(u:X3),BindsTo s fd ⟨[u],[]⟩ [(x,u)])
  (Zh:∀H:Hp,Mu H->cP K H a (ns.map V.int)->sp [.ref a] H (λv _=>v=.bl true) λ_ _ _=>False)
  (R:∀H e s',CX [] H f (λ_ _ _=>False) e s'->False):
  codeAny (model P w) callerA (.call (.ref M) ⟨[.ref a],[]⟩) (λr s'=>r=.ok (.ret<|.bool true)/\OldK f.heap s'.heap/\s'.os=f.os/\AllBare s'.gens) f:=by
 have Y:=sH hi;have D:=hi.length;have core:∀H:Hp,Mu H->cP K H a (ns.map V.int)->fM P w H f.heap->(∀b,H b≠none->b=a)->(H a≠none->K.lookup a=none)->
   codeAny (model P w) callerA (.call (.ref M) ⟨[.ref a],[]⟩) (λr s'=>r=.ok (.ret<|.bool true)/\OldK f.heap s'.heap/\s'.os=f.os/\AllBare s'.gens) f:=by
  intro H W hS E X hK;have g:∀{b:X4}{o:Obj},f.heap.get? b=some o->H b=none->(vc f.heap H).get? b=some o:=λe n=>EN e n;have T:∀{b:X4}{o:Obj}{C:Array DictEntry}{G:Nat},f.heap.get? b=some o->o.data=.dict C G->H b=none:=λ{b o C G} e d=>by
   cases q:H b with
   |none=>rfl
   |some u=>
    have Q:b=a:=X b (by rw[q];simp);subst Q;rw[L]at e;cases e;have d':Data.seq vs.toArray _=Data.dict C G:=d;cases d'
  have j:∀{b:X4}{m:Yh},f.heap.Ns b m->(vc f.heap H).Ns b m:=λ{b m} ⟨o,C,G,e,d,r⟩=>⟨o,C,G,g e<|T e d,d,r⟩;have J:K.In (vc f.heap H):=λb o e=>g (U b o e) (by
   cases q:H b with
   |none=>rfl
   |some u=>
    have Q:b=a:=X b (by rw[q];simp);subst Q;rw[hK<|by rw[q];simp]at e;cases e)
  have hM:Mod K I (vc f.heap H):=⟨J,j A,⟨O,j i,S⟩,let ⟨mc,h1,h2⟩:=B;⟨mc,j h1,h2⟩⟩;have e0:rP P w K I (vc f.heap H) callerA [] f H:=⟨rfl,hM,λb o e=>Jm e,Um<|BN _ _,trivial,λb i=>absurd (show b∈([]:Yb X4) from i)<|by simp,E,.of_eq hg⟩;refine UD ((F _ J<|j A).run callerA [] f H ⟨[.ref a],[]⟩ [.ref a] [.ref a] _ _ hr e0 (l f<|.ref a) (.cons rfl .nil)<|Zh H W hS) λr s' h=>?_;cases r with
  |error e=>exact(R H e s' h).elim
  |ok fl=>
   cases fl with
   |next=>exact False.elim h
   |brk=>exact False.elim h
   |cont=>exact False.elim h
   |ret u=>
    obtain⟨v,H',os,bare,un,y,r',q⟩:=h;have q':v=.bl true:=q;subst q';obtain rfl:u=Value.bool true:=r';refine⟨rfl,OldK.of_keep λb o e=>?_,os,bare⟩;cases q:H b with
    |none=>exact un.keep b o e q (by intro z;exact absurd (show b∈([]:Yb X4) from z)<|by simp) (by simp)
    |some u=>
     obtain z|⟨ob,xs,z⟩:=W b
     ·rw[q]at z;cases z
     ·have z2:=un.frzs b ob _ z
      obtain⟨e1,_⟩:=E b _ z;obtain⟨e2,_⟩:=y b _ z2;rw[e]at e1;cases e1;exact e2
 cases N:K.lookup a with
 |some o=>
  have e:=U a o N;rw[L]at e;cases e;refine core (λ_=>none) (λ_=>.inl rfl) (.inr ⟨_,vs.toArray,_,N,rfl,rfl,rfl,by rw[SI,D];exact Z,by simpa using Y⟩) (λb u z=>by have p:(none:X8 HO)=some u:=z;cases p) (λb z=>absurd rfl z) λz=>absurd rfl z
 |none=>
  refine core (λb=>if b=a then some (.frz { cls:=.type "list",data:=.seq vs.toArray } (.lst<|ns.map V.int)) else none) (λb=>?_) (.inl<|.inr ⟨{ cls:=.type "list",data:=.seq vs.toArray },Sb rfl⟩) (λb u z=>?_) (λb z=>?_) λ_=>N
  ·by_cases i:b=a
   ·exact .inr ⟨_,_,Sb i⟩
   ·exact .inl<|R7 i
  ·by_cases i:b=a
   ·have p:=(Sb i).symm.trans z
    cases p;subst i;exact⟨L,by rw[R5];exact Z,vs,_,Y,L⟩
   ·have p:=(R7 i).symm.trans z
    cases p
  ·by_cases i:b=a
   ·exact i
   ·exact absurd (R7 i) z
def IW{l:PySem.W.OpenLaw}{n k:Nat}{q:X6}{loose:Yb Yc}{XP:(Yh)->Heap->Prop}{YP:X7->Heap->Prop}{d:DefRec}{K:Params->Frag}{CX:X7->Jt}{sp:X7->Sp}{x:Yc}
  (P:l.most=some n)(A:n<=sizeLine)(y:d.params.defaults=[])(hr:dB k callerA)
  (O:∀(w:X7)(h:Heap),YP w h->(K w.params).In h)
  (F:∀(w:X7)(i:Yh)(p:X4)(h:Heap),(K w.params).In h->h.Ns mainGlobals i->i d.name=some (.ref p)->
   ∃r:FuncData,(∀(s:X5) (u:X3),BindsTo s r ⟨[u],[]⟩ [(x,u)])/\
    ∀base:Heap,(K w.params).In base->base.Ns mainGlobals i->dZ l.prog w (K w.params) i base (CX w) k p r [x] (sp w))
  (L:∀(w:X7) (H:Hp) (a:X4) (ns:Yb Int),ns.length<=n->Mu H->cP (K w.params) H a (ns.map V.int)->sp w [.ref a] H (λv _=>v=.bl true) λ_ _ _=>False)
  (z:∀(w:X7) (H:Hp) (s:X5) (e:X3) (s':X5),CX w [] H s (λ_ _ _=>False) e s'->False):
  PySem.W.WalkO q loose XP YP l.row.toRowW d [] (λf vs=>PySem.call f vs):=by
 refine Att.xf P y λw D m i X p o S cd U a vs ns G Y Z R Y8 B j hints E J=>?_;have C:=O w _ Y;obtain⟨r,I,N⟩:=F w i p _ C G.T.g B;exact E6 C G.T.g G.T.b G.T.builtins G.T.nolimit J j hints (SF E A) hr N I (λH M Q=>L w H a ns E M Q) λH e s'=>z w H m e s'
abbrev mH:Jt:=λ_ _ _ _ _ _=>False
abbrev E0:XK:=λ_ _ _=>False
def Bc:Passes mH X E0:=λ_ _ _ _ _ _ _ h=>h.elim
structure oI(K:Frag)(x Ym:Yc)(st:Stmt)(f:X4)(fd:FuncData):Prop where
 ex:∃(oc:X3) (od:X8 X4) (kV YL pm:X3) (an:X8 X4) (Yz ct:X3) (Zl:Array (X8 X3)),
  fd=fnOf x Ym (d8 st) (df st) (cK st) .none kV YL pm an Yz ct/\K.lookup f=some ⟨oc,od,.func fd,Zl⟩/\codeIn K Yz Ym=true
 kp:keepIn K (.ref f)=true
section
variable {K:Frag}{mg:Yh}{base:Heap}
def oI.ok{x e:Yc}{st:Stmt}{f:X4}{fd:FuncData}{N ps:Yb Yc}{k:Nat}{sp:Sp}(F:oI K x e st f fd)(S:cL N ps (cK st))(len:∀vs H Q E,sp vs H Q E->vs.length=ps.length)
  (l:∀(a:X3)(A:X9)(outer:Yb Env)(s:X5)(H:Hp)(vs:Yb V)(Q:VK)(E:XK),dB k (A.deeper<|envOfC e (cK st) s.heap.objs.size f a)->sp vs H Q E->
   ∃t,yG (kZ mH P w K mg base N e (cK st) f a A outer s H E).nh (df st) t/\t { nx:=λ_ H'=>Q .non H',rt:=Q } (start N vs) H):dZ P w K mg base mH (k+1) f fd ps sp:=by
 obtain⟨o,v,kV,n,m,r,a,y,p,rfl,g,j⟩:=F.ex;refine Jr g j S len λA outer s H vs Q E hr i=>?_;obtain⟨t,h,q⟩:=l a A outer s H vs Q E hr i;exact⟨t,h.nh,q⟩
def oI.binds{st:Stmt}{f:X4}{fd:FuncData}{ps:Yb Yc}(F:oI K x Ym st f fd)
  (h:∀(kV g e:X3)(a:X8 X4)(i ct:X3)(us:Yb X3),us.length=ps.length->bindArgs (fnOf x Ym (d8 st) (df st) (cK st) .none kV g e a i ct) ⟨us,[]⟩=pure (ps.zip us)):Binds K fd ps []:=by
 obtain⟨n,j,kV,g,e,a,i,ct,m,rfl,l,o⟩:=F.ex;exact .all<|h kV g e a i ct
def j8{st:Stmt}{f:X4}{i:X3}{g an:X8 X4}{h:Array (X8 X3)}{kV e pm a ct:X3}(l:K.lookup f=some ⟨i,g,.func<|fnOf x Ym (d8 st) (df st) (cK st) .none kV e pm an a ct,h⟩)
  (c:codeIn K a Ym=true)(k:keepIn K (.ref f)=true):oI K x Ym st f (fnOf x Ym (d8 st) (df st) (cK st) .none kV e pm an a ct):=⟨⟨i,g,kV,e,pm,an,a,ct,h,rfl,l,c⟩,k⟩
end
def d9(hr:dB k A):A.units+1<cLine:=VY (XZ (by decide:1<=64) _) hr.units
def pv (i:Nat) (e:X.N[i]? =some x:=by rfl) (f:PV X.env.scope x:=by first|exact Or.inl rfl|exact Or.inr (Or.inl rfl)|exact Or.inr<|Or.inr rfl) (hd:(x==("__debug__" :Yc))=false:=by decide)
  (a:(x==("__classdict__" :Yc))=false:=by decide):PE X (.Name x pos) (gC i):=nO e f hd a
def dS{A B:Prop}(h:B):if false=true then A else B:=by grind
def eU{A B:Prop}(h:A):if true=true then A else B:=by grind
def dJ{c A B:Prop} [Decidable c] (a:c->A)(e:¬c->B):if c then A else B:=by grind
def cJ(H H':Hp):Prop:=∀b o,H b=some o->H' b=some o
def cJ.refl(H:Hp):cJ H H:=λ_ _ h=>h
def cJ.trans(a:cJ H H1)(b:cJ H1 H2):cJ H H2:=λc o h=>b c o<|a c o h
def cJ.free(e:cJ H H')(h:H' l=Option.none):H l=Option.none:=by
 cases q:H l with
 |none=>rfl
 |some o=>
  rw[e l o q]at h;cases h
def cJ.seq{K:Frag}{a:X4}{xs:Yb V}(e:cJ H H')(h:cP K H a xs):cP K H' a xs:=by
 obtain (h|⟨o,h⟩)|h:=h
 ·exact .inl<|.inl<|e _ _ h
 ·exact .inl<|.inr ⟨o,e _ _ h⟩
 ·exact .inr h
def yZ(h:∀y∈scope.names,y.2=.free->∃c,env.cells.lookup y.1=some c):
  ∃f,closureFor scope env=pure f/\(∀y c,f.lookup y=some c->env.cells.lookup y=some c)/\(∀y∈scope.names,y.2=.free->f.lookup y.1=env.cells.lookup y.1):=by
 have w:∀(names:Yb (Yc×NameKind)) (i:Yb (Yc×X4)),(∀y∈names,y.2=.free->∃c,env.cells.lookup y.1=some c)->(∀y c,i.lookup y=some c->env.cells.lookup y=some c)->
   ∃f,(forIn names i λx r=>match x with
    | (name,kind)=>if(kind==NameKind.free)=true then do
      let a <-cellOf env name
      pure (ForInStep.yield ((name,a)::r))
     else pure (ForInStep.yield r))=pure f/\(∀y c,f.lookup y=some c->env.cells.lookup y=some c)/\(∀y c,i.lookup y=some c->f.lookup y=some c)/\(∀y∈names,y.2=.free->f.lookup y.1=env.cells.lookup y.1):=by
  intro names
  induction names with
  |nil=>intro i _ o;exact⟨i,rfl,o,λ_ _ e=>e,λy g=>nomatch g⟩
  |cons x r D=>
   intro i B o;obtain⟨n,k⟩:=x;by_cases v:k=.free
   ·subst v
    obtain⟨c,p⟩:=B (n,.free) SO rfl;have A:cellOf env n=pure c:=by
     unfold cellOf;rw[show env.cells.lookup n=some c from p]
    have C:∀y d,((n,c)::i).lookup y=some d->env.cells.lookup y=some d:=λy d e=>by
     rw[WB]at e;cases q:y==n with
     |true=>rw[q]at e;cases e;rw[eq_of_beq q];exact p
     |false=>rw[q]at e;exact o y d e
    obtain⟨f,e,l,j,m⟩:=D ((n,c)::i) (λy g=>B y<|Ta _ g) C;refine⟨f,?_,l,λy d q=>?_,λy g s=>?_⟩
    ·rw[forIn_cons]
     simp only[beq_self_eq_true,if_true,A];exact e
    ·cases z:y==n with
     |true=>
      have:y=n:=eq_of_beq z;subst this;have q1:=o y d q;rw[p]at q1;cases q1;exact j y c (by rw[WB,z])
     |false=>exact j y d (by rw[WB,z];exact q)
    ·obtain rfl|g:=SS.mp g
     ·have:=j n c (by rw[WB,Tz])
      rw[this,p]
     ·exact m y g s
   ·have E:(k==NameKind.free)=false:=by simpa using v
    obtain⟨f,e,l,j,m⟩:=D i (λy g=>B y<|Ta _ g) o;refine⟨f,?_,l,j,λy g s=>?_⟩
    ·rw[forIn_cons]
     simp only[E,false_eq_true,if_false];exact e
    ·obtain rfl|g:=SS.mp g
     ·exact absurd s v
     ·exact m y g s
 obtain⟨f,e,l,_,m⟩:=w scope.names [] h (λy c e=>by cases e);refine⟨f,?_,l,m⟩;simp only[closureFor];rw[show(forIn scope.names ([]:Yb (Yc×X4)) _:Sem _)=pure f from e];rfl
theorem mW{env:Env}(g:env.scope.kind=.function):∀{names:Yb (Yc×NameKind)}{x:Yc},names.lookup x=some .free->env.kindOf x=some .cell->
  (names.map λ(n,k)=>if(k==NameKind.free&&env.scope.kind==.function&&env.kindOf n==some .cell) then(n,NameKind.cell) else(n,k)).lookup x=some .cell
 |[],_,h,_=>by simp at h
 | (n,k)::r,x,h,hc=>by
  have i:=@mW env g r x;show List.lookup x ((if(k==NameKind.free&&env.scope.kind==.function&&env.kindOf n==some .cell)=true then(n,NameKind.cell) else(n,k))::_)=_;cases f:x==n with
  |true=>
   simp only[lookup_cons,f]at h;cases h;have e:x=n:=eq_of_beq f;subst e;rw[Sb<|by simp[g,hc]];simp[lookup_cons]
  |false=>
   simp only[lookup_cons,f]at h;by_cases a:(k==NameKind.free&&env.scope.kind==.function&&env.kindOf n==some .cell)=true
   ·rw[Sb a];simp only[lookup_cons,f];exact i h hc
   ·rw[R7 a];simp only[lookup_cons,f];exact i h hc
def mT(h:(relabel scope env).names.lookup y=some k')(g:k'=.cell\/k'=.free)(a:∀z∈scope.names,z.2≠.cell):(y,NameKind.free)∈scope.names:=by
 obtain⟨⟨n,k⟩,f,e⟩:=SQ.mp<|T8 h;dsimp only at e;split at e
 ·grind
 ·grind
def dv(X:Cx)(a:Yb Yc)(scope:Scope)(cl:Yb (Yc×X4))(fp:Yb X4)(s3:X5)(e:Hp)(C:X4):Cx:=
 { X with N:=a,s₀:=s3,H₀:=e,env:=compEnvC scope cl C X.env,outer:=X.stack,ex:=fp,fn:=λ_=>false,pn:=[],xe:=λ_ _=>False }
def eF(is:Yb Nat)(σ:St):St:=is.map λi=>(σ[i]?).join
def j7(J:It)(is:Yb Nat)(j:TE)(σ:St)(H1:Hp)(Q:VK):Prop:=∀D,H1 D=none->∃W:Nat->Nat->Yb V->Hp->Prop,(∃m,W 0 m []<|upd H1 D<|.lst [])/\
 ∀i m e a,W i m e a->a D=some (.lst e)/\((J.stop i a/\Q (.ref D) a)\/(J.go i a/\∀v h,J.yld i a v h->j (some v::eF is σ) h λy f=>
  f D=some (.lst e)/\e.length<sizeLine/\∃g,g<m/\W (i+1) g (e++[y]) (upd f D<|.lst<|e++[y])))
def Rq(a:TI)(is:Yb Nat)(e:TE):TE:=λσ H Q=>a σ H λJ H1=>j7 J is e σ H1 Q
structure O1(sc:Scope)(N:Yb Yc)(x:Yc)(scope:Scope)(is:Yb Nat)(ns:Yb Yc):Prop where
 kind:scope.kind=.function:=by rfl
 nocell:∀y∈scope.names,y.2≠.cell:=by decide+kernel
 names:∀y∈scope.names,y.2=.local->scope.names.lookup y.1=some .local:=by decide+kernel
 free:∀y∈scope.names,y.2=.free->sc.names.lookup y.1=some .cell:=by decide+kernel
 hx:scope.names.lookup x=some .local:=by rfl
 cap:ns.map some=is.map λi=>N[i]? :=by rfl
 nd:(x::ns).Nodup:=by decide+kernel
 capf:∀y∈ns,scope.names.lookup y=some .free/\sc.names.lookup y=some .cell:=by decide+kernel
section
variable {K:Frag}{σ:St}{H:Hp}{Q:VK}
def cJ.upd{H:Hp}(h:H D=none):cJ H (upd H D o):=λb u e=>by
 rw[cI<|cH e h];exact e
def Ld{J:It}{xs:Yb V}(f:V->V)(z:xs.length<=sizeLine)(s:∀i a,cJ H a->i<xs.length->J.go i a)(x:∀a,cJ H a->J.stop xs.length a)
  (w:∀i a v l,cJ H a->i<xs.length->J.yld i a v l->l=a/\xs[i]? =some v)
  (he:∀v a p,v∈xs->cJ H a->p (f v) a->te (some v::eF is σ) a p)(q:∀D,H D=none->Q (.ref D) (upd H D<|.lst<|xs.map f)):j7 J is te σ H Q:=by
 intro D o;refine⟨λi m n a=>m=xs.length-i/\i<=xs.length/\n=(xs.take i).map f/\a=upd H D (.lst n),⟨_,rfl,Tq _,by simp,rfl⟩,?_⟩;rintro i m n a ⟨rfl,A,h,rfl⟩;have j:cJ H (upd H D<|.lst n):=cJ.upd o;refine⟨cG,?_⟩;by_cases g:i<xs.length
 ·refine .inr ⟨s i _ j g,λv l y=>?_⟩
  obtain⟨rfl,r⟩:=w i _ v l j g y;refine he v _ _ (R4 r) j ⟨cG,?_,xs.length-(i+1),by lia,rfl,g,?_,Av⟩
  ·rw[h,R5,Tp]
   lia
  ·rw[h,SU,r,TQ]
   rfl
 ·have e:i=xs.length:=by lia
  subst e;refine .inl ⟨x _ j,?_⟩;rw[h,Tj];exact q D o
def cJ.Mt{xs:Yb V}(e:cJ H H')(h:fc K H a xs):fc K H' a xs:=by
 obtain (h|⟨o,h⟩)|h:=h
 ·exact .inl<|.inl<|e _ _ h
 ·exact .inl<|.inr ⟨o,e _ _ h⟩
 ·exact .inr h
end
def signs(z:Yc):Yb V:=z.cps.toList.map λc=>V.str ⟨#[c]⟩
def signs_length(z:Yc):(signs z).length=z.cps.size:=by simp[signs]
def rG(z:Yc):It:=⟨λi _=>i<z.cps.size,λi H x a=>a=H/\(signs z)[i]? =some x,λi _=>i=z.cps.size⟩
def DQ{P:X6}{w:X7}{K:Frag}{tg:Expr}{ty:String}{z:Yc}{t:Tok}(it:X4)(J:∀A:X9,A.handled=none->Walks P w A it [it] [it] z.cps.size (SignAt z) λi h=>h.IsStrIter it ty z t i)
  (W:∀(A:X9)(i:Nat)(s:X5)(Q:Yd)(E:Yd),s.heap.IsStrIter it ty z t i->Q (.ref it) s->wpAny (model P w) A (pyIter<|.ref it) Q E s)
  (S:["enumerate","zip","dict_itemiterator","dict_reverseitemiterator","odict_iterator","itertools.zip_longest","itertools.pairwise"].contains ty=false):Turn P w K tg (rG z) [it] it (λi h=>h.IsStrIter it ty z t i) where
 mem:=by simp
 obj:=λi h f b a=>by
  have e:b=it:=by simpa using a
  subst e;obtain⟨o,e,c,d⟩:=f;exact⟨o,e,λv z=>by rw[d]at z;cases z⟩
 keep:=λi h L f k=>by
  obtain⟨o,e,r⟩:=f;exact⟨o,k it (by simp) o e,r⟩
 item:=by
  intro X D y x G i R s σ H E I g f l;subst D y x;obtain⟨n,q,T,F,C,B⟩:=g it (by simp);refine(J X.A<|I.ok.hd G).item i s _ _ l f λv L O U M p=>?_;obtain⟨c,u,j,rfl⟩:=U;obtain⟨o,e,N,d⟩:=id M;refine⟨_,rfl,sO e N d S ⟨.str ⟨#[c]⟩,H,I.turned (λb o a e=>p b o (by simpa using a) e) n q F C B,⟨u,rfl⟩,⟨rfl,?_⟩,M,λb a=>(g b a).1⟩⟩;unfold signs;rw[Sk,Sx,j];rfl
 done:=by
  intro X D y x G i R s σ H E I g f l;subst D y x;obtain⟨n,q,T,F,C,B⟩:=g it (by simp);have m:i=z.cps.size:=l;subst m;exact(J X.A<|I.ok.hd G).done s _ _ f λL O p=>⟨rfl,I.turned (λb o a e=>p b o (by simpa using a) e) n q F C B⟩
 self:=W
def QG(a:TE):TI:=λσ H R=>a σ H λx H1=>∃z,x=.str z/\R (rG z) H1
def Mw{l:Expr}(G:PE X l tl):PI X tg l (QG tl):=by
 intro r s σ H R I h;refine c9 (G r s σ H _ I h) λv a g=>?_;obtain⟨x,H1,j,D,q1⟩:=g;obtain⟨z,e,q⟩:=q1;subst e;obtain⟨t,rfl⟩:=D;have f:∀(ty:String) (p:∀A:X9,A.handled=none->Walks X.prog X.w A a.heap.objs.size [a.heap.objs.size] [a.heap.objs.size] z.cps.size (SignAt z) λi h=>h.IsStrIter a.heap.objs.size ty z t i)
   (C:∀(A:X9) (i:Nat) (s:X5) (Q:Yd) (E:Yd),s.heap.IsStrIter a.heap.objs.size ty z t i->Q (.ref a.heap.objs.size) s->wpAny (model X.prog X.w) A (pyIter<|.ref a.heap.objs.size) Q E s)
   (y:["enumerate","zip","dict_itemiterator","dict_reverseitemiterator","odict_iterator","itertools.zip_longest","itertools.pairwise"].contains ty=false),
   Nu X r σ tg R (.ref a.heap.objs.size) { a with heap:=a.heap.push { cls:=.type ty,data:=.fields #[.str z t,.int 0 0] } }:=λty p C y=>by
  refine⟨a.heap.objs.size,[a.heap.objs.size],_,_,H1,rfl,j.kept (t':=a.toks) λb o e=>R6 _ e,DQ _ p C y,⟨_,Sl _ rfl,rfl,rfl⟩,λb F=>?_,q⟩;have e:b=a.heap.objs.size:=by simpa using F
  subst e;exact j.u5 (R9 _)<|j.hok.fresh<|R9 _
 cases B:z.cps.all (· < 128)
 ·exact wpAny_pyIter_wide B (f "str_iterator" (λA m=>Walks.strWide m _ z t) (λA i s Q E n h=>wpAny_pyIter_striter_wide n h) (by decide))
 ·exact wpAny_pyIter_ascii B (f "str_ascii_iterator" (λA m=>Walks.strAscii m _ z t) (λA i s Q E n h=>wpAny_pyIter_striter_ascii n h) (by decide))
def MM{H:Hp}{Q:VK}(f:V->V)(h:z.length<=sizeLine)(he:∀v a g,v∈signs z->cJ H a->g (f v) a->te (some v::eF is σ) a g)
  (q:∀D,H D=none->Q (.ref D) (upd H D<|.lst<|(signs z).map f)):j7 (rG z) is te σ H Q:=
 Ld f (by rw[signs_length];exact h) (λi a _ e=>by rw[signs_length]at e;exact e) (λa _=>signs_length z) (λi a v j _ e y=>y) he q
theorem xW:∀bs:Yb Bool,((List.range bs.length).all λi=>bs.getD i false)=bs.all id
 |[]=>rfl
 |b::r=>by
  rw[Te,V5,W0,all_map,W0,<-xW r];rfl
def ud(N:X.calm=true):eW X (.builtin "all") (λxs H Q=>∃(p:X4) (bs:Yb Bool),xs=[.ref p]/\cP X.K H p (bs.map V.bl)/\Q (.bl<|bs.all id) H):=by
 intro m s σ H xs U Q I r h;obtain⟨p,bs,rfl,F,q⟩:=h;obtain⟨u,rfl,L⟩:=vals1 r;cases L;obtain⟨a,g,pl,S⟩:=I.list F;have l:=g.length;rw[R5]at l;refine call_all_walk<|Vu pl.isList ?_;refine⟨s.heap.objs.size,[s.heap.objs.size,p],[s.heap.objs.size],a.toArray.size,_,_,λi=>bs.getD i false,rfl,XR (show X.A.in1.handled=none from I.ok.hd N) s.heap.objs.size p (Ss (by obtain⟨o,n,e,_⟩:=pl;exact Sv e)) a.toArray,
  ⟨⟨_,Sl _ rfl,rfl,rfl⟩,?_⟩,λi v O T R x B=>?_,λD f E=>?_⟩
 ·obtain⟨o,e,r⟩:=pl.isList
  exact⟨o,R6 _ e,r⟩
 ·have w:i<bs.length:=by
   have:i<a.length:=by
    have:=(TY.mp x).1
    simpa using this
   lia
  have y:(bs.map V.bl)[i]? =some (V.bl bs[i]):=by simp[w]
  obtain⟨u,J,M⟩:=g.get y;have j:a[i]? =some v:=by simpa using x
  rw[J]at j;cases j;obtain rfl:v=Value.bool bs[i]:=M;refine Tc ?_;have e:bs.getD i false=bs[i]:=by simp[List.getD,w]
  rw[<-e];exact B
 ·refine⟨.bl<|bs.all id,H,?_,?_,q⟩
  ·have P:Inv X m σ H { s with heap:=s.heap.push { cls:=.type "list_iterator",data:=.fields #[.ref p,.int 0 0] } }:=I.kept (t':=s.toks) λb o e=>R6 _ e
   have G:Inv X m σ H { s with heap:=D,toks:=f }:=I.kept (t':=f) λb o e=>E b o (by
    intro z;have C:b=s.heap.objs.size:=by simpa using z
    exact absurd (Sv e)<|by rw[C];exact VA _)<|R6 _ e
   exact G
  ·show Value.bool _=Value.bool _
   congr 1
   rw[SI,<-l];exact xW bs
inductive OH(K:Frag)(xs:Yb V)(H:Hp)(Q:VK):Prop
 |mk(x:V)(t:X3)(n:String)(b:Bool)(e:xs=[x,.ty n])(ty:eZ K H x t)(k:kitOne K t (.type n)=some b)(q:Q (.bl b) H)
def mw:eW X (.builtin "isinstance") (λxs H Q=>L2.OH X.K xs H Q):=by
 intro i s σ H xs j Q I r h;obtain⟨x,t,n,b,rfl,ty,e,q⟩:=h;obtain⟨u,c,rfl,a,f⟩:=vals2 r;obtain rfl:c=Value.type n:=f;exact Ci I a ty e λg=>⟨.bl b,H,I.tok _,rfl,q⟩
def uj:iU X (compareOp .LtE) (λx y H Q=>∃i j,x=.str i/\y=.str j/\Q (.bl<|!decide (j.cps.toList<i.cps.toList)) H):=by
 intro g s σ H x y v u Q I a e h;obtain⟨i,j,rfl,rfl,q⟩:=h;obtain⟨t,rfl⟩:=a;obtain⟨f,rfl⟩:=e;exact PySem.P.le_str ⟨.bl _,H,I,rfl,q⟩
def nG(z:Yc)(lo a:X8 Int):Yc:=⟨((z.cps.toList.drop<|HT.iA z.length 0 lo).take<|HT.iA z.length z.length a-HT.iA z.length 0 lo).toArray⟩
def jM(z:Yc)(lo a:X8 Int):(nG z lo a).length<=z.length:=by
 show(((z.cps.toList.drop _).take _).toArray).size<=z.cps.size;rw[SI,Tp,T3,Sm];exact SF (WO _ _)<|sub_le _ _
def KA(v:Int)(n d:Nat):max 0 (min (if v<0 then v+(n:Int) else v) (n:Int))=((HT.iA n d (some v):Nat):Int):=Ez v n d
def picked_eq(z:Yc)(lo a:X8 (Int×Tok)):slicePicked z lo a none=(List.range<|HT.iA z.length z.length (a.map (·.1))-HT.iA z.length 0 (lo.map (·.1))).map (HT.iA z.length 0 (lo.map (·.1))+·):=by
 unfold slicePicked Builtin.Str.strSliceIndices;simp only[Option.map_none,getD_none,show(1:Int) > 0 by decide,if_true];rw[<-sliceRange_one]
 congr 1
 ·cases lo with
  |none=>rfl
  |some p=>exact KA p.1 z.length 0
 ·cases a with
  |none=>rfl
  |some p=>exact KA p.1 z.length z.length
inductive Qh(x:V)(lo a:X8 Int)(H:Hp)(Q:VK):Prop
 |mk(z:Yc)(e:x=.str z)(b:z.length<=sizeLine)(q:Q (.str (nG z lo a)) H)
def Om:V->X8 Int->X8 Int->Hp->VK->Prop:=λx a e H Q=>Qh x a e H Q
def uB:Pu X Om:=by
 intro F s σ H x v D C G E sl Q I w y pl r h;obtain⟨z,rfl,n,q⟩:=h;obtain⟨t,rfl⟩:=w;have part:∀{u:X3}{o:X8 Int},IsPart u o->∃p:X8 (Int×Tok),u=partValue p/\o=p.map (·.1):=λ{u o} p=>by
  cases p with
  |none=>exact⟨none,rfl,rfl⟩
  |int i t=>exact⟨some (i,t),rfl,rfl⟩
 obtain⟨l,rfl,rfl⟩:=part pl;obtain⟨u,rfl,rfl⟩:=part r;refine⟨"str",_,slot_str_getitem.lookup,typeIs_str s z t,?_⟩;refine wpAny_getItem_str_slice (st:=none) y rfl ?_;unfold sliceMade;have a:(⟨((slicePicked z l u none).filterMap (z.cps[·]?)).toArray⟩:Yc)=nG z (l.map (·.1)) (u.map (·.1)):=by
  rw[picked_eq];unfold nG
  congr 2
  exact pick_run z.cps _ _
 split
 ·rename_i c
  rw[Uj]at c;have f:=eq_of_beq c.2;rw[picked_eq,R5,UU]at f;have B:HT.iA z.length z.length (u.map (·.1))<=z.length:=HT.LJ _ _ (R9 _) _;have g:nG z (l.map (·.1)) (u.map (·.1))=z:=by
   unfold nG;by_cases j:z.length=0
   ·have e:z.cps.toList=[]:=by
     have:z.cps.size=0:=j;exact SX (by simpa using this)
    rw[e];simp only[List.drop_nil,List.take_nil];obtain⟨m⟩:=z
    congr 1
    exact(Array.toList_eq_nil_iff.mp e).symm
   ·have A:HT.iA z.length 0 (l.map (·.1))=0:=by lia
    rw[f,A];rw[Ve,TJ<|by simp[Str.length]]
  exact⟨.str _,H,I,⟨t,by rw[g]⟩,q⟩
 ·refine⟨?_,.str _,H,I.tok _,⟨_,by rw[a]⟩,q⟩
  rw[a];exact SF (jM _ _ _) n
def Inv.Qy(I:Inv X Yi σ H s):sysModules<s.heap.objs.size:=by
 exact Xr (by decide)<|(I.mod.glob.keeps I.bk).lt
def HG(h:Heap)(a:sysModules<h.objs.size):cV P w H (h.push { cls:=.type "dict",data:=.dict #[] }) h.objs.size (.dK []):=
 ⟨Tq _,TZ.mpr<|Ui<|Ss a,[],.nil,Xs h⟩
def J7:TE:=λ_ H Q=>∀p,H p=none->Q (.ref p) (upd H p<|.dK [])
def kG:PE X (.Dict [] [] pos) J7:=λa s σ H Q I h=>
 Xf ⟨.ref s.heap.objs.size,_,I.laid (t':=s.toks) (λ_ _ q=>R6 _ q) (R9 _)<|HG s.heap I.Qy,rfl,h _<|I.hok.fresh<|R9 _⟩
structure Df(K:Frag)(mg:Yh)(x:Yc)(st:Stmt)(ps:Yb Yc)(f:X4)(fd:FuncData):Prop where
 fn:oI K x x st f fd
 nm:mg x=some (.ref f)
 bi:Binds K fd ps []
def tys:Yb String:=["NoneType","bool","int","str","list","tuple","dict"]
def EA(T n:String):Bool:=T==n||(T == "bool" && n == "int")
def fR {K:Frag}(e:T∈tys) (a:n∈["int","bool","str","list","tuple"]):kitOne K (.type T) (.type n)=some (EA T n):=by
 simp only[tys,mem_cons,not_mem_nil,or_false]at e a;rcases e with rfl|rfl|rfl|rfl|rfl|rfl|rfl<;>rcases a with rfl|rfl|rfl|rfl|rfl<;>rfl
section
variable {K:Frag}{x:V}{T:String}
def ty_int (ty:eZ K H x (.type "int")):∃i,x=.int i:=by
 generalize h:Value.type "int" =t at ty;cases ty<;>first|exact⟨_,rfl⟩| (injection h with h';exact absurd h'<|by decide)|cases h
def ty_str (ty:eZ K H x (.type "str")):∃z,x=.str z:=by
 generalize h:Value.type "str" =t at ty;cases ty<;>first|exact⟨_,rfl⟩| (injection h with h';exact absurd h'<|by decide)|cases h
def CQ(ty:eZ K H (.int i) (.type T)):T= "int" :=by
 generalize h:Value.type T=t at ty;cases ty;injection h
def C7(ty:eZ K H (.str z) (.type T)):T= "str" :=by
 generalize h:Value.type T=t at ty;cases ty;injection h
end
def cQ:bootBuiltins "isinstance" =some (.builtin "isinstance"):=by decide+kernel
def y4:bootBuiltins "int" =some (.type "int"):=by decide+kernel
def AS:bootBuiltins "bool" =some (.type "bool"):=by decide+kernel
def ze:bootBuiltins "str" =some (.type "str"):=by decide+kernel
def m7:bootBuiltins "all" =some (.builtin "all"):=by decide+kernel
def cZ:bootBuiltins "len" =some (.builtin "len"):=by decide+kernel
def dQ:bootBuiltins "list" =some (.type "list"):=by decide+kernel
def qz:bootBuiltins "tuple" =some (.type "tuple"):=by decide+kernel
def notStar(e:Expr):Bool:=match e with
 |.Starred _ _=>false
 |_=>true
def cT{rest:Yb Expr}{env:Env}(h:notStar e=true):starEach (e::rest) env=(false,eval e env)::starEach rest env:=by
 cases e<;>first|rfl|cases h
theorem d4{env:Env}{pos:Pos}:∀{es:Yb Expr},es.all notStar=true->(backTo pos<|starEach es env).any (·.1)=false
 |[],_=>rfl
 |e::es,h=>by
  rw[W0,Uj]at h;rw[cT h.1];exact d4 h.2
def PR(a:PE X e te)(hr:PA X es t)(h:notStar e=true:=by rfl):PA X (e::es) (dF te t):=fQ a hr<|cT h
def ie(e:Expr):Bool:=match e with
 |.ListComp .. =>true
 |.SetComp .. =>true
 |.DictComp .. =>true
 |_=>false
def iz(h:ie e=false):swapsWith e tg n env=pure false:=by
 cases e<;>first|rfl|cases h
def Iu(h:PE X (.Call f as kw p) t):PT X (.Call f as kw p) (tB t):=zL h λ_=>rfl
def OT:dR (.BinOp l op r p):=λ_ _=>rfl
def Hl:dR (.Name x p):=λ_ _=>rfl
def MN:dR (.Constant c k p):=λ_ _=>rfl
def iZ(h:op'≠.In:=by decide)(a:op'≠.NotIn:=by decide):lastMarks [op,op'] [b,c]=false:=by
 have e:lastMarks [op,op'] [b,c]=behindInMarks op' c:=by rfl
 rw[e];exact cM c h a
def Ox(he:PE X e te)(h:ie e=false:=by rfl):PS X (.Expr e p) (xJ te):=HQ he<|iz h
structure Slot(X:Cx)(i:Nat)(x:Yc):Prop where
 hN:X.N[i]? =some x
 lc:Loc X.env.scope x
 fn:X.fn x=true\/X.env.scope.names.lookup x=some .local
 db:(x==("__debug__" :Yc))=false
 cd:(x==("__classdict__" :Yc))=false
structure Bt(X:Cx)(x:Yc):Prop where
 gl:Gl X x
 nm:X.mg x=none
 hn:x≠ "__name__"
 db:(x==("__debug__" :Yc))=false
structure Lo(X:Cx)(x:Yc)(sp:Sp):Prop where
 ex:∃(k:Nat) (f:X4) (fd:FuncData) (ps:Yb Yc),dZ X.prog X.w X.K X.mg X.base mH k f fd ps sp/\dB k X.A/\X.mg x=some (.ref f)/\keepIn X.K (.ref f)=true/\Binds X.K fd ps []
 gl:Gl X x
 db:(x==("__debug__" :Yc))=false
def Slot.rd(S:Slot X i x):PE X (.Name x p) (gC i):=nO S.hN (S.lc.elim .inl λh=>.inr<|.inl h) S.db S.cd
def Slot.set(S:Slot X i x)(nd:X.N.Nodup)(he:PE X e te)(h:ie e=false:=by rfl):PS X (.Assign [.Name x Yy] e pos) (wK te<|eX i):=MF nd S.hN S.lc he (iz h) S.fn
def Slot.tg(S:Slot X i x)(nd:X.N.Nodup):PG X (.Name x p) (eX i):=pN nd S.hN S.lc S.fn
def Bt.call{id:String}(B:Bt X x)(i:eW X (.builtin id) r)(a:bootBuiltins x=some (.builtin id))(f:PA X (e::es) t)(h:notStar e=true:=by rfl)
  (g:es.all notStar=true:=by rfl):PE X (.Call (.Name x p) (e::es) [] pos) (MZ r t):=iM i B.gl B.nm a f B.hn B.db (cT h)<|d4 g
def Bt.Oq(B:Bt X x)(i:eW X (.type T) r)(a:bootBuiltins x=some (.type T))(f:PA X (e::es) t)(h:notStar e=true:=by rfl)
  (g:es.all notStar=true:=by rfl):PE X (.Call (.Name x p) (e::es) [] pos) (MZ r t):=C3 i B.gl B.nm a f B.hn B.db (cT h)<|d4 g
def Bt.ty(B:Bt X x)(a:bootBuiltins x=some (.type n)):PE X (.Name x p) (tC<|.ty n):=pE (v:=.ty n) B.gl B.nm a rfl B.hn B.db
def Lo.call(C:Lo X x sp)(i:PA X (e::es) t)(l:notStar e=true:=by rfl)
  (j:es.all notStar=true:=by rfl):PE X (.Call (.Name x p) (e::es) [] pos) (jO sp [] E0 t):=by
 obtain⟨k,f,m,n,G,hr,g,a,h⟩:=C.ex;exact uT G hr C.gl g a h .nil Bc i C.db (cT l)<|d4 j
end L2
open L2
namespace J
structure JE(X:Cx)(e:Expr)(t:TE):Prop where
 out:PE X e t
structure JT(X:Cx)(e:Expr)(t:TT):Prop where
 out:PT X e t
structure JW(X:Cx)(e:Expr)(t:TT):Prop where
 out:PW X e t
structure JA(X:Cx)(es:Yb Expr)(t:TA):Prop where
 out:PA X es t
structure JS(X:Cx)(st:Stmt)(t:TS):Prop where
 out:PS X st t
structure wc(X:Cx)(st:Yb Stmt)(t:TS):Prop where
 out:yG X st t
structure JG(X:Cx)(tg:Expr)(g:TG):Prop where
 out:PG X tg g
structure Nw(X:Cx)(ts:Yb Expr)(g:rF):Prop where
 out:NH X ts g
structure JI(X:Cx)(tg it:Expr)(wi:TI):Prop where
 out:PI X tg it wi
structure JO(X:Cx)(e:X8 Expr)(t:TO):Prop where
 out:PO X e t
structure JB(X:Cx)(op:Operator)(r:R2):Prop where
 out:iU X (binaryOp op) r
structure JC(X:Cx)(op:CmpOp)(r:R2):Prop where
 out:iU X (compareOp op) r
structure JU(X:Cx)(op:UnaryOp)(r:V->Hp->VK->Prop):Prop where
 out:PF X (unaryOp op) r
structure JF(X:Cx)(f:X3)(r:Yb V->Hp->VK->Prop):Prop where
 out:eW X f r
structure JX(X:Cx)(r:R2):Prop where
 out:M8 X r
structure JL(X:Cx)(r:V->X8 Int->X8 Int->Hp->VK->Prop):Prop where
 out:Pu X r
structure dR(b:Expr):Prop where
 out:L2.dR b
section
variable {r':R2}{u:TS}{v:TS}{st:Stmt}{sts:Yb Stmt}{tg:Expr}
def _root_.bD:JB X .Add (yI λi j=>.int<|i+j):=⟨LN⟩
def p5:JB X .Sub (yI λi j=>.int<|i-j):=⟨L2.p5⟩
def _root_.bM:JB X .Mult (rI Ik λi j=>.int<|i*j):=⟨KL⟩
def _root_.bQ:JB X .FloorDiv (rI NQ λi j=>.int<|i / j):=⟨IX⟩
def _root_.ba:JB X .Mod (rI (λ_ j=>0<j) λi j=>.int<|i%j):=⟨KZ⟩
def ou:JB X .Pow (rI N2 λi j=>.int<|i^j.toNat):=⟨L2.ou⟩
def i8:JB X .Add (λx y H Q=>∃i j,x=.str i/\y=.str j/\i.length+j.length<=sizeLine/\Q (.str<|i++j) H):=⟨L2.i8⟩
def qy:JU X .USub (rU λi=>.int<|-i):=⟨L2.qy⟩
def _root_.aS:JC X .Eq Qu:=⟨J0⟩
def _root_.cu:JC X .NotEq Ro:=⟨Kv⟩
def _root_.b6:JC X .Lt (yI λi j=>.bl<|decide<|i<j):=⟨OR⟩
def _root_.bB:JC X .LtE (yI λi j=>.bl<|decide<|i<=j):=⟨wg⟩
def _root_.bV:JC X .Gt (yI λi j=>.bl<|decide<|j<i):=⟨N6⟩
def AY:JC X .GtE (yI λi j=>.bl<|decide<|j<=i):=⟨L2.AY⟩
def pQ:JC X .Is (λx y H Q=>y=.non/\Q (.bl<|decide<|x=.non) H):=⟨L2.pQ⟩
def pC:JC X .IsNot (λx y H Q=>y=.non/\Q (.bl<|!decide (x=.non)) H):=⟨L2.pC⟩
def iK:JC X .In (Oi X.K false):=⟨L2.iK⟩
def gv:JC X .NotIn (Oi X.K true):=⟨L2.gv⟩
def _root_.aV:JF X (.builtin "len") (λxs H Q=>M6 X.K xs H Q):=⟨uY⟩
def gx:JF X (.builtin "len") (λxs H Q=>∃z,xs=[.str z]/\z.length<=sizeLine/\Q (.int z.length) H):=⟨L2.gx⟩
def _root_.bH:JF X (.type "list") (λxs H Q=>∃p ys,xs=[.ref p]/\(cP X.K H p ys\/fc X.K H p ys)/\∀l,H l=none->Q (.ref l) (upd H l<|.lst ys)):=⟨vZ⟩
def _root_.bJ:JF X (.builtin "isinstance") (λxs H Q=>OH X.K xs H Q):=⟨mw⟩
def _root_.cz(a:X.calm=true):JF X (.builtin "all") (λxs H Q=>∃(p:X4) (bs:Yb Bool),xs=[.ref p]/\cP X.K H p (bs.map V.bl)/\Q (.bl<|bs.all id) H):=⟨ud a⟩
def n5:JF X (.type "int") (λxs H Q=>(∃i,xs=[.int i]/\Q (.int i) H)\/∃k,xs=[.bl k]/\Q (.int<|if k then 1 else 0) H):=⟨L2.n5⟩
def nU(a:X.calm=true):JF X (.builtin "max") (λxs H Q=>∃i j,xs=[.int i,.int j]/\Q (.int<|if j > i then j else i) H):=⟨L2.nU a⟩
def iw(a:X.calm=true):JF X (.builtin "min") (λxs H Q=>∃i j,xs=[.int i,.int j]/\Q (.int<|if j<i then j else i) H):=⟨L2.iw a⟩
def _root_.aP:JX X (Fi X.K):=⟨AL⟩
def _root_.aG:JX X (Gk X.K):=⟨Fd⟩
def zj:JX X Nm:=⟨L2.zj⟩
def _root_.bK{l r:Expr}:dR (.BinOp l op r p):=⟨OT⟩
def _root_.aQ:dR (.Name x p):=⟨Hl⟩
def _root_.ak{c:Const}:dR (.Constant c k p):=⟨MN⟩
def _root_.cB:JL X (N7 X.K):=⟨GG⟩
def uB:JL X Om:=⟨L2.uB⟩
def _root_.b7:JO X none Bx:=⟨Hv⟩
def _root_.b5(h:JE X e te):JO X (some e) (JM te):=⟨HS h.out⟩
def _root_.ae{i j pos}:JE X (.Constant (.int i) j pos) (tC<|.int i):=⟨oA⟩
def _root_.a8{b j pos}:JE X (.Constant (.bool b) j pos) (tC<|.bl b):=⟨Kh⟩
def _root_.bS{j pos}:JE X (.Constant .none j pos) (tC .non):=⟨L7⟩
def _root_.aw{x j pos}:JE X (.Constant (.str x) j pos) (tC<|.str x):=⟨zg⟩
def _root_.aF(f:JB X op r)(e:JE X a ta)(g:JE X b tb):JE X (.BinOp a op b pos) (yM r ta tb):=⟨Jp f.out e.out g.out⟩
def xX{r:V->Hp->VK->Prop}(f:JU X op r)(e:JE X a ta):JE X (.UnaryOp op a pos) (PB r ta):=⟨L2.xX f.out e.out⟩
def _root_.ah(hr:JX X r)(f:JE X a ta)(g:JE X b tb)(e:dR b):JE X (.Subscript a b pos) (yM r ta tb):=⟨N8 hr.out f.out g.out e.out⟩
def _root_.bW{r:V->X8 Int->X8 Int->Hp->VK->Prop}{lo g:X8 Expr}{a f:TO}(hr:JL X r)(he:JE X e te)(h:JO X lo a)(i:JO X g f):JE X (.Subscript e (.Slice lo g none p2) pos) (Rr r te a f):=⟨EU hr.out he.out h.out i.out⟩
def _root_.aZ(f:JC X op r)(e:JE X a ta)(g:JE X b tb)(hm:behindInMarks op b=false):JE X (.Compare a [op] [b] pos) (yM r ta tb):=⟨Bq f.out e.out g.out hm⟩
def _root_.aI(f:JC X op r)(e:JE X a ta)(g:JE X b tb)(hm:behindInMarks op b=false):JT X (.Compare a [op] [b] pos) (AO<|yM r ta tb):=⟨Ho f.out e.out g.out hm⟩
def j3(e:JC X op r)(f:JC X op' r')(g:JE X a ta)(h:JE X b tb)(i:JE X c tc)(hm:lastMarks [op,op'] [b,c]=false):JE X (.Compare a [op,op'] [b,c] pos) (uN r r' ta tb tc):=⟨L2.j3 e.out f.out g.out h.out i.out hm⟩
def iJ(e:JC X op r)(f:JC X op' r')(g:JE X a ta)(h:JE X b tb)(i:JE X c tc)(hm:lastMarks [op,op'] [b,c]=false):JT X (.Compare a [op,op'] [b,c] pos) (AO<|uN r r' ta tb tc):=⟨L2.iJ e.out f.out g.out h.out i.out hm⟩
def _root_.cq:behindInMarks op (.Name x p)=false:=rfl
def Em:behindInMarks op (.Tuple es k p)=false:=rfl
def _root_.aY{op}(h:JE X a te):JE X (.BoolOp op [a] pos) te:=⟨uX h.out⟩
def _root_.aU(e:JE X a ta)(f:JE X (.BoolOp .And (b::es) pos) tb):JE X (.BoolOp .And (a::b::es) pos) (D9 ta tb):=⟨uA e.out f.out⟩
def Bh(e:JE X a ta)(f:JE X (.BoolOp .Or (b::es) pos) tb):JE X (.BoolOp .Or (a::b::es) pos) (Ip ta tb):=⟨L2.Bh e.out f.out⟩
def ro(e:JE X a ta):JE X (.UnaryOp .Not a pos) (Kb ta):=⟨L2.ro e.out⟩
def _root_.bz(e:JT X a tA):JW X (.BoolOp .And [a] pos) tA:=⟨HZ e.out⟩
def _root_.bR(e:JT X a tA):JW X (.BoolOp .Or [a] pos) tA:=⟨EK e.out⟩
def _root_.bq(e:JT X a tA)(f:JW X (.BoolOp .And (b::es) pos) tB'):JW X (.BoolOp .And (a::b::es) pos) (KD tA tB'):=⟨LK e.out f.out⟩
def _root_.bI(e:JT X a tA)(f:JW X (.BoolOp .Or (b::es) pos) tB'):JW X (.BoolOp .Or (a::b::es) pos) (Rg tA tB'):=⟨Kk e.out f.out⟩
def _root_.a7(h:JW X e tA):JT X e tA:=⟨h.out.pt⟩
def _root_.bp(e:JT X a tA):JT X (.UnaryOp .Not a pos) (O5 tA):=⟨yR e.out⟩
def _root_.bo(h:JE X (.Call f as kw p) te):JT X (.Call f as kw p) (tB te):=⟨Iu h.out⟩
def _root_.bF:JA X [] kU:=⟨lP⟩
def _root_.b9(a:JE X e te)(hr:JA X es t)(h:notStar e=true:=by rfl):JA X (e::es) (dF te t):=⟨PR a.out hr.out h⟩
def _root_.ao(a:JE X e te)(i:notStar e=true:=by rfl):JA X [e] (dF te kU):=b9 a bF i
def _root_.aE{a:Expr}{f:TE}(i:JE X e te)(a1:JE X a f)(h:notStar e=true:=by rfl)(g:notStar a=true:=by rfl):JA X [e,a] (dF te<|dF f kU):=b9 i (ao a1 g) h
def _root_.aO{f a:Expr}{h g:TE}(l:JE X e te)(a1:JE X f h)(a2:JE X a g)(i:notStar e=true:=by rfl)(j:notStar f=true:=by rfl)(m:notStar a=true:=by rfl):JA X [e,f,a] (dF te<|dF h<|dF g kU):=b9 l (aE a1 a2 j m) i
def _root_.bL{g a f:Expr}{j h i:TE}(n:JE X e te)(a1:JE X g j)(a2:JE X a h)(q:JE X f i)(l:notStar e=true:=by rfl)(m:notStar g=true:=by rfl)(p:notStar a=true:=by rfl)(o:notStar f=true:=by rfl):JA X [e,g,a,f] (dF te<|dF j<|dF h<|dF i kU):=b9 n (aO a1 a2 q m p o) l
def Qp{a f g h:Expr}{m j l i:TE}(q:JE X e te)(a1:JE X a m)(a2:JE X f j)(w:JE X g l)(n:JE X h i)(p:notStar e=true:=by rfl)(o:notStar a=true:=by rfl)(v:notStar f=true:=by rfl)(r:notStar g=true:=by rfl)(s:notStar h=true:=by rfl):JA X [e,a,f,g,h] (dF te<|dF m<|dF j<|dF l<|dF i kU):=b9 q (bL a1 a2 w n o v r s) p
def _root_.bg(h:JA X es t):JE X (.List es pos) (Gu t):=⟨MD h.out⟩
def _root_.aN{k}(h:JA X es t):JE X (.Tuple es k pos) (Ot t):=⟨K8 h.out⟩
def kG:JE X (.Dict [] [] pos) J7:=⟨L2.kG⟩
def kO {v:V}{u:X3}(a:Gl X x) (hm:X.mg x=some u) (r:RelV v u) (hd:(x==("__debug__" :Yc))=false):JE X (.Name x pos) (tC v):=⟨L2.kO a hm r hd⟩
def _root_.aX(h:JE X e te):JI X tg e (J9 X.K te):=⟨HK h.out⟩
def y6(h:JE X e te):JI X tg e (Pk X.K te):=⟨L2.y6 h.out⟩
def _root_.aL:wc X [] AH:=⟨Aq⟩
def _root_.af(a:JS X st u)(e:wc X sts v):wc X (st::sts) (B7 u v):=⟨wu a.out e.out⟩
def _root_.ag(a:JS X st u):wc X [st] u:=⟨mC a.out⟩
def gG:wc X sts DS:=⟨L2.gG⟩
def _root_.aD(h:JE X e te):JS X (.Return (some e) pos) (zm te):=⟨lH h.out⟩
def _root_.bw(h:JE X e te)(a:ie e=false:=by rfl):JS X (.Expr e pos) (xJ te):=⟨Ox h.out a⟩
def _root_.aK{a:TT}(e:JT X c a)(g:wc X x u)(f:wc X y v):JS X (.If c x y pos) (Dh a u v):=⟨Ku e.out g.out f.out⟩
def _root_.bh{g:TG}{tb:TS}(a:PassesOwn (model X.prog X.w) X.A X.env X.xe)(i:X.calm=true)(j:JI X tg it wi)(h:JG X tg g)(e:wc X body tb)
  (f:∀x,foldedSetIterable it X.env x=pure x:=by intro _;rfl):JS X (.For tg it body [] pos) (ON wi g tb):=⟨LQ a i j.out h.out e.out f⟩
end
def _root_.aa(S:L2.Slot X i x):JE X (.Name x p) (gC i):=⟨S.rd⟩
def _root_.aB(S:L2.Slot X i x)(nd:X.N.Nodup)(he:JE X e te)(h:ie e=false:=by rfl):JS X (.Assign [.Name x Yy] e pos) (wK te<|eX i):=⟨S.set nd he.out h⟩
def _root_.aR(S:L2.Slot X i x)(nd:X.N.Nodup):JG X (.Name x p) (eX i):=⟨S.tg nd⟩
def _root_.aH{id:String}(B:Bt X x)(i:JF X (.builtin id) r)(a:bootBuiltins x=some (.builtin id))(f:JA X (e::es) t)(h:notStar e=true:=by rfl)(g:es.all notStar=true:=by rfl):
  JE X (.Call (.Name x p) (e::es) [] pos) (MZ r t):=⟨B.call i.out a f.out h g⟩
def _root_.bu(B:Bt X x)(i:JF X (.type T) r)(a:bootBuiltins x=some (.type T))(f:JA X (e::es) t)(h:notStar e=true:=by rfl)(g:es.all notStar=true:=by rfl):
  JE X (.Call (.Name x p) (e::es) [] pos) (MZ r t):=⟨B.Oq i.out a f.out h g⟩
def ty(B:Bt X x)(a:bootBuiltins x=some (.type n)):JE X (.Name x p) (tC<|.ty n):=⟨B.ty a⟩
def _root_.au(C:Lo X x sp)(f:JA X (e::es) t)(a:notStar e=true:=by rfl)(g:es.all notStar=true:=by rfl):JE X (.Call (.Name x p) (e::es) [] pos) (jO sp [] E0 t):=⟨C.call f.out a g⟩
def _root_.cb (B:Bt X "range") (a:JA X [e] t) (h:notStar e=true:=by rfl):JI X tg (.Call (.Name "range" p) [e] [] pos) (Js t):=⟨Dp B.gl B.nm a.out<|cT h⟩
def Kg{w:X7}{K:Frag}{e:Yh}{base:Heap}{x g:Yc}{st:Stmt}{f:X4}{fd:FuncData}{N ps:Yb Yc}{k:Nat}{sp:Sp}(F:oI K x g st f fd)(S:cL N ps (cK st))(len:∀vs H Q E,sp vs H Q E->vs.length=ps.length)
  (i:∀(X:Cx)(a:X3)(A:X9)(outer:Yb Env)(s:X5)(H:Hp)(vs:Yb V)(Q:VK)(E:XK),X=(kZ mH P w K e base N g (cK st) f a A outer s H E).nh->dB k X.A->sp vs H Q E->
   ∃t,wc X (df st) t/\t { nx:=λ_ H'=>Q .non H',rt:=Q } (L2.start N vs) H):dZ P w K e base mH (k+1) f fd ps sp:=by
 refine F.ok S len λa A outer s H vs Q E hr h=>?_;obtain⟨t,l,j⟩:=i _ a A outer s H vs Q E rfl hr h;exact⟨t,l.out,j⟩
end J
namespace L2
def Inv.tI{i:Yg}{σ:St}{H:Hp}{s:X5}{g:Heap}{t':Nat}{fp:Yb X4}{T:X4}{o:HO}(I:Inv X i σ H s)(hf:∀b∈fp,oE X i H b)
  (k:∀b u,b ∉ fp->s.heap.get? b=some u->g.get? b=some u)(j:s.heap.objs.size<=T)(D:∀b∈fp,∃u,s.heap.get? b=some u)(new:cV X.prog X.w (upd H T o) g T o):Inv X i σ (upd H T o) { s with heap:=g,toks:=t' }:=by
 have h:=I.hok.fresh j;have Iq:∀b u,H b=some u->b ∉ fp:=λb u e z=>by rw[(hf b z).1]at e;cases e
 refine I.step (g':=s.gens) (d':=s.drawn) (λb f=>⟨(hf b f).2.2.2.1,(hf b f).2.1,(hf b f).2.2.2.2.1,(hf b f).2.2.2.2.2⟩) (λb u _ _ a e _=>k b u a e) (λb u _ _ a e _=>⟨u.slots,k b u a e⟩) (λb u _ e n=>?_)
  (λb u a e=>⟨u,k b u a e⟩) (λb p e=>?_) (λb u p e=>?_) (λb C e=>⟨#[],?_⟩) (λm A=>?_) (λb u e=>?_) I.bare
 ·rw[cI<|Ss<|SA (Sv e) j]
  exact n
 ·rw[cI<|cH e h]
  exact e
 ·rw[cI<|cH e h]
  exact e
 ·rw[cI<|cH e h,e]
  simp
 ·obtain⟨l,y,B,x,r⟩:=A
  exact⟨l,y,B,k _ l (λz=>(hf _ z).2.1 rfl) x,r⟩
 ·by_cases f:b=T
  ·subst f
   rw[cG]at e;cases e;exact new
  ·rw[cI f]at e
   refine(I.hok b u e).gD (λc v a q=>k c v ?_ q) (λc q=>by rw[cI<|cH q h];exact q) λc p q=>by rw[cI<|cH q h];exact q
   obtain rfl|a:=a
   ·exact Iq c u e
   ·exact Iq c _ a
def Inv.nZ{t':Nat}{fp:Yb X4}(I:Inv X Yi σ H s)(hf:∀b∈fp,oE X Yi H b)
  (k:∀b u,b ∉ fp->s.heap.get? b=some u->g.get? b=some u):Inv X Yi σ H { s with heap:=g,toks:=t' }:=by
 have Iq:∀b u,H b=some u->b ∉ fp:=λb u e z=>by rw[(hf b z).1]at e;cases e
 refine I.step (g':=s.gens) (d':=s.drawn) (λb f=>⟨(hf b f).2.2.2.1,(hf b f).2.1,(hf b f).2.2.2.2.1,(hf b f).2.2.2.2.2⟩) (λb u _ _ a e _=>k b u a e) (λb u _ _ a e _=>⟨u.slots,k b u a e⟩) (λ_ _ _ _ n=>n)
  (λb u a e=>⟨u,k b u a e⟩) (λ_ _ e=>e) (λ_ _ _ e=>e) (λb p e=>⟨#[],by rw[e];simp⟩) (λm l=>?_) (λb u e=>?_) I.bare
 ·obtain⟨h,j,o,i,r⟩:=l
  exact⟨h,j,o,k _ h (λz=>(hf _ z).2.1 rfl) i,r⟩
 ·refine(I.hok b u e).gD (λc v a q=>k c v ?_ q) (λ_ q=>q) λ_ _ q=>q
  obtain rfl|a:=a
  ·exact Iq c u e
  ·exact Iq c _ a
def Qz(q:Bool)(K:Frag)(H:Hp)(a:X4)(xs:Yb V):Prop:=match q with
 |true=>cP K H a xs
 |false=>fc K H a xs
def KU(q:Bool)(h:Heap)(it a:X4)(i:Nat):Prop:=match q with
 |true=>h.IsListIter it a i
 |false=>h.IsTupleIter it a i
def xh(p:KU q h it a i):∃o,h.get? it=some o/\∀v,o.data≠.cell v:=by
 cases q with
 |true=>obtain⟨o,e,c,d⟩:=p;exact⟨o,e,λv z=>by rw[d]at z;cases z⟩
 |false=>obtain⟨o,e,c,d⟩:=p;exact⟨o,e,λv z=>by rw[d]at z;cases z⟩
def BY{i:Nat}(p:KU q h it a i)(k:∀o,h.get? it=some o->g.get? it=some o):KU q g it a i:=by
 cases q with
 |true=>obtain⟨o,e,r⟩:=p;exact⟨o,k o e,r⟩
 |false=>obtain⟨o,e,r⟩:=p;exact⟨o,k o e,r⟩
def QV(n b:Nat)(h:b∈[n+1,n]):n<=b:=by grind
def vb:bootBuiltins "enumerate" =some (.type "enumerate"):=by decide+kernel
def IE(I:Inv X Yi σ H s)(h:Qz q X.K H a xs):a<s.heap.objs.size:=by
 cases q with
 |true=>obtain⟨f,r,⟨o,n,e,_⟩,z⟩:=I.list h;exact Sv e
 |false=>obtain⟨f,r,⟨o,e,_⟩,z⟩:=I.tuple h;exact Sv e
def MX(K:Frag)(a:X4):It:=
 ⟨λi H=>∃e x,cP K H a e/\e[i]? =some x,λi H v f=>∃p x,H p=none/\v=.ref p/\f=upd H p (.tup [.int i,x])/\∀e,cP K H a e->e[i]? =some x,λi H=>∃e,cP K H a e/\e.length=i⟩
def CN{P:X6}{w:X7}{K:Frag}{es:Yb Expr}{kk:Nat}{tp:Pos}{a:X4}(e it:X4)(ne:e≠it)(n1:a≠e)(n2:a≠it):
  Turn P w K (.Tuple es kk tp) (MX K a) [e,it] e (λi h=>(∃f,IsEnum h e it i f)/\h.IsListIter it a i):=by
 refine⟨by simp,λi h y b j=>?_,λi h g y k=>?_,?_,?_,λA i s Q E y h=>?_⟩
 ·obtain⟨⟨f,m⟩,n⟩:=y
  simp only[mem_cons,not_mem_nil,or_false]at j;obtain rfl|rfl:=j
  ·exact⟨_,m,λv e=>by cases e⟩
  ·exact xh (q:=true) n
 ·obtain⟨⟨f,m⟩,n⟩:=y
  exact⟨⟨f,k _ (by simp) _ m⟩,BY (q:=true) n λo e=>k _ (by simp) o e⟩
 ·intro X D S R Z i Yi s σ H E I G y N
  subst D S R;obtain⟨⟨f,m⟩,n⟩:=y;obtain⟨xs,x,J,ex⟩:=N;obtain⟨z,r,p,l⟩:=I.list J;obtain⟨u,eu,ru⟩:=r.get ex;have W:=WalksT.enumerate (prog:=X.prog) (w:=X.w) (A:=X.A) (I.ok.hd Z) e it a ne n1 n2 z.toArray;have hi:i<z.toArray.size:=by
   have:=(gI0.mp eu).1
   simpa using this
  refine W.item i s _ _ hi ⟨⟨f,m⟩,n,p.isList⟩ λT Zj g O D hT F hM L=>?_;obtain⟨t,v,hv,rfl⟩:=D;have Y:v=u:=by
   have:z[i]? =some v:=by simpa using hv
   rw[eu]at this;exact(Sy this).symm
  subst Y;have C:=W.apart i T g hM;refine⟨_,rfl,W.go es kk tp i T { s with heap:=g,toks:=O } _ _ hM λg2 YE B=>?_⟩;have hn:=I.hok.fresh hT;have M:∀b u,b ∉ [e,it]->s.heap.get? b=some u->g2.get? b=some u:=λb u j q=>B b u j<|L b u j q;have I2:Inv X Yi σ (upd H T<|.tup [.int i,x]) { s with heap:=g2,toks:=O }:=by
   refine I.tI G M hT (λb j=>?_) ⟨by show 2<=sizeLine;decide,[.int i t,v],.cons ⟨t,rfl⟩<|.cons ru .nil,?_⟩
   ·simp only[mem_cons,not_mem_nil,or_false]at j
    obtain rfl|rfl:=j
    ·exact⟨_,m⟩
    ·obtain⟨o,q,_⟩:=xh (q:=true) n;exact⟨o,q⟩
   ·obtain⟨o,q,rest⟩:=F
    exact⟨o,B T o C q,rest⟩
  refine⟨.ref T,_,I2,rfl,⟨T,x,hn,rfl,rfl,λzs hz=>by rw[I.yC hz J];exact ex⟩,⟨by simpa using YE.1,YE.2.1⟩,λb j=>?_⟩;have U:b≠T:=by
   rintro rfl;exact C j
  rw[cI U];exact(G b j).1
 ·intro X D S R Z i Yi s σ H E I G y N
  subst D S R;obtain⟨⟨f,m⟩,n⟩:=y;obtain⟨xs,J,rfl⟩:=N;obtain⟨z,r,p,l⟩:=I.list J;have W:=WalksT.enumerate (prog:=X.prog) (w:=X.w) (A:=X.A) (I.ok.hd Z) e it a ne n1 n2 z.toArray;have e1:xs.length=z.toArray.size:=by rw[SI];exact r.length
  rw[e1]at m n;exact W.done s _ _ ⟨⟨f,m⟩,n,p.isList⟩ λg O L=>⟨rfl,I.nZ G L⟩
 ·obtain⟨⟨f,m⟩,n⟩:=y
  exact wpAny_pyIter_enum m h
def J1(K:Frag)(ta:TA):TI:=λσ H R=>ta σ H λe H1=>∃a,e=[.ref a]/\(∃f,cP K H1 a f)/\R (MX K a) H1
def pD {es:Yb Expr}{x:Nat}{A p pos:Pos}{ta:TA}(B:Bt X "enumerate") (E:PA X [e1] ta) (y:notStar e1=true:=by rfl):PI X (.Tuple es x A) (.Call (.Name "enumerate" p) [e1] [] pos) (J1 X.K ta):=by
 intro D s σ H R I h;refine T6<|jj I B.gl B.nm vb ?_ B.hn B.db;refine TN (c9 (E pos D s σ H _ I h) λO l i=>?_) (cT y)<|d4 rfl;obtain⟨G,H1,f,v,a,e,⟨M,n⟩,q⟩:=i;subst e;obtain⟨L,rfl,C⟩:=vals1 v;cases C;obtain⟨N,J,z,P⟩:=f.list n;have m:=IE (q:=true) f n;refine call_enumerate_list z.isList λg o F _ r=>?_;refine wpAny_pyIter_enum o ?_;refine⟨_,_,_,_,H1,rfl,f.kept (t':=l.toks) r,CN (l.heap.objs.size+1) l.heap.objs.size (VH<|Vp _) (Ss<|V6 m)<|Ss m,⟨⟨_,o⟩,F⟩,λb w=>?_,q⟩;have j:l.heap.objs.size<=b:=QV _ _ w;exact f.u5 j<|f.hok.fresh j
def Ee{K:Frag}{a:X4}{xs:Yb V}{g:TG}{tb:TS}{D:Ends}{σ:St}{H:Hp}(Pv:Nat->St->Hp->Prop)(h0:Pv 0 σ H)(q:∀i σ H,Pv i σ H->cP K H a xs)
  (r:∀(i:Nat) x p σ H,xs[i]? =some x->H p=none->Pv i σ H->g (.ref p) σ (upd H p<|.tup [.int i,x]) λh n=>tb { D with nx:=Pv<|i+1,ct:=Pv<|i+1,bk:=D.nx } h n)(hd:∀σ H,Pv xs.length σ H->D.nx σ H):
  ∃W:Nat->Nat->St->Hp->Prop,(∃m,W 0 m σ H)/\∀i m σ H,W i m σ H->
   ((MX K a).stop i H/\D.nx σ H)\/((MX K a).go i H/\∃N:St->Hp->Prop,(∀f H',N f H'->∃o,o<m/\W (i+1) o f H')/\∀x H',(MX K a).yld i H x H'->g x σ H' λh n=>tb { D with nx:=N,ct:=N,bk:=D.nx } h n):=by
 refine⟨λi m σ H=>m=xs.length-i/\i<=xs.length/\Pv i σ H,⟨xs.length,by simp,Tq _,h0⟩,?_⟩;rintro i m σ H ⟨rfl,B,p⟩;have l:=q i σ H p;by_cases j:i<xs.length
 ·refine .inr ⟨⟨xs,xs[i],l,by simp[j]⟩,Pv<|i+1,λf H' z=>⟨xs.length-(i+1),by lia,rfl,j,z⟩,λv H' y=>?_⟩
  obtain⟨A,x,s,rfl,rfl,w⟩:=y;exact r i x A σ H (w xs l) s p
 ·have e:i=xs.length:=by lia
  subst e;exact .inl ⟨⟨xs,l,rfl⟩,hd σ H p⟩
theorem qt:∀{zs:Yb Yc}{us:Yb X3},Vals (zs.map V.str) us->StrsAre us zs
 |[],_,r=>by cases r;exact .nil
 |z::zs,_,r=>by
  cases r with
  |cons e a=>
   obtain⟨t,rfl⟩:=e;exact .cons z t<|qt a
def uP:PK X "str.join" (λx vs H Q=>∃(a:Yc) (p:X4) (zs:Yb Yc),x=.str a/\vs=[.ref p]/\cP X.K H p (zs.map V.str)/\(zs.map (·.length)).sum+zs.length*a.length<=16777216/\Q (.str<|Txt.join a zs) H):=by
 intro n s σ H x m v w Q I i g h;obtain⟨a,p,zs,rfl,rfl,e,f,q⟩:=h;obtain⟨t,rfl⟩:=i;obtain⟨u,rfl,j⟩:=vals1 g;cases j;obtain⟨o,r,pl,_⟩:=I.list e;exact join_list pl.isList (by simpa using qt r) f λl k=>⟨.str _,H,I.tok _,⟨_,rfl⟩,q⟩
local instance keyBEq:BEq Key:=instBEqOfDecidableEq
local instance keyLBEq:@LawfulBEq Key keyBEq:=inferInstanceAs (@LawfulBEq Key instBEqOfDecidableEq)
def vp{prog:X6}{w:X7}{h:Heap}{a:X4}{S f:Key->Bool}{n g:Nat}(i:h.SetOf (cO prog w) a S n)(e:∀k,S k=f k)(j:n=g):h.SetOf (cO prog w) a f g:=by
 have:S=f:=funext e;subst this;subst j;exact i
section
variable {n:Nat}{P:Nat->X3->Prop}{St:Nat->X5->Prop}
def setLoop(W:WalksS prog w A.in1 I fp wr G n P St)(S:X4)(C:S ∉ fp)(key:Nat->Key)(l:∀i v,P i v->oP (key i) v=true/\v.scannable=true)
  (Zy:∀i j,i<j->j<n->key i≠key j)(z:n+1<scanBound):∀(k i:Nat) (s:X5),n-i=k->i<=n->St i s->s.heap.SetOf (cO prog w) S (λc=>(List.range i).any λj=>decide<|c=key j) i->
   (∀s',Moved (S::wr) G s s'->s'.heap.SetOf (cO prog w) S (λc=>(List.range n).any λj=>decide<|c=key j) n->R (.ok<|.ret .none) s')->
   codeAny (model prog w) A (.builtin "set.update.loop" ⟨[.ref S,.ref I],[]⟩) R s:=by
 have K:=λh=>C<|W.sub _ h;have L:∀b∈wr,b∈S::wr:=λb z=>Ta _ z;have gD:∀{s s':X5}{T:Key->Bool}{m:Nat},Moved wr G s s'->s.heap.SetOf (cO prog w) S T m->s'.heap.SetOf (cO prog w) S T m:=λa ⟨o,X,Z,O,Q,rest⟩=>⟨o,X,Z,O,a.heap S _ K Q,rest⟩;intro k
 induction k with
 |zero=>
  intro i s N Y B H J;obtain rfl:i=n:=by lia
  refine Vd Wl ?_;rw[VM UM _];refine RX<|W.done s _ _ B λs' a=>?_;exact RZ<|J s' (a.mono L)<|gD a H
 |succ k ih=>
  intro i s N Y B H J;have f:i<n:=by lia
  refine Vd Wl ?_;rw[VM UM _];refine RX<|W.item i s _ _ f B λv s' hP y a=>?_;obtain⟨x,F⟩:=l i v hP;have E:=gD a H;refine RX<|Tf ?_;unfold setAdd;refine Tf ?_;refine RX<|(cO prog w).pyHash x ?_;refine wpAny_setAddHashed_of x F E (by lia) λg p U=>?_;have M:((List.range i).any λj=>decide<|key i=key j)=false:=by grind
  refine RZ ⟨WT UM _,ih (i+1) _ (by lia) f (W.frame _ s' _ _ y (VP _) λb z o e=>?_) (by grind) λD r q=>?_⟩
  ·rw[p.2 b<|by grind]
   exact e
  ·refine J D (Moved.trans W.gtrans ((a.mono L).then_heap (VP _) λb o z e=>?_) r) q
   rw[p.2 b<|by grind];exact e
end
def tR{l:X4}{items:Array X3}{key:Nat->Key}{Q:Yd}(hh:A.handled=none)(hl:s.heap.IsList l items)(hv:∀i v,items[i]? =some v->oP (key i) v=true/\v.scannable=true)
  (Zy:∀i j,i<j->j<items.size->key i≠key j)(G:items.size+1<scanBound)
  (h:∀(g:Heap)(H:Nat)(T:Key->Bool),g.SetOf (cO prog w) s.heap.objs.size T items.size->(∀b o,b<s.heap.objs.size->s.heap.get? b=some o->g.get? b=some o)->Q (.ref s.heap.objs.size) { s with heap:=g,toks:=H }):
  wpAny (model prog w) A (call (.type "set") [.ref l]) Q E s:=by
 obtain⟨c,tl,Z⟩:=VN.mro;have L:=VN.made;have YT:=VN.sub;refine WU<|codeAny_of_tree ?_;show wpAny _ _ (callAny (.type "set") _) _ _ _;refine RZ ⟨Code.quiet_builtin _<|by decide+kernel,Vd PySem.F.entry_type_call ?_⟩;rw[Around.under_plain (weight_type_call_type "set" [.ref l] []) rfl];have f1:=VN.notType;have f2:=VN.canCreate;have f3:=PySem.F.typeCall_set_1<|.ref l
 repeat (any_goals (first|assumption|wp_step))
 refine UD (code_set_new_1 (.ref l) (E:=E) (Q₁:=λy u=>∃a:Bool,y=.ref s.heap.objs.size/\u={ s with heap:=s.heap.push { cls:=.type "set",dict:=none,data:=.set #[] 0 (.fresh 0 0 a) } }) λa=>⟨a,rfl,rfl⟩) λr u hr=>?_;cases r with
 |error e=>exact hr
 |ok fl=>
  cases fl with
  |ret y=>
   obtain⟨a,rfl,rfl⟩:=hr;have Y:(s.heap.push { cls:=.type "set",dict:=none,data:=.set #[] 0 (.fresh 0 0 a) }).get? s.heap.objs.size=some { cls:=.type "set",dict:=none,data:=.set #[] 0 (.fresh 0 0 a) }:=Sl _ rfl;have hT:Shared.TypeIs { s with heap:=s.heap.push { cls:=.type "set",dict:=none,data:=.set #[] 0 (.fresh 0 0 a) } } (.ref s.heap.objs.size) "set" :=⟨_,Y,rfl⟩;have ac:=VN.init.lookup;have ab:=VN.init.bind<|.ref s.heap.objs.size
   repeat (any_goals (first|assumption|wp_step))
   refine UD (WI (R:=wants (λr u=>r=.none/\∃g H T,u={ s with heap:=g,toks:=H }/\g.SetOf (cO prog w) s.heap.objs.size T items.size/\(∀b o,b<s.heap.objs.size->s.heap.get? b=some o->g.get? b=some o)) E)
    VN.init.plain PySem.F.entry_set_init (check_set_init_1 hT ?_)) λr2 u m=>?_
   ·obtain⟨⟨U,n,M,f⟩,X,D,W,z⟩:=hl
    simp only at D z;subst D;subst z;have B:(s.heap.push { cls:=.type "set",dict:=none,data:=.set #[] 0 (.fresh 0 0 a) }).get? l=some { cls:=.type "list",dict:=n,data:=.seq items W,slots:=f }:=R6 _ X;have k1:=PySem.F.sub_list_set;have k2:=PySem.F.sub_list_frozenset;have k3:(Value.type "list" == Value.type "dict")=false:=by decide
    have C:(s.heap.push { cls:=.type "set",dict:=none,data:=.set #[] 0 (.fresh 0 0 a) }).IsList l items:=⟨_,B,rfl,W,rfl⟩;unfold Builtin.«set.__init__» noKeywords Builtin.Frozenset.updateFrom;generalize N:pyIter=PI
    wp_walk
    subst N;refine Vu C ?_;refine RX<|wpAny_runValue ?_;have q:l<s.heap.objs.size:=Sv X;have x:l≠(s.heap.push { cls:=.type "set",dict:=none,data:=.set #[] 0 (.fresh 0 0 a) }).objs.size:=by
     rw[W3];exact Ss<|V6 q
    have O:s.heap.objs.size ∉ [(s.heap.push { cls:=.type "set",dict:=none,data:=.set #[] 0 (.fresh 0 0 a) }).objs.size,l]:=by
     rw[W3];simp only[mem_cons,not_mem_nil,or_false,not_or];exact⟨Ss<|Vp _,VH q⟩
    refine setLoop ((XR (show A.in1.in1.in1.handled=none by simp[hh]) _ l x items).toS) s.heap.objs.size O key hv Zy G (items.size-0) 0 _ (by lia) (Tq _) ⟨⟨_,Sl _ rfl,rfl,rfl⟩,C.push _⟩ ?_ ?_
    ·refine vp ((PyProof.Rows.setObjOf_fresh (knd:=cO prog w) a).setOf (R6 _ Y)<|by unfold scanBound;lia) (λ_=>rfl) rfl
    ·intro s' I p
     obtain⟨g,g',d',P,K⟩:=s';have eg:g'=s.gens:=I.gens;have ed:d'=s.drawn:=I.drawn;have eo:K=s.os:=I.os;subst eg ed eo;show wpAny _ _ _ _ _ _;refine RZ ?_;show wpAny _ _ (ret Value.none) _ _ _;refine RZ ⟨rfl,g,P,_,rfl,p,λb o G e=>?_⟩;have S:b≠(s.heap.push { cls:=.type "set",dict:=none,data:=.set #[] 0 (.fresh 0 0 a) }).objs.size:=by
      rw[W3];exact Ss<|V6 G
     exact I.heap b o (by simp only[mem_cons,not_mem_nil,or_false,not_or];exact⟨Ss G,S⟩)<|R6 _<|R6 _ e
   ·cases r2 with
    |error e=>exact m
    |ok J=>
     cases J with
     |ret r=>
      obtain⟨rfl,g,H,T,rfl,p,Zo⟩:=m
      repeat (any_goals (first|assumption|wp_step))
      exact h _ _ _ p Zo
     |_=>exact m.elim
  |_=>exact hr.elim
def setM(P:X6)(w:X7)(a:X4)(n:Nat):HO:=.ext λh=>∃T,h.SetOf (cO P w) a T n
def nQ{X:Cx}(O:X.calm=true):eW X (.type "set") (λxs H Q=>∃(p:X4) (zs:Yb Yc),xs=[.ref p]/\cP X.K H p (zs.map V.str)/\zs.Nodup/\zs.length<1000/\∀q,H q=none->Q (.ref q) (upd H q<|setM X.prog X.w q zs.length)):=by
 intro U s σ H xs W Q I r h;obtain⟨p,zs,rfl,D,nd,S,q⟩:=h;obtain⟨u,rfl,F⟩:=vals1 r;cases F;obtain⟨z,x,pl,_⟩:=I.list D;have l:=x.length;rw[R5]at l;refine tR (key:=λi=>Sum.inr<|zs.getD i "") (I.ok.hd O) pl.isList (λi v e=>?_) (λi j B Y=>?_) (by rw[SI,<-l];unfold scanBound;lia) λg C T m A=>?_
 ·have n:z[i]? =some v:=by simpa using e
  have y:i<zs.length:=by grind
  obtain⟨u,M,t,rfl⟩:=x.get (show(zs.map V.str)[i]? =some (V.str zs[i]) by simp[y]);rw[M]at n;cases n;have f:zs.getD i "" =zs[i]:=by simp[List.getD,y]
  rw[f];exact⟨tS _ _,rfl⟩
 ·have N:j<zs.length:=by grind
  have a:i<zs.length:=by lia
  intro e;have f:zs[i]=zs[j]:=by simpa [List.getD,a,N] using (Up e)
  exact absurd ((Uy nd).mp f) (by lia)
 ·have G:=I.hok.fresh (R9 _)
  have L:z.toArray.size=zs.length:=by rw[SI,l]
  rw[L]at m;refine⟨.ref s.heap.objs.size,_,I.laid (t':=C) (o:=setM X.prog X.w s.heap.objs.size zs.length) (λb o e=>A b o (Sv e) e) (R9 _) ⟨⟨T,m⟩,?_,λR P p k=>?_⟩,rfl,q _ G⟩
  ·obtain⟨o,_,_,_,e,_⟩:=m
   exact⟨o,e⟩
  ·obtain⟨T,o,E,J,t,e,rest⟩:=p
   exact⟨T,o,E,J,t,k o e,rest⟩
def fU{X:Cx}:eW X (.builtin "len") (λxs H Q=>∃(p:X4) (n:Nat),xs=[.ref p]/\H p=some (setM X.prog X.w p n)/\Q (.int n) H):=by
 intro v s σ H xs y Q I r h;obtain⟨p,n,rfl,g,q⟩:=h;obtain⟨u,rfl,j⟩:=vals1 r;cases j;obtain⟨⟨T,o,a,x,t,e,f,d,_,_,l,i,rfl⟩,_⟩:=I.hok p _ g;have m:a.size<4096:=l;exact call_len_set e f d i (by lia) ⟨.int a.size,H,I.tok _,⟨_,rfl⟩,q⟩
section
variable {K:Frag}
def L9(Pv:X4->Nat->Yb V->Hp->Prop)(z:n<=sizeLine)(h0:∀D,H D=none->Pv D 0 [] (upd H D<|.lst []))
  (l:∀D i ys a,Pv D i ys a->a D=some (.lst ys)/\ys.length=i)(o:∀D i ys a,Pv D i ys a->i<n->J.go i a)(A:∀D ys a,Pv D n ys a->J.stop n a)
  (he:∀D i ys a v f (h:VK),Pv D i ys a->i<n->J.yld i a v f->(∀y H4,H4 D=some (.lst ys)->Pv D (i+1) (ys++[y]) (upd H4 D<|.lst<|ys++[y])->h y H4)->te (some v::eF is σ) f h)
  (q:∀D ys a,H D=none->Pv D n ys a->Q (.ref D) a):j7 J is te σ H Q:=by
 intro D g;refine⟨λi m ys a=>m=n-i/\i<=n/\Pv D i ys a,⟨_,rfl,Tq _,h0 D g⟩,?_⟩;rintro i m ys a ⟨rfl,B,p⟩;obtain⟨r,w⟩:=l D i ys a p;refine⟨r,?_⟩;by_cases e:i<n
 ·refine .inr ⟨o D i ys a p e,λv f y=>he D i ys a v f _ p e y λx H4 s j=>⟨s,by lia,n-(i+1),by lia,rfl,e,j⟩⟩
 ·grind
def BE{xs:Yb V}(f:V->V)(A:xs.length<=sizeLine)(z:∀i a,cJ H a->i<xs.length->J.go i a)(E:∀a,cJ H a->J.stop xs.length a)
  (C:∀i a v g,cJ H a->i<xs.length->J.yld i a v g->g=a/\xs[i]? =some v)
  (he:∀v a (r:VK),v∈xs->cJ H a->(∀g,cJ a g->r (f v) g)->te (some v::eF is σ) a r)
  (q:∀D H',H D=none->cJ H H'->H' D=some (.lst<|xs.map f)->Q (.ref D) H'):j7 J is te σ H Q:=by
 refine L9 (λD i h a=>H D=none/\cJ H a/\a D=some (.lst h)/\i<=xs.length/\h=(xs.take i).map f) A (λD l=>⟨l,cJ.upd l,cG,Tq _,by simp⟩)
  (λD i h a p=>⟨p.2.2.1,by rw[p.2.2.2.2,R5,Tp];have:=p.2.2.2.1;lia⟩) (λD i h a p w=>z i a p.2.1 w) (λD h a p=>E a p.2.1) ?_ ?_
 ·rintro D i h a v g r ⟨l,m,B,w,n⟩ j y k
  obtain⟨rfl,x⟩:=C i a v g m j y;refine he v _ _ (R4 x) m λF s=>?_;refine k _ _ (s _ _ B) ⟨l,λb o e=>?_,cG,j,?_⟩
  ·rw[cI<|cH e l]
   exact s _ _<|m _ _ e
  ·rw[n,SU,x,TQ]
   rfl
 ·grind
def l8{xs:Yb V}(f:V->V)(h:cP K H a xs)(n:xs.length<=sizeLine)(he:∀v e (l:VK),v∈xs->cJ H e->(∀j,cJ e j->l (f v) j)->te (some v::eF is σ) e l)
  (q:∀D H',H D=none->cJ H H'->H' D=some (.lst<|xs.map f)->Q (.ref D) H'):j7 (GQ K a) is te σ H Q:=
 BE f n (λi e g m=>⟨xs,xs[i],g.seq h,by simp[m]⟩) (λe g=>⟨xs,g.seq h,R9 _⟩) (λi e v j g m y=>⟨y.1,y.2 xs<|g.seq h⟩) he q
def IV{xs:Yb V}(f:V->V)(h:fc K H a xs)(n:xs.length<=sizeLine)(he:∀v e (l:VK),v∈xs->cJ H e->(∀j,cJ e j->l (f v) j)->te (some v::eF is σ) e l)
  (q:∀D H',H D=none->cJ H H'->H' D=some (.lst<|xs.map f)->Q (.ref D) H'):j7 (QA K a) is te σ H Q:=
 BE f n (λi e g m=>⟨xs,xs[i],g.Mt h,by simp[m]⟩) (λe g=>⟨xs,g.Mt h,R9 _⟩) (λi e v j g m y=>⟨y.1,y.2 xs<|g.Mt h⟩) he q
end
theorem jk{env:Env}{k:NameKind}(f:k≠.free):∀{names:Yb (Yc×NameKind)}{x:Yc},names.lookup x=some k->
  (names.map λ(n,k)=>if(k==NameKind.free&&env.scope.kind==.function&&env.kindOf n==some .cell) then(n,NameKind.cell) else(n,k)).lookup x=some k
 |[],_,h=>by simp at h
 | (n,j)::r,x,h=>by
  have g:=@jk env k f r x;show List.lookup x ((if(j==NameKind.free&&env.scope.kind==.function&&env.kindOf n==some .cell)=true then(n,NameKind.cell) else(n,j))::_)=_;cases e:x==n with
  |true=>
   simp only[lookup_cons,e]at h;cases h;rw[R7<|by simp[f]];simp only[lookup_cons,e]
  |false=>
   simp only[lookup_cons,e]at h;by_cases a:(j==NameKind.free&&env.scope.kind==.function&&env.kindOf n==some .cell)=true
   ·rw[Sb a];simp only[lookup_cons,e];exact g h
   ·rw[R7 a];simp only[lookup_cons,e];exact g h
theorem jF{env:Env}:∀{names:Yb (Yc×NameKind)}{x:Yc},names.lookup x=some .free->
  (names.map λ(n,k)=>if(k==NameKind.free&&env.scope.kind==.function&&env.kindOf n==some .cell) then(n,NameKind.cell) else(n,k)).lookup x=some .cell\/
  (names.map λ(n,k)=>if(k==NameKind.free&&env.scope.kind==.function&&env.kindOf n==some .cell) then(n,NameKind.cell) else(n,k)).lookup x=some .free
 |[],_,h=>by simp at h
 | (n,j)::r,x,h=>by
  have a:=@jF env r x;cases e:x==n with
  |true=>grind
  |false=>grind
structure B8(X:Cx)(x:Yc)(sp:Sp):Prop where
 ex:∃(k:Nat) (f:X4) (fd:FuncData) (ps:Yb Yc),dZ X.prog X.w X.K X.mg X.base mH k f fd ps sp/\dB k X.A/\X.mg x=some (.ref f)/\keepIn X.K (.ref f)=true/\Binds X.K fd ps []
 db:(x==("__debug__" :Yc))=false
def B8.lc(B:B8 X y sp)(h:scope.names.lookup y=some .globalImplicit):Lo (dv X (x::ns) scope cl fp s3 H3 C) y sp:=⟨B.ex,jk (by decide) h,B.db⟩
structure Gd(P:X6)(w:X7)(K:Frag)(mg:Yh)(base:Heap)(k:Nat)(x:Yc)(sp:Sp):Prop where
 ex:∃(f:X4) (fd:FuncData) (ps:Yb Yc),dZ P w K mg base mH k f fd ps sp/\mg x=some (.ref f)/\keepIn K (.ref f)=true/\Binds K fd ps []
structure Md(P:X6)(w:X7)(K:Frag)(mg:Yh)(base:Heap)(k:Nat)(C:X4)(m:Yc)(sp:Sp):Prop where
 ex:∃(f:X4) (fd:FuncData) (ps:Yb Yc),dZ P w K mg base mH k f fd ps sp/\Meth K C m f/\Binds K fd ps []
 cl:vm K C
structure Kd(P:X6)(w:X7)(K:Frag)(mg:Yh)(base:Heap)(k:Nat)(x:Yc)(C:X4)(sp:Sp):Prop where
 ex:∃(f:X4) (fd:FuncData) (ps:Yb Yc),dZ P w K mg base mH k f fd ps sp/\Mk K C f/\Binds K fd ps []
 nm:mg x=some (.ref C)
structure QM(X:Cx)(x:Yc)(C:X4)(sp:Sp):Prop where
 ex:∃(k:Nat) (f:X4) (fd:FuncData) (ps:Yb Yc),dZ X.prog X.w X.K X.mg X.base mH k f fd ps sp/\dB (k+1) X.A/\Mk X.K C f/\Binds X.K fd ps []
 nm:X.mg x=some (.ref C)
 gl:Gl X x
 db:(x==("__debug__" :Yc))=false
structure Met(X:Cx)(C:X4)(m:Yc)(sp:Sp):Prop where
 ex:∃(k:Nat) (f:X4) (fd:FuncData) (ps:Yb Yc),dZ X.prog X.w X.K X.mg X.base mH k f fd ps sp/\dB k X.A/\Meth X.K C m f/\Binds X.K fd ps []
 cl:vm X.K C
structure Here(X:Cx)(P:X6)(w:X7)(K:Frag)(mg:Yh)(base:Heap)(sc:Scope)(N:Yb Yc)(k:Nat):Prop where
 pr:X.prog=P
 wd:X.w=w
 fK:X.K=K
 gm:X.mg=mg
 bs:X.base=base
 calm:X.calm=true
 own:PassesOwn (model X.prog X.w) X.A X.env X.xe
 hsc:X.env.scope=sc
 hN:X.N=N
 nd:X.N.Nodup
 room:dB k X.A
 fn:∀x,X.fn x=true
section
variable {K:Frag}{mg:Yh}{base:Heap}{sc:Scope}{N:Yb Yc}{k:Nat}{j:Nat}{x:Yc}{m:Yc}{sp:Sp}{C:X4}
def Here.slot (h:Here X P w K mg base sc N k) (i:Nat) (a:N[i]? =some x) (lc:Loc sc x) (db:(x==("__debug__" :Yc))=false) (cd:(x==("__classdict__" :Yc))=false):Slot X i x:=
 ⟨by rw[h.hN];exact a,by rw[h.hsc];exact lc,.inl<|h.fn x,db,cd⟩
def Here.sl (h:Here X P w K mg base sc N k) (i:Nat) (x:Yc) (a:N[i]? =some x:=by rfl) (lc:Loc sc x:=by first|exact .inl rfl|exact .inr rfl) (db:(x==("__debug__" :Yc))=false:=by decide) (cd:(x==("__classdict__" :Yc))=false:=by decide):Slot X i x:=h.slot i a lc db cd
def Qj(X:Cx):Yb Nat->Yb Yc->Prop
 |i::is,x::r=>Slot X i x/\Qj X is r
 |_,_=>True
theorem Here.Oz(h:Here X P w K mg base sc N k):∀(is:Yb Nat) (r:Yb Yc),(∀(j i:Nat) x,is[j]? =some i->r[j]? =some x->N[i]? =some x)->(∀x∈r,(sc.names.lookup x=some .local\/sc.names.lookup x=some .cell)/\(x==("__debug__" :Yc))=false/\(x==("__classdict__" :Yc))=false)->Qj X is r
 |[],_,_,_=>trivial
 |_::_,[],_,_=>trivial
 |i::is,x::r,e,c=>⟨h.slot i (e 0 i x rfl rfl) (c x SO).1 (c x SO).2.1 (c x SO).2.2,Here.Oz h is r (λj i x a b=>e (j+1) i x a b) λy f=>c y<|Ta _ f⟩
def Here.fA (h:Here X P w K mg base sc N k) (is:Yb Nat) (e:is=List.range N.length:=by rfl) (c:∀x∈N,(sc.names.lookup x=some .local\/sc.names.lookup x=some .cell)/\(x==("__debug__" :Yc))=false/\(x==("__classdict__" :Yc))=false:=by decide+kernel):Qj X is N:=h.Oz is N (λj i x a b=>by
 subst e;obtain⟨g,f⟩:=gI0.mp a;rw[List.getElem_range]at f;exact f ▸ b) c
def Here.gl(h:Here X P w K mg base sc N k)(a:sc.names.lookup x=some .globalImplicit):Gl X x:=by
 show X.env.scope.names.lookup x=_;rw[h.hsc];exact a
def Here.bt (h:Here X P w K mg base sc N k) (hm:mg x=none) (a:sc.names.lookup x=some .globalImplicit) (e:x≠ "__name__") (db:(x==("__debug__" :Yc))=false):Bt X x:=⟨h.gl a,by rw[h.gm];exact hm,e,db⟩
def Here.b (h:Here X P w K mg base sc N k) (hm:mg x=none) (a:sc.names.lookup x=some .globalImplicit:=by rfl) (e:x≠ "__name__" :=by decide) (db:(x==("__debug__" :Yc))=false:=by decide):Bt X x:=h.bt hm a e db
def Here.eO (h:Here X P w K mg base sc N k) (G:Gd P w K mg base j x sp) (o:sc.names.lookup x=some .globalImplicit) (g:j<=k) (db:(x==("__debug__" :Yc))=false):Lo X x sp:=by
 obtain⟨f,a,e,m,i,n,l⟩:=G.ex;obtain⟨rfl,rfl,rfl,rfl,rfl⟩:=And.intro h.pr<|And.intro h.wd<|And.intro h.fK<|And.intro h.gm h.bs;exact⟨⟨j,f,a,e,m,h.room.mono g,i,n,l⟩,h.gl o,db⟩
def Here.c (h:Here X P w K mg base sc N k) (G:Gd P w K mg base j x sp) (a:sc.names.lookup x=some .globalImplicit:=by rfl) (e:j<=k:=by first|decide|exact R9 _) (db:(x==("__debug__" :Yc))=false:=by decide):Lo X x sp:=h.eO G a e db
def Here.rR (h:Here X P w K mg base sc N k) (G:Gd P w K mg base j x sp) (g:j<=k) (db:(x==("__debug__" :Yc))=false):B8 X x sp:=by
 obtain⟨f,a,e,m,i,n,l⟩:=G.ex;obtain⟨rfl,rfl,rfl,rfl,rfl⟩:=And.intro h.pr<|And.intro h.wd<|And.intro h.fK<|And.intro h.gm h.bs;exact⟨⟨j,f,a,e,m,h.room.mono g,i,n,l⟩,db⟩
def Here.ci (h:Here X P w K mg base sc N k) (G:Gd P w K mg base j x sp) (a:j<=k:=by first|decide|exact R9 _) (db:(x==("__debug__" :Yc))=false:=by decide):B8 X x sp:=h.rR G a db
def Here.QL (h:Here X P w K mg base sc N k) (G:Kd P w K mg base j x C sp) (n:sc.names.lookup x=some .globalImplicit) (g:j+1<=k) (db:(x==("__debug__" :Yc))=false):QM X x C sp:=by
 obtain⟨f,a,e,l,i,m⟩:=G.ex;obtain⟨rfl,rfl,rfl,rfl,rfl⟩:=And.intro h.pr<|And.intro h.wd<|And.intro h.fK<|And.intro h.gm h.bs;exact⟨⟨j,f,a,e,l,h.room.mono g,i,m⟩,G.nm,h.gl n,db⟩
def Here.met(h:Here X P w K mg base sc N k)(G:Md P w K mg base j C m sp)(g:j<=k):Met X C m sp:=by
 obtain⟨f,a,e,l,i,n⟩:=G.ex;obtain⟨rfl,rfl,rfl,rfl,rfl⟩:=And.intro h.pr<|And.intro h.wd<|And.intro h.fK<|And.intro h.gm h.bs;exact⟨⟨j,f,a,e,l,h.room.mono g,i,n⟩,G.cl⟩
end
def DA:bootBuiltins "set" =some (.type "set"):=by decide+kernel
def zB:bootBuiltins "min" =some (.builtin "min"):=by decide+kernel
def K3:bootBuiltins "max" =some (.builtin "max"):=by decide+kernel
def fD{c A B:Prop} [Decidable c] (a:c)(h:A):if c then A else B:=by grind
def gQ{c A B:Prop} [Decidable c] (a:¬c)(h:B):if c then A else B:=by grind
inductive OB(K:Frag)(x y:V)(H:Hp)(Q:VK):Prop
 |mk(l b:X4)(xs zs:Yb V)(f:x=.ref l)(a:y=.ref b)(s:cP K H l xs)(t:cP K H b zs)(e:xs.length+zs.length<=sizeLine)(q:∀p,H p=none->Q (.ref p) (upd H p (.lst (xs++zs))))
def Kp(K:Frag):R2:=λx y H Q=>OB K x y H Q
def GZ:iU X (binaryOp .Add) (Kp X.K):=by
 intro Y s σ H x y v u Q I L M h;obtain⟨l,b,W,R,rfl,rfl,J,O,T,q⟩:=h;cases L;cases M;obtain⟨p,r,pl,z⟩:=I.list J;obtain⟨a,C,j,S⟩:=I.list O;have U:=r.length;have G:=C.length;obtain⟨⟨E,N,data,sl⟩,B,D,n,w⟩:=pl.isList;obtain⟨⟨A,m,data2,o⟩,i,g,P,f⟩:=j.isList;simp only at D w g f;subst D w g f;have e:p.toArray++a.toArray=(p++a).toArray:=by simp
 refine concat_meets ⟨_,B,rfl⟩ ⟨_,i,rfl⟩ noFill_list_add seq_list_add PySem.F.slot_list_add PySem.F.entry_list_add (PySem.F.args_list_add_2 _ _) (list_addW l b p.toArray a.toArray n P N m sl o<|by grind) ⟨B,i,?_⟩;rw[e];exact⟨.ref _,_,I.Qo (t':=s.toks) (r.append C)<|by grind,rfl,q _ I.fresh⟩
end L2
namespace J
structure Lq(X:Cx)(id:String)(r:V->Yb V->Hp->VK->Prop):Prop where
 out:PK X id r
def _root_.cw (h:scope.names.lookup x=some .local) (db:(x==("__debug__" :Yc))=false) (cd:(x==("__classdict__" :Yc))=false):JE (dv X (x::ns) scope cl fp s3 H3 C) (.Name x p) (gC 0):=
 ⟨nO rfl (.inl<|T4 h) db cd⟩
def QI {i:Nat}(h:scope.names.lookup y=some .free) (a:ns[i]? =some y) (db:(y==("__debug__" :Yc))=false) (cd:(y==("__classdict__" :Yc))=false):JE (dv X (x::ns) scope cl fp s3 H3 C) (.Name y p) (gC<|i+1):=
 ⟨nO a (.inr<|jF h) db cd⟩
def QL(M:QM X x C sp)(g:JA X (e::es) t)(i:notStar e=true:=by rfl)(h:es.all notStar=true:=by rfl):JE X (.Call (.Name x p) (e::es) [] pos) (Fs C sp [] E0 t):=by
 obtain⟨k,f,j,l,F,hr,mk,a⟩:=M.ex;exact⟨AV mk F hr M.gl M.nm a .nil Bc g.out M.db (cT i)<|d4 h⟩
def _root_.bC(M:Met X C m sp)(he:JE X o ta)(g:eval (.Call (.Attribute o m Yo) [] [] pos) X.env=(do
   let a <-eval o X.env
   standAt Yo.atName
   let (f,first) <-holding [a] (getMethod a m pl)
   callWith pos f first (backTo pos<|starEach [] X.env) (backToKw pos<|keywordEach [] X.env))):JE X (.Call (.Attribute o m Yo) [] [] pos) (AE C m sp [] E0 ta kU):=by
 obtain⟨k,f,i,j,F,hr,h,e⟩:=M.ex;exact⟨D4 he.out M.cl h F hr e .nil Bc g⟩
def _root_.cv(he:JE X (.Name x p) ta):JE X (.Attribute (.Name x p) f pos) (Ni X.K ta f):=⟨L4 he.out rfl⟩
def ni(e:JE X o ta)(a:JE X value tv)(h:ie value=false:=by rfl):JS X (.Assign [.Attribute o f Yy] value pos) (NB X.K ta tv f):=⟨L2.ni e.out a.out<|iz h⟩
def _root_.bG:Lq X "list.append" Bd:=⟨tN⟩
def pU:Lq X "list.clear" Fp:=⟨L2.pU⟩
def uP:Lq X "str.join" (λx vs H Q=>∃(a:Yc) (p:X4) (zs:Yb Yc),x=.str a/\vs=[.ref p]/\cP X.K H p (zs.map V.str)/\(zs.map (·.length)).sum+zs.length*a.length<=16777216/\Q (.str<|Txt.join a zs) H):=⟨L2.uP⟩
def gX(o:Expr):Bool:=match o with
 |.Call .. =>false
 |_=>true
def fu(h:gX o=true):attributeBase o name env v=v:=by
 cases o<;>first|rfl|cases h
def MS(a:notStar e=true):((backTo Yn<|starEach [e] env).all (λx=> !x.1)&&(backToKw Yn<|keywordEach [] env).all (λx=>x.1.isSome)
   && decide ([e].length+([]:Yb Keyword).length+(if([]:Yb Keyword).isEmpty then 0 else 1)<30))=true:=by
 rw[cT a];rfl
def RT {T id:String}(e:PlainAttrs T) (slot:Slot T name id) (a:typeOf (.builtin id)=pure (.type "method_descriptor")) (hm:Lq X id r) (g:JE X o te)
  (h:gX o=true:=by rfl)(f:(Yo.endLine==pos.line)=true:=by rfl):JE X (.Call (.Attribute o name Yo) [] [] pos) (OL X.K T r te):=⟨Lj e slot a hm.out g.out (fu h) f⟩
def _root_.bA {T id:String}(l:PlainAttrs T) (slot:Slot T name id) (a:typeOf (.builtin id)=pure (.type "method_descriptor")) (hm:Lq X id r) (i:JE X o te) (j:JA X [e] t)
  (h:gX o=true:=by rfl)(f:notStar e=true:=by rfl)(g:(Yo.endLine==pos.line)=true:=by rfl):JE X (.Call (.Attribute o name Yo) [e] [] pos) (Rk X.K T r te t):=
 ⟨OU l slot a hm.out i.out j.out (fu h) (MS f) g (cT f) rfl⟩
def pD (B:Bt X "enumerate") (e:JA X [e1] t) (a:notStar e1=true:=by rfl):JI X (.Tuple es kk tp) (.Call (.Name "enumerate" p) [e1] [] pos) (J1 X.K t):=⟨L2.pD B e.out a⟩
def nQ(a:X.calm=true):JF X (.type "set") (λxs H Q=>∃(p:X4) (zs:Yb Yc),xs=[.ref p]/\cP X.K H p (zs.map V.str)/\zs.Nodup/\zs.length<1000/\∀q,H q=none->Q (.ref q) (upd H q<|setM X.prog X.w q zs.length)):=⟨L2.nQ a⟩
def fU:JF X (.builtin "len") (λxs H Q=>∃(p:X4) (n:Nat),xs=[.ref p]/\H p=some (setM X.prog X.w p n)/\Q (.int n) H):=⟨L2.fU⟩
def _root_.bO:Nw X [] NY:=⟨Iv⟩
def _root_.a6(S:JG X (.Name x p) g)(h:Nw X es u):Nw X (.Name x p::es) (Ka g u):=⟨F8 S.out h.out rfl⟩
def _root_.b8(e:X.calm=true)(h:Nw X es u)(f:(assignEach es X.env).length=n:=by rfl)(a:(assignEach es X.env).findIdx? (·.1)=none:=by rfl):JG X (.Tuple es k pos) (Mp X.K n u):=⟨FA e h.out f a⟩
def asg(he:JE X e te)(f:JG X tg g)(a:swapsWithSole [tg] e pos.line X.env=pure false:=by rfl)(hw:swappedStores [tg] e X.env=pure none:=by rfl)
  (h:(assignEach [tg] X.env).map (·.2)=[assign tg X.env]:=by rfl):JS X (.Assign [tg] e pos) (wK te g):=⟨LL he.out f.out a hw h⟩
def _root_.cn:JB X .Add (Kp X.K):=⟨GZ⟩
def Bs(h:JE X (.Name x p) te):JT X (.Name x p) (tB te):=⟨zL h.out λ_=>rfl⟩
def _root_.cA:dR (.Subscript a b p):=⟨λ_ _=>rfl⟩
def _root_.cF{K:Frag}{base:Heap}{sc:Scope}{N:Yb Yc}{k:Nat}{v:V}(a:Here X P w K mg base sc N k)(hm:∃u,mg x=some u/\RelV v u)(g:sc.names.lookup x=some .globalImplicit)
  (db:(x==("__debug__" :Yc))=false):JE X (.Name x p) (tC v):=by
 obtain⟨u,f,e⟩:=hm;exact J.kO (a.gl g) (by rw[a.gm];exact f) e db
section
variable {K:Frag}{mg:Yh}{base:Heap}{x:Yc}{Ym:Yc}{m:Yc}{st:Stmt}{f:X4}{C:X4}{fd:FuncData}{N:Yb Yc}{ps:Yb Yc}{k:Nat}{sp:Sp}
def pA(F:oI K x Ym st f fd)(S:cL N ps (cK st))(len:∀vs H Q E,sp vs H Q E->vs.length=ps.length)
  (a:∀(X:Cx)(H:Hp)(vs:Yb V)(Q:VK)(E:XK),Here X P w K mg base (cK st) N k->sp vs H Q E->∃t,wc X (df st) t/\t { nx:=λ_ H'=>Q .non H',rt:=Q } (L2.start N vs) H):dZ P w K mg base mH (k+1) f fd ps sp:=by
 refine Kg F S len λX g A outer s H vs Q E e hr h=>?_;subst e;exact a _ H vs Q E ⟨rfl,rfl,rfl,rfl,rfl,rfl,Xu,rfl,rfl,S.nd,hr,λ_=>rfl⟩ h
def Mf(D:Df K mg x st ps f fd)(S:cL N ps (cK st))(len:∀vs H Q E,sp vs H Q E->vs.length=ps.length)
  (a:∀(X:Cx)(H:Hp)(vs:Yb V)(Q:VK)(E:XK),Here X P w K mg base (cK st) N k->sp vs H Q E->∃t,wc X (df st) t/\t { nx:=λ_ H'=>Q .non H',rt:=Q } (L2.start N vs) H):Gd P w K mg base (k+1) x sp:=
 ⟨f,fd,ps,pA D.fn S len a,D.nm,D.fn.kp,D.bi⟩
def _root_.aJ(D:Df K mg x st ps f fd)(S:cL N ps (cK st))
  (a:∀(X:Cx)(H:Hp)(vs:Yb V)(Q:VK)(E:XK),Here X P w K mg base (cK st) N k->sp vs H Q E->∃t,wc X (df st) t/\t { nx:=λ_ H'=>Q .non H',rt:=Q } (L2.start N vs) H)(len:∀vs H Q E,sp vs H Q E->vs.length=ps.length:=by intro _ _ _ _ h;first| (obtain⟨⟩:=h;subst_vars;rfl)| ((repeat (obtain⟨_,h⟩:=h));subst_vars;rfl)):Gd P w K mg base (k+1) x sp:=Mf D S len a
def _root_.cy(F:oI K m Ym st f fd)(e:Meth K C m f)(bi:Binds K fd ps [])(cl:vm K C)(S:cL N ps (cK st))(len:∀vs H Q E,sp vs H Q E->vs.length=ps.length)
  (a:∀(X:Cx)(H:Hp)(vs:Yb V)(Q:VK)(E:XK),Here X P w K mg base (cK st) N k->sp vs H Q E->∃t,wc X (df st) t/\t { nx:=λ_ H'=>Q .non H',rt:=Q } (L2.start N vs) H):Md P w K mg base (k+1) C m sp:=
 ⟨⟨f,fd,ps,pA F S len a,e,bi⟩,cl⟩
def Je(F:oI K m Ym st f fd)(mk:Mk K C f)(bi:Binds K fd ps [])(nm:mg y=some (.ref C))(S:cL N ps (cK st))(len:∀vs H Q E,sp vs H Q E->vs.length=ps.length)
  (a:∀(X:Cx)(H:Hp)(vs:Yb V)(Q:VK)(E:XK),Here X P w K mg base (cK st) N k->sp vs H Q E->∃t,wc X (df st) t/\t { nx:=λ_ H'=>Q .non H',rt:=Q } (L2.start N vs) H):Kd P w K mg base (k+1) y C sp:=
 ⟨⟨f,fd,ps,pA F S len a,mk,bi⟩,nm⟩
end
end J
namespace L2
def CU{elt:Expr}{e:Yb Comprehension}{scope:Scope}{pos py:Pos}{y:Yc}{n:Nat}{env:Env}{sc:Scope}(a:env.scope=sc)
  (h:((if sc.kind.isAnnotationScope then ScopeKind.function else sc.kind)==.function&&sc.names.lookup y==some .local&&py.line==pos.line && !(scope.names.any λ(n,k)=>n==y&&(k==.local||k==.cell)))=true):
  swapsWith (.ListComp elt e scope pos) (some<|.Name y py) n env=pure true:=by
 subst a;show(pure _:Sem Bool)=pure true;exact SY pure h
section
variable {X:Cx}{Yi:Yg}{σ:St}{H:Hp}{s:X5}{p:X4}{ns:Yb Int}
def Inv.ints(I:Inv X Yi σ H s)(h:cP X.K H p (ns.map V.int)):∃xs:Array (Int×Tok),s.heap.IsList p (intItems xs)/\xs.toList.map (·.1)=ns:=by
 obtain⟨f,r,pl,_⟩:=I.list h;have a:=intsAre_of r;obtain⟨xs,e⟩:=a.allInts.items;refine⟨xs,by rw[<-e];exact pl.isList,?_⟩;have i:=a.numsOf;have g:f=(intItems xs).toList:=by rw[<-e]
 rwa [g,nums_intItems]at i
def oB(l:X.calm=true):eW X (.builtin "sum") (λxs H Q=>∃(p:X4) (ns:Yb Int),xs=[.ref p]/\cP X.K H p (ns.map V.int)/\Q (.int ns.sum) H):=by
 intro n s σ H xs o Q I r h;obtain⟨p,ns,rfl,g,q⟩:=h;obtain⟨u,rfl,j⟩:=vals1 r;cases j;obtain⟨v,i,e⟩:=I.ints g;refine sum_intListG (I.ok.hd l) i λm f t' a=>?_;rw[preSum_eq,e,TJ<|by grind];exact⟨.int _,H,I.kept (t':=f) a,⟨_,rfl⟩,q⟩
def AK:V->V->X8 Bool
 |.ref a,.ref b=>if a=b then some true else none
 |x,y=>if dI x=true/\dI y=true then some (tf x y) else none
def tH{A:X9}{s:X5}{x y:V}{u v:X3}{b:Bool}(g:RelV x u)(i:RelV y v)(h:AK x y=some b):SeqAt.EqAt A s u v b:=by
 have flat:(if dI x=true/\dI y=true then some (tf x y) else none)=some b->SeqAt.EqAt A s u v b:=λh=>by
  by_cases c:dI x=true/\dI y=true
  ·rw[Sb c]at h
   cases h;exact u7 g i c.1 c.2
  ·grind
 cases x with
 |ref a=>
  cases y with
  |ref c=>
   have f:(if a=c then some true else none)=some b:=h;by_cases e:a=c
   ·rw[Sb e]at f
    cases f;cases g;cases i;rw[e];exact Xq _
   ·grind
  |_=>exact flat h
 |_=>exact flat h
def OD(bs:Yb Bool):Bool:=(List.range bs.length).all λi=>bs.getD i false
def Qb(K:Frag):R2:=λx y H Q=>∃a b f e bs,x=.ref a/\y=.ref b/\cP K H a f/\cP K H b e/\f.length=bs.length/\e.length=bs.length/\(∀(i:Nat) u v c,f[i]? =some u->e[i]? =some v->bs[i]? =some c->AK u v=some c)/\Q (.bl<|OD bs) H
def fZ{a:Yb X3}{xs:Yb V}{j:Nat}(r:Vals xs a)(h:j<a.length):∃x,xs[j]? =some x/\RelV x a[j]:=by
 have i:=r.length;have e:xs[j]? =some xs[j]:=RY (by lia);obtain⟨u,f,g⟩:=r.get e;rw[RY h]at f;cases f;exact⟨_,e,g⟩
def MH(T:X.A.units+1<cLine):iU X (compareOp .Eq) (Qb X.K):=by
 intro W s σ H x y v u Q I D E h;obtain⟨a,b,S,Y,bs,rfl,rfl,L,z,Z,l2,M,q⟩:=h;cases D;cases E;obtain⟨G,r,pl,_⟩:=I.list L;obtain⟨o,n,f,_⟩:=I.list z;have U:=r.length;have R:=n.length;refine SeqAt.eq_listAt (e:=λi=>bs.getD i false) pl.isList f.isList (by grind) (by lia) (λj m l=>?_) ?_
 ·simp only[size_toArray]at m l
  obtain⟨P,J,w⟩:=fZ r m;obtain⟨F,B,g⟩:=fZ n l;have N:j<bs.length:=by lia
  have p:=RY N;have O:bs.getD j false=bs[j]:=by rw[Tn,p];rfl
  rw[O];simp only[List.getElem_toArray];exact tH w g<|M j P F _ J B p
 ·have C:G.toArray.size=bs.length:=by simp only[size_toArray];lia
  rw[C];exact⟨.bl _,H,I,rfl,q⟩
end
end L2
namespace J
def oB{X:Cx}(a:X.calm=true):JF X (.builtin "sum") (λxs H Q=>∃(p:X4) (ns:Yb Int),xs=[.ref p]/\cP X.K H p (ns.map V.int)/\Q (.int ns.sum) H):=⟨L2.oB a⟩
end J
namespace L2
section
variable {X:Cx}
theorem qG:∀{xs:Yb V}{us:Yb X3},xs.length=us.length->(∀(i:Nat) x v,xs[i]? =some x->us[i]? =some v->RelV x v)->Vals xs us
 |[],[],_,_=>.nil
 |_::_,[],h,_=>by cases h
 |[],_::_,h,_=>by cases h
 |x::_,u::_,h,k=>.cons (k 0 x u rfl rfl)<|qG (Ua h) λi y v e a=>k (i+1) y v e a
inductive Lv(K:Frag)(x y:V)(H:Hp)(Q:VK):Prop
 |mk(a b:X4)(xs ys:Yb V)(f:x=.ref a)(e:y=.ref b)(s:cP K H a xs)(t:cP K H b ys)(n:xs.length≠ys.length)(q:Q (.bl false) H)
def C4(w:X.A.units+1<cLine):iU X (compareOp .Eq) (λx y H Q=>Lv X.K x y H Q):=by
 intro B s σ H x y v u Q I i j h;obtain⟨a,b,p,D,rfl,rfl,m,g,n,q⟩:=h;cases i;cases j;obtain⟨C,r,pl,_⟩:=I.list m;obtain⟨f,l,e,_⟩:=I.list g;have z:=r.length;have o:=l.length;refine SeqAt.eq_list_lengthsAt pl.isList e.isList ?_ (by lia) ⟨.bl _,H,I,rfl,q⟩;rw[bne_iff_ne];simp only[size_toArray];lia
end
def rb(I:Nat->X5->Prop)
  (E:∀n s,I n s->wpAny (model prog w) A (pyNext it) (λr i=>match r with
   |none=>R (.ok .next) i
   |some v=>wpAny (model prog w) A (letOwnedTupleGo target it v) (λ_ f=>wpAny (model prog w) A (assign target env v) (λ_ q=>wpAny (model prog w) A (forIn YU true λc r=>if r=true then do let ok <-isTrue c env (eval c env);pure (ForInStep.yield ok) else pure (ForInStep.yield r)) (λok a=>if ok=true then wpAny (model prog w) A (eval elt env) (λx o=>
     wpAny (model prog w) A (call (.builtin "list.append") [Yt,x]) (λ_ l=>∃m,m<n/\I m l) (notedBy (model prog w) A env λe s'=>R (.error e) s') o)
     (notedBy (model prog w) A env λe s'=>R (.error e) s') a else ∃m,m<n/\I m a) (notedBy (model prog w) A env λe s'=>R (.error e) s') q) (notedBy (model prog w) A env λe s'=>R (.error e) s') f) (notedBy (model prog w) A env λe s'=>R (.error e) s') i) (notedBy (model prog w) A env λe s'=>R (.error e) s') s)
  (n:Nat) (h:I n s):
  codeAny (model prog w) A (.compLoop (.ListComp elt [⟨target,iter,YU,0⟩] scope pos) 0 it Yt env) R s:=by
 refine codeAny_loop rfl I (λn s F=>?_) n h;refine wpAny_noted ?_;rw[compTurn_list];refine RX<|wpAny_standAt<|RX<|SJ (E n s F) (λr i j=>?_) λ_ _ g=>g;cases r with
 |none=>exact RZ j
 |some v=>
  refine RX<|SJ j (λ_ f y=>?_) λ_ _ g=>g;refine RX<|SJ y (λ_ q B=>RX<|SJ B (λok o p=>?_) λ_ _ g=>g) λ_ _ g=>g;cases ok with
  |false=>exact RZ ⟨rfl,p⟩
  |true=>
   exact RX<|RX<|SJ p (λx l z=>RX<|SJ z (λ_ D C=>RZ<|RZ ⟨rfl,C⟩) λ_ _ g=>g) λ_ _ g=>g
def MY(X:Cx)(e:Yb Expr)(t:TT):Prop:=
 ∀(a:Yg) (s:X5) (σ:St) (H:Hp) (Q:Bool->Hp->Prop),Inv X a σ H s->t σ H Q->wpAny (model X.prog X.w) X.A (forIn e true λc r=>if r=true then do let ok <-isTrue c X.env (eval c X.env);pure (ForInStep.yield ok) else pure (ForInStep.yield r)) (TP X a σ Q) X.xe s
def xI:TT:=λ_ H Q=>Q true H
def AG:MY X [] xI:=λ_ _ _ H _ I h=>wpAny_tests_nil ⟨H,I,h⟩
def Gr(h:PT X ct t):MY X [ct] t:=λa s σ H Q I q=>wpAny_tests_one<|h a s σ H Q I q
inductive Nt(J:It)(n:Nat)(is:Yb Nat)(g:TG)(p:TT)(o:TE)(σ:St)(W:Nat->Nat->Yb V->Hp->Prop)(D:X4)(i m:Nat)(ys:Yb V)(j:Hp):Prop
 |mk(go:J.go i j)(nx:∀(os:St) v H3,os.length=n->J.yld i j v H3->g v (os++eF is σ) H3 λa H4=>(∃e:St,e.length=n/\a=e++eF is σ)/\p a H4 λb l=>if b=true then o a l (λy h=>
  h D=some (.lst ys)/\ys.length<sizeLine/\∃f,f<m/\W (i+1) f (ys++[y]) (upd h D (.lst (ys++[y])))) else ∃f,f<m/\W (i+1) f ys l)
def eN(J:It)(n:Nat)(is:Yb Nat)(g:TG)(h:TT)(f:TE)(σ:St)(H1:Hp)(Q:VK):Prop:=∀D,H1 D=none->∃W:Nat->Nat->Yb V->Hp->Prop,(∃m,W 0 m []<|upd H1 D<|.lst [])/\
 ∀i m e a,W i m e a->a D=some (.lst e)/\((J.stop i a/\Q (.ref D) a)\/Nt J n is g h f σ W D i m e a)
def IK(a:TI)(n:Nat)(is:Yb Nat)(g:TG)(f:TT)(e:TE):TE:=λσ H Q=>a σ H λJ H1=>eN J n is g f e σ H1 Q
structure wN(sc:Scope)(N:Yb Yc)(xs:Yb Yc)(scope:Scope)(is:Yb Nat)(ns:Yb Yc):Prop where
 kind:scope.kind=.function:=by rfl
 nocell:∀y∈scope.names,y.2≠.cell:=by decide+kernel
 names:∀y∈scope.names,y.2=.local->scope.names.lookup y.1=some .local:=by decide+kernel
 free:∀y∈scope.names,y.2=.free->sc.names.lookup y.1=some .cell:=by decide+kernel
 cap:ns.map some=is.map λi=>N[i]? :=by rfl
 capf:∀y∈ns,scope.names.lookup y=some .free/\sc.names.lookup y=some .cell:=by decide+kernel
def Fu(X:Cx)(f:Yg)(σ:St)(g:VK)(use:X8 (X3->Sem Unit))(h:Yd):Prop:=
 ∀(D C:X4) (e:Hp) (a:X5) (m:Yh),g (.ref D) e->Inv X f σ e a->oE X f e C->a.heap.Ns C m->compPost (model X.prog X.w) X.A X.xe use h (.ref D) C (.ok .next) a
def nA{sc:Scope}{N:Yb Yc}{use:X8 (X3->Sem Unit)}{Qv:Yd}{Gf:It->Hp->Prop}{Qs:VK}{cp:Pos}{Yi:Yg}{s:X5}{σ:St}{H:Hp}(I:Inv X Yi σ H s)(h:wi σ H Gf)(hG:∀J H1,Gf J H1->eN J xs.length is g tc te σ H1 Qs)
  (fin:Fu X Yi σ Qs use Qv)(hc:X.calm=true)(hi:PI X tg iter wi)(L:wN sc N xs scope is ns)(hg:∀K fp s3 B C,PG (dv X (xs++ns) scope K fp s3 B C) tg g)(Zq:∀K fp s3 B C,MY (dv X (xs++ns) scope K fp s3 B C) YU tc)(he:∀K fp s3 B C,Inv X Yi σ B s3->(∀b∈fp,oE X Yi B b)->PE (dv X (xs++ns) scope K fp s3 B C) elt te)
  (a9:X.env.scope=sc)(hN:X.N=N)(hs:∀x,foldedSetIterable iter X.env x=pure x):
  wpAny (model X.prog X.w) X.A (comprehension (.ListComp elt [⟨tg,iter,YU,0⟩] scope pos) scope X.env cp (newList []) false (eval iter X.env) use) Qv X.xe s:=by
 subst a9 hN;obtain⟨K,bx,R,ay⟩:=yZ (env:=X.env) (scope:=scope) λy M hf=>I.ok.has y.1<|.inl<|L.free y M hf;refine wpAny_comprehension_free rfl hs bx L.kind L.names<|c9 (hi Yi s σ H _ I h) λv s1 h1=>c9 h1 λb4 f h2=>?_;obtain⟨it,fp,tn,J,H2,e,I2,T,YE,f2,h2⟩:=h2;subst e;refine T1 (wpAny_newFunctionEnv L.nocell (by intro y M;simp at M) (λG Q P=>?_) L.kind);have hD:H2 f.heap.objs.size=none:=I2.hok.fresh<|R9 _;have O:Inv X Yi σ (upd H2 f.heap.objs.size<|.lst []) { f with heap:=f.heap.push { cls:=.type "list",dict:=none,data:=.seq ([]:Yb X3).toArray } }:=
  I2.laid (t':=f.toks) (λb u e=>R6 _ e) (R9 _) ⟨Tq _,[],0,.nil,Sl _ rfl⟩
 have an:∀b u,f.heap.get? b=some u->(f.heap.push { cls:=.type "list",dict:=none,data:=.seq ([]:Yb X3).toArray }).get? b=some u:=λb u e=>R6 _ e;obtain⟨W,⟨m0,w0⟩,YW⟩:=hG J H2 h2 f.heap.objs.size hD;dsimp only at Q P ⊢;generalize bm:f.heap.objs.size=D at *;generalize b0:f.heap.push { cls:=.type "list",dict:=none,data:=.seq ([]:Yb X3).toArray }=F at *;generalize bc:upd H2 D (.lst [])=B at *;have bd:∀b∈fp,b≠D:=λb a=>by
  obtain⟨o,e,_⟩:=T.obj 0 f.heap YE b a;rw[<-bm];exact Ss<|Sv e
 have E:∀b∈fp,oE X Yi B b:=λb a=>⟨by rw[<-bc,cI<|bd b a];exact(f2 b a).1,(f2 b a).2⟩;have ax:tn 0 F:=T.keep 0 f.heap F YE λb _ o e=>an b o e;have ad:∀b∈fp,b<F.objs.size:=λb a=>by
  obtain⟨o,e,_⟩:=T.obj 0 F ax b a;exact Sv e
 have Y:∀b u,F.get? b=some u->G.get? b=some u:=λb u e=>P.extBut b u (Ss<|Sv e)<|R6 _ e;generalize hC:F.objs.size=C at *;have aj:∀b∈fp,B b=none:=λb a=>(E b a).1;have a1:(dv X (xs++ns) scope K fp { f with heap:=F } B C).Ok:=by
  refine⟨I.ok.mod,L.kind,I.ok.glob,I.ok.blt,Um hC,λy z c e1 e2=>I.ok.inj y z c (R y c e1)<|R z c e2,λy M=>?_,λ_ _ z=>(by cases z),I.ok.hd,I.ok.frames,.inl rfl,λb a=>⟨Ss<|ad b a,λy c e=>(E b a).2.2.2.2.1 y c<|R y c e⟩,O.bs,SF O.ok.bsz O.sz,λb o e a=>?_,λb a z=>?_,O.stack,O.kr⟩
  ·have hm:(y,NameKind.free)∈scope.names:=by
    obtain M|M:=M
    ·exact mT M (.inl rfl) L.nocell
    ·exact mT M (.inr rfl) L.nocell
   obtain⟨c,bf⟩:=I.ok.has y<|.inl<|L.free _ hm rfl;exact⟨c,(ay _ hm rfl).trans bf⟩
  ·obtain z|z:=(E b a).2.2.2.1
   ·exact I.ok.noex b o e z
   ·exact absurd (SA (Sv e)<|SF I.ok.bsz z)<|VA _
  ·exact(SS.mp<|O.zX b z).elim (E b a).2.1 (E b a).2.2.1
 have Yv:(eF is σ).length=ns.length:=by
  have:=SY List.length L.cap;rw[R5,R5]at this;rw[eF,R5];exact this.symm
 have rl:(List.replicate xs.length (none:X8 V)).length=xs.length:=Vk ..;have I4:Inv (dv X (xs++ns) scope K fp { f with heap:=F } B C) [] (List.replicate xs.length none++eF is σ) B { f with heap:=G,toks:=f.toks+0 }:=by
  refine⟨a1,rfl,O.bare,Un.kept Y,⟨_,Q,λi y v e1 e2 e3=>?_⟩,λy c e=>?_,?_,λy c e=>O.freeC y c<|R y c e,λp hp=>absurd (show p∈([]:Yg) from hp)<|by simp,O.hok.kept Y,by show(List.replicate xs.length none++eF is σ).length=(xs++ns).length;rw[R3,R3,Yv,rl]⟩
  ·have e1:(xs++ns)[i]? =some y:=e1
   by_cases hi:i<xs.length
   ·rw[Sr<|by rw[rl];exact hi,Xl,Sb hi]at e2
    cases e2
   ·rw[Sf<|by rw[rl];lia,rl]at e2
    rw[Sf<|by lia]at e1;generalize i-xs.length=j at e1 e2;have a2:ns[j]? =some y:=e1;have U:(eF is σ)[j]? =some (some v):=e2;have M:=L.capf y<|R4 a2;have Z:(ns.map some)[j]? =(is.map λi=>X.N[i]?)[j]? :=by rw[L.cap]
    rw[Sk,Sk,a2]at Z;rw[eF,Sk]at U;cases hk:is[j]? with
    |none=>rw[hk]at U;cases U
    |some k=>
     rw[hk]at Z U;have hN:X.N[k]? =some y:=(Sy Z).symm;have bn:σ[k]? =some (some v):=by
      have q:(σ[k]?).join=some v:=Sy U;cases z:σ[k]? with
      |none=>rw[z]at q;cases q
      |some o=>rw[z]at q;exact SY some q
     obtain⟨m,hn,hl⟩:=O.loc;obtain⟨u,r,l⟩:=hl k y v hN bn<|.inr<|.inl M.2;refine⟨u,r,?_⟩;obtain ⟨Zo,_⟩|⟨Zo,c,ec,o,ho,hd⟩:=l
     ·have av:X.env.scope.names.lookup y=some .local:=Zo
      rw[M.2]at av;cases av
     ·exact .inr ⟨.inl<|mW I.ok.kind M.1 M.2,c,(ay _ (T8 M.1) rfl).trans ec,o,Y c o ho,hd⟩
  ·obtain⟨v,o,ho,hd⟩:=O.cell y c (R y c e)
   exact⟨v,o,Y c o ho,hd⟩
  ·show B C=none
   rw[<-hC];exact O.hok.fresh<|R9 _
 have ar:tn 0 G:=T.keep 0 F G ax λb _ o e=>Y b o e;have ab:∀{H':Hp},(∀b∈fp,H' b=none)->∀b∈fp,oE (dv X (xs++ns) scope K fp { f with heap:=F } B C) [] H' b:=λ{H'} hn b a=>
  ⟨hn b a,Ss<|ad b a,a1.exfs b a,.inl a,λy c e=>(E b a).2.2.2.2.1 y c<|R y c e,λp hp=>absurd (show p∈([]:Yg) from hp)<|by simp⟩
 have loop:codeAny (model X.prog X.w) X.A (.compLoop (.ListComp elt [⟨tg,iter,YU,0⟩] scope pos) 0 (.ref it) (.ref D)<|compEnvC scope K C X.env)
   (compPost (model X.prog X.w) X.A X.xe use Qv (.ref D) C) { f with heap:=G,toks:=f.toks+0 }:=by
  refine rb (λn s'=>∃i os ys H',os.length=xs.length/\Inv (dv X (xs++ns) scope K fp { f with heap:=F } B C) [] (os++eF is σ) H' s'/\tn i s'.heap/\(∀b∈fp,H' b=none)/\W i n ys H') ?_ m0 ⟨0,List.replicate xs.length none,[],B,rl,I4,ar,aj,w0⟩;rintro n s5 ⟨i,os,ys,H5,bj,I5,aq,a0,w5⟩;obtain⟨cc,⟨stop,q⟩|⟨go,step⟩⟩:=YW i n ys H5 w5
  ·refine c9 (T.done (dv X (xs++ns) scope K fp { f with heap:=F } B C) rfl rfl rfl hc i [] s5 _ H5 _ I5 (ab a0) aq stop) λr s6 ⟨hr,S⟩=>?_
   subst hr;obtain⟨m,hn,_⟩:=id S.loc;have b2:∀b o,F.get? b=some o->b≠C:=λb o e=>by rw[<-hC];exact Ss<|Sv e
   have fC:H5 C=none:=S.free;have a4:Inv X Yi σ H5 s6:=by
    refine O.tE (s':=s6) (ch:=fp) S.os ⟨λb o e nn a hx=>?_,λb o e nn a hx=>?_,S.base.free,λb o e hx=>?_,S.base.tups,S.base.frzs,S.base.tbls⟩ (λb ob e=>S.hok b ob e) S.bare λb a=>⟨(E b a).2.2.2.1,(E b a).2.1,(E b a).2.2.2.2.1,(E b a).2.2.2.2.2⟩
    ·exact S.base.keep b o e nn a hx
    ·exact S.base.slot b o e nn a hx
    ·exact S.base.there b o e hx
   exact fin D C H5 s6 m q a4 (O.u5 (Um hC) fC) hn
  ·refine c9 (T.item (dv X (xs++ns) scope K fp { f with heap:=F } B C) rfl rfl rfl hc i [] s5 _ H5 _ I5 (ab a0) aq go) λr s6 ⟨u,hr,h6⟩=>?_
   subst hr;refine c9 h6 λ_ s7 ap=>?_;obtain⟨v,H7,I7,r7,y7,ac,bi⟩:=ap;have a3:=I7.pinned (ab bi)<|T.obj _ _ ac;refine SJ (hg K fp { f with heap:=F } B C _ s7 (os++eF is σ) H7 v u _ a3 r7 (step os v H7 bj y7)) (λ_ s8 ⟨ca,H8,I8,⟨as,ai,e8⟩,q8⟩=>?_) λ_ _ z=>False.elim z;subst e8;refine SJ (Zq K fp { f with heap:=F } B C _ s8 _ H8 _ I8 q8) (λbb sb ⟨Hb,Ib,qb⟩=>?_) λ_ _ z=>False.elim z;cases bb with
   |false=>
    rw[R7 bF0]at qb;rw[R7 bF0];obtain⟨m',al,w9⟩:=qb;refine⟨m',al,i+1,as,ys,_,ai,Ib.iI,T.keep _ _ _ ac λb a o e=>(Ib.pin (b,o)<|Sg _<|Sg _<|fq a e).1,λb a=>?_,w9⟩;obtain⟨o',e,d⟩:=T.obj _ _ ac b a;exact(Ib.pin (b,o')<|Sg _<|Sg _<|fq a e).2.1
   |true=>
    rw[Sb rfl]at qb;rw[Sb rfl];refine SJ (he K fp { f with heap:=F } B C O E _ sb _ Hb _ Ib qb) (λuy s9 ⟨y,H9,I9,r9,be,bv,m',al,w9⟩=>?_) λ_ _ z=>False.elim z;refine SJ (tN (X:=dv X (xs++ns) scope K fp { f with heap:=F } B C) _ s9 _ H9 (.ref D) [y] (.ref D) [uy] (λ_ H'=>H'=upd H9 D (.lst<|ys++[y])) I9 rfl (.cons r9 .nil) ⟨D,ys,y,rfl,rfl,be,bv,rfl⟩) (λ_ b1 ⟨_,b3,am,_,YC⟩=>?_) λ_ _ z=>False.elim z;subst YC;refine⟨m',al,i+1,as,ys++[y],_,ai,am.iI,T.keep _ _ _ ac λb a o e=>(am.pin (b,o)<|Sg _<|Sg _<|fq a e).1,λb a=>?_,w9⟩;obtain⟨o',e,d⟩:=T.obj _ _ ac b a;exact(am.pin (b,o')<|Sg _<|Sg _<|fq a e).2.1
 exact codeAny_compStart_list loop<|T.self X.A 0 _ _ _ ar loop
def tW:Fu X Yi σ Q none (EP X Yi σ Q):=by
 intro D C j a m q g n h;refine⟨m,h,λl f=>⟨.ref D,j,g.nZ (t':=a.toks) (λb o=>?_) λb u i e=>(f.2 b λz=>i<|Sd.mpr z).trans e,rfl,q⟩⟩;grind
def B4(J:X.N.Nodup)(g:X.N[iy]? =some y)(l:Loc X.env.scope y)(n:X.fn y=true\/X.env.scope.names.lookup y=some .local):
  Fu X Yi σ (λv H'=>Dn.nx (σ.set iy<|some v) H') (some<|assign (.Name y py) X.env) (λ_ s'=>SP X Yi Dn .next s'):=by
 intro D C i A m q j Q K;have f:∀b∈[C],oE X Yi i b:=λb E=>by grind
 obtain⟨x,p,h,s,O⟩:=id K;refine c9 ((pN J g l n) _ A σ i (.ref D) (.ref D) (λo H'=>o=σ.set iy (some<|.ref D)/\H'=i) (j.pinned f λb E=>by grind) rfl ⟨rfl,rfl⟩) λ_ H a=>?_;obtain⟨F,B,w,L,I⟩:=a;subst L;subst I;have r:=(w.pin (C,x)<|Sg _<|Sg _<|fq (Sd.mpr rfl) s).1;exact⟨m,⟨x,p,h,r,O⟩,λP M=>⟨_,B,w.iI.nZ (t':=H.toks) f λb u G e=>(M.2 b λz=>G<|Sd.mpr z).trans e,q⟩⟩
def ML(p:X.calm=true)(n:PI X tg iter wi)(L:wN sc N xs scope is ns)(j:∀e fp f a C,PG (dv X (xs++ns) scope e fp f a C) tg g)(l:∀e fp f a C,MY (dv X (xs++ns) scope e fp f a C) YU tc)(he:∀e fp f a C,PE (dv X (xs++ns) scope e fp f a C) elt te)
  (i:X.env.scope=sc)(o:X.N=N)(m:∀x,foldedSetIterable iter X.env x=pure x):PE X (.ListComp elt [⟨tg,iter,YU,0⟩] scope pos) (IK wi xs.length is g tc te):=by
 intro q s σ H Q I h;rw[eval_ListComp];exact nA I h (λ_ _ z=>z) tW p n L j l (λe fp f a C _ _=>he e fp f a C) i o m
def C6(r:X.N.Nodup)(i:X.N[iy]? =some y)(j:Loc X.env.scope y)(l:X.fn y=true\/X.env.scope.names.lookup y=some .local)(m:swapsWith (.ListComp elt [⟨tg,iter,YU,0⟩] scope pos) (some<|.Name y py) spos.line X.env=pure true)
  (B:X.calm=true)(w:PI X tg iter wi)(L:wN sc N xs scope is ns)(o:∀e fp f a C,PG (dv X (xs++ns) scope e fp f a C) tg g)(q:∀e fp f a C,MY (dv X (xs++ns) scope e fp f a C) YU tc)(he:∀e fp f a C,PE (dv X (xs++ns) scope e fp f a C) elt te)
  (n:X.env.scope=sc)(A:X.N=N)(v:∀x,foldedSetIterable iter X.env x=pure x):PS X (.Assign [.Name y py] (.ListComp elt [⟨tg,iter,YU,0⟩] scope pos) spos) (wK (IK wi xs.length is g tc te)<|eX iy):=by
 intro F s σ H E I h;rw[exec_Assign_Name_used _ _ _ _ m];refine RX<|wpAny_standAt<|RX ?_;exact RX<|c9 (nA I h (λ_ _ z=>z) (B4 r i j l) B w L o q (λe fp f a C _ _=>he e fp f a C) n A v) λ_ D p=>RZ<|RZ p
def Na(h:j7 J is te σ H1 Q):eN J 1 is (eX 0) xI te σ H1 Q:=by
 intro D r;obtain⟨W,q,k⟩:=h D r;refine⟨W,q,λi m f l w=>?_⟩;obtain⟨e,z|⟨p,nx⟩⟩:=k i m f l w
 ·grind
 ·refine⟨e,.inr ⟨p,λn v j a y=>?_⟩⟩
  match n,a with
  |[o],_=>exact⟨⟨[some v],rfl,rfl⟩,eU (B:=∃g,g<m/\W (i+1) g f j)<|nx v j y⟩
def Ef(m:X.calm=true)(i:PI X (.Name x px) iter wi)(L:O1 sc N x scope is ns)(he:∀a fp e g C,PE (dv X (x::ns) scope a fp e g C) elt te)
  (f:X.env.scope=sc:=by rfl)(l:X.N=N:=by rfl)(j:∀x,foldedSetIterable iter X.env x=pure x:=by intro _;rfl):PE X (.ListComp elt [⟨.Name x px,iter,[],0⟩] scope pos) (Rq wi is te):=by
 intro n s σ H Q I h;rw[eval_ListComp];exact nA (xs:=[x]) I h (λ_ _ z=>Na z) tW m i ⟨L.kind,L.nocell,L.names,L.free,L.cap,L.capf⟩ (λ_ _ _ _ _=>pN L.nd rfl (.inl<|T4 L.hx)<|.inr<|T4 L.hx) (λ_ _ _ _ _=>AG) (λa fp e g C _ _=>he a fp e g C) f l j
section
variable {K:Frag}{is:Yb Nat}{g:TG}{tc:TT}{te:TE}{σ:St}{H:Hp}{Q:VK}
def gU(p:Nat->Bool)(f:Nat->V)(i:Nat):((List.range<|i+1).filter p).map f=((List.range i).filter p).map f++if p i=true then [f i] else []:=by
 rw[range_succ,T7,TQ];grind
def yT(p:Nat->Bool)(f:Nat->V)(O:N<=sizeLine)(M:∀i a,cJ H a->i<N->J.go i a)(R:∀a,cJ H a->J.stop N a)
  (he:∀(i:Nat)(z:St) v a x (I:VK)(G:Hp->Prop),i<N->z.length=n->cJ H a->J.yld i a v x->(p i=true->∀A,cJ a A->I (f i) A)->(p i=false->∀l,cJ a l->G l)->
   g v (z++eF is σ) x λj H4=>(∃r:St,r.length=n/\j=r++eF is σ)/\tc j H4 λb l=>if b=true then te j l I else G l)
  (q:∀D H',H D=none->cJ H H'->H' D=some (.lst<|((List.range N).filter p).map f)->Q (.ref D) H'):eN J n is g tc te σ H Q:=by
 intro D s;refine⟨λi m C a=>m=N-i/\i<=N/\cJ H a/\a D=some (.lst C)/\C=((List.range i).filter p).map f,⟨_,rfl,Tq _,cJ.upd s,cG,rfl⟩,?_⟩;rintro i m C a ⟨rfl,S,w,B,rfl⟩;refine⟨B,?_⟩;by_cases h:i<N
 ·refine .inr ⟨M i a w h,λz v x E y=>?_⟩
  have P:(((List.range i).filter p).map f).length<=i:=by grind
  refine he i z v a x _ _ h E w y (λK A F=>⟨F _ _ B,by lia,N-(i+1),by lia,rfl,h,λb o e=>?_,cG,?_⟩) (λK l L=>⟨N-(i+1),by lia,rfl,h,w.trans L,L _ _ B,?_⟩)
  ·rw[cI<|cH e s]
   exact F _ _<|w _ _ e
  ·rw[gU,Sb K]
  ·rw[gU,R7<|by grind,SH]
 ·grind
def yc(p:Nat->Bool)(f:Nat->V)(w:cP K H a xs)(C:xs.length<=sizeLine)
  (he:∀(i:Nat)(s:St) v h (r:VK)(o:Hp->Prop),xs[i]? =some v->s.length=n->cJ H h->(p i=true->∀z,cJ h z->r (f i) z)->(p i=false->∀m,cJ h m->o m)->
   g v (s++eF is σ) h λe H4=>(∃l:St,l.length=n/\e=l++eF is σ)/\tc e H4 λb m=>if b=true then te e m r else o m)
  (q:∀D H',H D=none->cJ H H'->H' D=some (.lst<|((List.range xs.length).filter p).map f)->Q (.ref D) H'):eN (GQ K a) n is g tc te σ H Q:=
 yT p f C (λi h j A=>⟨xs,xs[i],j.seq w,by simp[A]⟩) (λh j=>⟨xs,j.seq w,R9 _⟩) (λi s v h F r o A x j y B E=>by
  obtain⟨rfl,y⟩:=y;exact he i s v _ r o (y xs<|j.seq w) x j B E) q
def sI{lo:Int}(p:Nat->Bool)(f:Nat->V)(A:N<=sizeLine)
  (he:∀(i:Nat)(o:St) e (m:VK)(l:Hp->Prop),i<N->o.length=n->cJ H e->(p i=true->∀w,cJ e w->m (f i) w)->(p i=false->∀j,cJ e j->l j)->
   g (.int<|lo+i) (o++eF is σ) e λa H4=>(∃h:St,h.length=n/\a=h++eF is σ)/\tc a H4 λb j=>if b=true then te a j m else l j)
  (q:∀D H',H D=none->cJ H H'->H' D=some (.lst<|((List.range N).filter p).map f)->Q (.ref D) H'):eN (HN lo N) n is g tc te σ H Q:=
 yT p f A (λi e _ r=>r) (λe _=>R9 N) (λi o v e C m l r s z y x B=>by
  obtain⟨rfl,rfl⟩:=y;exact he i o _ m l r s z x B) q
def DY(p:Nat->Bool)(f:Nat->V)(w:cP K H a xs)(F:xs.length<=sizeLine)
  (he:∀(i:Nat)(s:St) v (t:X4) e (r:VK)(o:Hp->Prop),xs[i]? =some v->s.length=n->cJ H e->e t=none->(p i=true->∀A,cJ e A->r (f i) A)->(p i=false->∀m,cJ e m->o m)->
   g (.ref t) (s++eF is σ) (upd e t<|.tup [.int i,v]) λh H4=>(∃l:St,l.length=n/\h=l++eF is σ)/\tc h H4 λb m=>if b=true then te h m r else o m)
  (q:∀D H',H D=none->cJ H H'->H' D=some (.lst<|((List.range xs.length).filter p).map f)->Q (.ref D) H'):eN (MX K a) n is g tc te σ H Q:=
 yT p f F (λi e j B=>⟨xs,xs[i],j.seq w,by simp[B]⟩) (λe j=>⟨xs,j.seq w,rfl⟩) (λi s v e I r o B z j y C G=>by
  obtain⟨t,x,E,rfl,rfl,y⟩:=y;exact he i s x t _ r o (y xs<|j.seq w) z j E C G) q
end
theorem wz:∀bs:Yb Bool,((List.range bs.length).any λi=>bs.getD i false)=bs.any id
 |[]=>rfl
 |b::r=>by
  rw[Te,V5,Uu,any_map,Uu,<-wz r];rfl
def ng(O:X.calm=true):eW X (.builtin "any") (λxs H Q=>∃(p:X4) (bs:Yb Bool),xs=[.ref p]/\cP X.K H p (bs.map V.bl)/\Q (.bl<|bs.any id) H):=by
 intro w s σ H xs W Q I r h;obtain⟨p,bs,rfl,G,q⟩:=h;obtain⟨u,rfl,M⟩:=vals1 r;cases M;obtain⟨a,j,pl,T⟩:=I.list G;have m:=j.length;rw[R5]at m;have f:p<s.heap.objs.size:=by obtain⟨o,n,e,_⟩:=pl;exact Sv e
 refine call_any_walk<|Vu pl.isList ?_;refine⟨s.heap.objs.size,[s.heap.objs.size,p],[s.heap.objs.size],a.toArray.size,_,_,λi=>bs.getD i false,rfl,XR (show X.A.in1.handled=none from I.ok.hd O) s.heap.objs.size p (Ss f) a.toArray,
  ⟨⟨_,Sl _ rfl,rfl,rfl⟩,?_⟩,λi v P U S y C=>?_,λE g F=>?_⟩
 ·obtain⟨o,e,r⟩:=pl.isList
  exact⟨o,R6 _ e,r⟩
 ·have x:i<bs.length:=by
   have:i<a.length:=by
    have:=(TY.mp y).1
    simpa using this
   lia
  have B:(bs.map V.bl)[i]? =some (V.bl bs[i]):=by simp[x]
  obtain⟨u,L,N⟩:=j.get B;have l:a[i]? =some v:=by simpa using y
  rw[L]at l;cases l;obtain rfl:v=Value.bool bs[i]:=N;refine Tc ?_;have e:bs.getD i false=bs[i]:=by simp[List.getD,x]
  rw[<-e];exact C
 ·refine⟨.bl<|bs.any id,H,?_,?_,q⟩
  ·have R:Inv X w σ H { s with heap:=s.heap.push { cls:=.type "list_iterator",data:=.fields #[.ref p,.int 0 0] } }:=I.kept (t':=s.toks) λb o e=>R6 _ e
   have J:Inv X w σ H { s with heap:=E,toks:=g }:=I.kept (t':=g) λb o e=>F b o (by
    intro z;have D:b=s.heap.objs.size:=by simpa using z
    exact absurd (Sv e)<|by rw[D];exact VA _)<|R6 _ e
   exact J
  ·show Value.bool _=Value.bool _
   congr 1
   rw[SI,<-m];exact wz bs
end L2
namespace J
structure Po(X:Cx)(YU:Yb Expr)(t:TT):Prop where
 out:MY X YU t
def _root_.cD(j:X.calm=true)(l:JI X (.Name x px) it wi)(L:O1 sc N x scope is ns)(he:∀a fp e g C,JE (dv X (x::ns) scope a fp e g C) elt te)(f:X.env.scope=sc)(i:X.N=N)(h:∀x,foldedSetIterable it X.env x=pure x:=by intro _;rfl):
  JE X (.ListComp elt [⟨.Name x px,it,[],0⟩] scope pos) (Rq wi is te):=⟨Ef j l.out L (λa fp e g C=>(he a fp e g C).out) f i h⟩
def _root_.bX:Po X [] xI:=⟨AG⟩
def _root_.bP(h:JT X ct tc):Po X [ct] tc:=⟨Gr h.out⟩
def _root_.aT (h:scope.names.lookup y=some .local:=by rfl) (a:xs[i]? =some y:=by rfl) (db:(y==("__debug__" :Yc))=false:=by decide) (cd:(y==("__classdict__" :Yc))=false:=by decide):JE (dv X xs scope cl fp s3 H3 C) (.Name y p) (gC i):=
 ⟨nO a (.inl<|T4 h) db cd⟩
def _root_.a5 (h:scope.names.lookup y=some .free:=by rfl) (a:xs[i]? =some y:=by rfl) (db:(y==("__debug__" :Yc))=false:=by decide) (cd:(y==("__classdict__" :Yc))=false:=by decide):JE (dv X xs scope cl fp s3 H3 C) (.Name y p) (gC i):=
 ⟨nO a (.inr<|jF h) db cd⟩
def _root_.br(nd:xs.Nodup:=by decide+kernel)(h:scope.names.lookup y=some .local:=by rfl)(a:xs[i]? =some y:=by rfl):JG (dv X xs scope cl fp s3 H3 C) (.Name y p) (eX i):=
 ⟨pN nd a (.inl<|T4 h)<|.inr<|T4 h⟩
def _root_.bN(m:X.calm=true)(n:JI X tg it wi)(L:wN sc N xs scope is ns)(l:∀a fp e f C,JG (dv X (xs++ns) scope a fp e f C) tg g)(i:∀a fp e f C,Po (dv X (xs++ns) scope a fp e f C) YU tc)(he:∀a fp e f C,JE (dv X (xs++ns) scope a fp e f C) elt te)
  (h:X.env.scope=sc)(o:X.N=N)(j:∀x,foldedSetIterable it X.env x=pure x:=by intro _;rfl):JE X (.ListComp elt [⟨tg,it,YU,0⟩] scope pos) (IK wi xs.length is g tc te):=
 ⟨ML m n.out L (λa fp e f C=>(l a fp e f C).out) (λa fp e f C=>(i a fp e f C).out) (λa fp e f C=>(he a fp e f C).out) h o j⟩
def _root_.cj(S:L2.Slot X iy y)(j:X.N.Nodup)(o:X.calm=true)(p:JI X tg it wi)(L:wN sc N xs scope is ns)(m:∀a fp e f C,JG (dv X (xs++ns) scope a fp e f C) tg g)(i:∀a fp e f C,Po (dv X (xs++ns) scope a fp e f C) YU tc)(he:∀a fp e f C,JE (dv X (xs++ns) scope a fp e f C) elt te)
  (h:X.env.scope=sc)(q:X.N=N)
  (hw:((if sc.kind.isAnnotationScope then ScopeKind.function else sc.kind)==.function&&sc.names.lookup y==some .local&&py.line==pos.line && !(scope.names.any λ(n,k)=>n==y&&(k==.local||k==.cell)))=true)
  (l:∀x,foldedSetIterable it X.env x=pure x:=by intro _;rfl):
  JS X (.Assign [.Name y py] (.ListComp elt [⟨tg,it,YU,0⟩] scope pos) spos) (wK (IK wi xs.length is g tc te)<|eX iy):=
 ⟨C6 j S.hN S.lc S.fn (CU h hw) o p.out L (λa fp e f C=>(m a fp e f C).out) (λa fp e f C=>(i a fp e f C).out) (λa fp e f C=>(he a fp e f C).out) h q l⟩
def ng(a:X.calm=true):JF X (.builtin "any") (λxs H Q=>∃(p:X4) (bs:Yb Bool),xs=[.ref p]/\cP X.K H p (bs.map V.bl)/\Q (.bl<|bs.any id) H):=⟨L2.ng a⟩
end J
namespace L2
section
variable [DecidableEq κ]
def dY(Yj:Yb (κ×V))(k:κ):X8 V:=(Yj.find? λa=>decide<|a.1=k).map (·.2)
def putK(Yj:Yb (κ×V))(k:κ)(v:V):Yb (κ×V):=
 if(Yj.any λa=>decide<|a.1=k)=true then Yj.map (λa=>if a.1=k then(a.1,v) else a) else Yj++[(k,v)]
def eI{p:κ×V}{r:Yb (κ×V)}{k:κ}(e:p.1=k):dY (p::r) k=some p.2:=by simp[dY,find?_cons,e]
def eG{p:κ×V}{r:Yb (κ×V)}{k:κ}(e:¬p.1=k):dY (p::r) k=dY r k:=by simp[dY,find?_cons,e]
theorem gI(k:κ):∀Yj:Yb (κ×V),(Yj.any λa=>decide<|a.1=k)=(dY Yj k).isSome
 |[]=>rfl
 |p::r=>by
  rw[Uu];by_cases e:p.1=k
  ·simp only[eI e,dT0 e,Bool.true_or,Option.isSome_some]
  ·rw[eG e,Se e,Bool.false_or];exact gI k r
theorem xF(k j:κ)(y:V):∀Yj:Yb (κ×V),dY (Yj.map λa=>if a.1=k then(a.1,y) else a) j=(dY Yj j).map λx=>if j=k then y else x
 |[]=>rfl
 |p::r=>by
  have f:=xF k j y r;rw[SV];by_cases h:p.1=k
  ·rw[Sb h]
   by_cases e:p.1=j
   ·rw[eI (p:=(p.1,y)) e,eI e,map_some,Sb<|e.symm.trans h]
   ·rw[eG (p:=(p.1,y)) e,eG e,f]
  ·rw[R7 h]
   by_cases e:p.1=j
   ·rw[eI e,eI e,map_some,R7 λz=>h<|e.trans z]
   ·rw[eG e,eG e,f]
theorem tQ(k j:κ)(y:V):∀Yj:Yb (κ×V),dY Yj k=none->dY (Yj++[(k,y)]) j=if j=k then some y else dY Yj j
 |[],_=>by
  by_cases e:k=j
  ·rw[Sb e.symm];exact eI e
  ·rw[R7 λz=>e z.symm];exact eG e
 |p::r,hn=>by
  rw[List.cons_append];have a:¬p.1=k:=λz=>by rw[eI z]at hn;cases hn
  rw[eG a]at hn;by_cases e:p.1=j
  ·rw[eI e,eI e,R7 λz=>a<|e.trans z]
  ·rw[eG e,eG e,tQ k j y r hn]
def cU(Yj:Yb (κ×V))(k j:κ)(y:V):dY (putK Yj k y) j=if j=k then some y else dY Yj j:=by
 unfold putK;by_cases a:(Yj.any λf=>decide<|f.1=k)=true
 ·rw[Sb a,xF]
  rw[gI]at a;by_cases e:j=k
  ·obtain⟨x,g⟩:=Xe.mp a
   rw[Sb e,e,g,map_some,Sb rfl]
  ·simp_all
 ·rw[R7 a]
  refine tQ k j y Yj ?_;rw[gI]at a;cases q:dY Yj k with
  |none=>rfl
  |some x=>grind
def dH(Yj:Yb (κ×V))(k:κ)(v:V):(putK Yj k v).length<=Yj.length+1:=by
 unfold putK;split
 ·grind
 ·grind
def jA.iC{o:X8 V}{u:X8 X3}(r:jA o u):o.isSome=u.isSome:=by
 cases o with
 |none=>cases u with
  |none=>rfl
  |some _=>exact(show False from r).elim
 |some _=>cases u with
  |none=>exact(show False from r).elim
  |some _=>rfl
def jA.getD{o:X8 V}{u:X8 X3}{d:V}{d':X3}(r:jA o u)(rd:RelV d d'):RelV (o.getD d) (u.getD d'):=by
 cases o with
 |none=>cases u with
  |none=>exact rd
  |some _=>exact(show False from r).elim
 |some _=>cases u with
  |none=>exact(show False from r).elim
  |some _=>exact r
def KV.val{Yj:Yb (κ×V)}{vs:Yb (κ×X3)}(r:KV Yj vs)(k:κ):jA (dY Yj k) (valueAt vs k):=by
 unfold KV at r
 induction r with
 |nil=>exact True.intro
 | @cons p q ps qs h t ih=>
  obtain⟨f,g⟩:=h;by_cases e:p.1=k
  ·have a:=f.symm.trans e
   have b:valueAt (q::qs) k=some q.2:=by simp[valueAt,find?_cons,a]
   rw[eI e,b];exact g
  ·have a:¬q.1=k:=λz=>e (f.trans z)
   have b:valueAt (q::qs) k=valueAt qs k:=by simp[valueAt,find?_cons,a]
   rw[eG e,b];exact ih
def KV.any{Yj:Yb (κ×V)}{vs:Yb (κ×X3)}(r:KV Yj vs)(k:κ):(Yj.any λa=>decide<|a.1=k)=vs.any λa=>decide (a.1=k):=by
 unfold KV at r
 induction r with
 |nil=>rfl
 |cons h t e=>rw[Uu,Uu,e,h.1]
def KV.Mm{Yj:Yb (κ×V)}{vs:Yb (κ×X3)}(r:KV Yj vs)(k:κ){y:V}{u:X3}(i:RelV y u):
  KV (Yj.map λa=>if a.1=k then(a.1,y) else a) (vs.map λa=>if a.1=k then(a.1,u) else a):=by
 unfold KV at r ⊢
 induction r with
 |nil=>exact .nil
 | @cons p q ps qs h t ih=>
  rw[SV,SV];refine .cons ?_ ih;obtain⟨f,g⟩:=h;by_cases e:p.1=k
  ·rw[Sb e,Sb<|f.symm.trans e];exact⟨f,i⟩
  ·rw[R7 e,R7 λz=>e<|f.trans z];exact⟨f,g⟩
def KV.put{Yj:Yb (κ×V)}{vs:Yb (κ×X3)}(r:KV Yj vs)(k:κ){y:V}{u:X3}(a:RelV y u):KV (putK Yj k y) (stored vs k u):=by
 unfold putK stored;rw[r.any k];by_cases e:(vs.any λf=>decide<|f.1=k)=true
 ·rw[Sb e,Sb e];exact r.Mm k a
 ·rw[R7 e,R7 e];exact Paired.snoc r ⟨rfl,a⟩
def KV.length{Yj:Yb (κ×V)}{vs:Yb (κ×X3)}(r:KV Yj vs):Yj.length=vs.length:=Tu r
end
def oU{P:X6}{w:X7}{k:Key}{u:X3}(r:RelV (kV k) u):(cO P w).is k u=true:=by
 cases k with
 |inl i=>obtain⟨t,e⟩:=(show ∃t,u=Value.int i t from r);subst e;exact wq P w i t
 |inr x=>obtain⟨t,e⟩:=(show ∃t,u=Value.str x t from r);subst e;exact oH P w x t
theorem sV{P:X6}{w:X7}:∀{a:Yb Key}{us:Yb X3},Vals (a.map kV) us->ItemsAre (cO P w) a us
 |[],_,r=>by rw[map_nil]at r;cases r;exact .nil
 |k::a,_,r=>by
  rw[SV]at r;cases r with
  |cons h t=>exact .cons (oU h)<|sV t
abbrev KT(H:Hp):Yb (Yb Key×V)->Yb (Yb Key×X4×X3)->Prop:=Paired λp q=>p.1=q.1/\H q.2.1=some (.tup (p.1.map kV))/\RelV p.2 q.2.2
def KT.val{H:Hp}{Yj:Yb (Yb Key×V)}{xs:Yb (Yb Key×X4×X3)}(r:KT H Yj xs)(k:Yb Key):jA (dY Yj k) ((atKey xs k).map (·.2)):=by
 induction r with
 |nil=>exact True.intro
 | @cons p q ps qs h t ih=>
  obtain⟨f,_,g⟩:=h;by_cases e:p.1=k
  ·have a:=f.symm.trans e
   have b:atKey (q::qs) k=some q.2:=by simp[atKey,find?_cons,a]
   rw[eI e,b];exact g
  ·have a:¬q.1=k:=λz=>e (f.trans z)
   have b:atKey (q::qs) k=atKey qs k:=by simp[atKey,find?_cons,a]
   rw[eG e,b];exact ih
def KT.Mm{H:Hp}{Yj:Yb (Yb Key×V)}{xs:Yb (Yb Key×X4×X3)}(r:KT H Yj xs)(k:Yb Key){y:V}{u:X3}(j:RelV y u):
  KT H (Yj.map λf=>if f.1=k then(f.1,y) else f) (xs.map<|putAt k u):=by
 induction r with
 |nil=>exact .nil
 | @cons p q ps qs h t ih=>
  rw[SV,SV];refine .cons ?_ ih;obtain⟨a,g,i⟩:=h;unfold putAt;by_cases e:p.1=k
  ·rw[Sb e,Sb<|a.symm.trans e];exact⟨a,g,j⟩
  ·rw[R7 e,R7 λz=>e<|a.trans z];exact⟨a,g,i⟩
def KT.put{H:Hp}{Yj:Yb (Yb Key×V)}{xs:Yb (Yb Key×X4×X3)}(r:KT H Yj xs)(k:Yb Key){b:X4}{y:V}{u:X3}(g:H b=some (.tup<|k.map kV))(a:RelV y u):
  KT H (putK Yj k y) (storedH xs k b u):=by
 have e:(Yj.any λf=>decide<|f.1=k)=(atKey xs k).isSome:=by
  rw[gI,(r.val k).iC,UW]
 unfold putK storedH;rw[e];by_cases q:(atKey xs k).isSome=true
 ·rw[Sb q,Sb q];exact r.Mm k a
 ·rw[R7 q,R7 q];exact Paired.snoc r ⟨rfl,g,a⟩
def KT.keeps{H H':Hp}{Yj:Yb (Yb Key×V)}{xs:Yb (Yb Key×X4×X3)}(r:KT H Yj xs)(a:∀b ys,H b=some (.tup ys)->H' b=some (.tup ys)):KT H' Yj xs:=
 Paired.Eb r λ_ _ z=>⟨z.1,a _ _ z.2.1,z.2.2⟩
def Ko{u:HO}(ok:fM P w H h)(e:Rd H a u):cV P w H h a u:=e.ok ok
def rE{Yj:Yb (Key×V)}(ok:fM P w H h)(e:Rd H a (.dK Yj)):Yj.length<=sizeLine/\(a==sysModules)=false/\∃vs,KV Yj vs/\h.DictOf (cO P w) a vs:=
 show cV P w H h a (.dK Yj) from Ko ok e
def Fn{Yj:Yb (Key×V)}(ok:fM P w H h)(e:H a=some (.dK Yj)):Yj.length<=sizeLine/\(a==sysModules)=false/\∃vs,KV Yj vs/\h.DictOf (cO P w) a vs:=rE ok<|.inl e
def j6{f:Yb Key}(ok:fM P w H h)(e:H a=some (.tup<|f.map kV)):(tupleKind<|cO P w).is h f a:=by
 obtain⟨_,g,r,o,j,i,n,l⟩:=(show cV P w H h a (.tup<|f.map kV) from ok a _ e);exact⟨o,g.toArray,n,j,i,l,by simpa using sV r⟩
def rq{Yj:Yb (Yb Key×V)}(ok:fM P w H h)(e:Rd H a (.dT Yj)):Yj.length<=sizeLine/\(a==sysModules)=false/\
  ∃xs,KT H Yj xs/\h.DictOfH (tupleKind<|cO P w) a xs:=by
 obtain⟨z,y,xs,r,o,s,A,j,g,v,i,n⟩:=(show cV P w H h a (.dT Yj) from Ko ok e);refine⟨z,y,xs,r,o,s,A,j,g,v,i,λx f=>?_,n⟩;have all:∀{l:Yb (Yb Key×V)}{m:Yb (Yb Key×X4×X3)},KT H l m->∀x∈m,(tupleKind<|cO P w).is h x.1 x.2.1:=by
  intro l m q
  induction q with
  |nil=>intro x f;exact nomatch f
  | @cons p q ps qs hq t ih=>
   intro x f;obtain e|f:=SS.mp f
   ·subst e
    exact j6 ok (by rw[<-hq.1];exact hq.2.1)
   ·exact ih x f
 exact all r x f
def Np{Yj:Yb (Yb Key×V)}(ok:fM P w H h)(e:H a=some (.dT Yj)):Yj.length<=sizeLine/\(a==sysModules)=false/\
  ∃xs,KT H Yj xs/\h.DictOfH (tupleKind<|cO P w) a xs:=rq ok<|.inl e
def dP(H:Hp)(a:X4)(y:V)(r:X8 V):Prop:=
 (∃e k,Rd H a (.dK e)/\y=kV k/\r=dY e k)\/∃e k b,Rd H a (.dT e)/\y=.ref b/\H b=some (.tup<|k.map kV)/\r=dY e k
def l7(H:Hp)(a:X4)(y v:V)(H':Hp):Prop:=
 (∃e k,H a=some (.dK e)/\y=kV k/\e.length<sizeLine/\H'=upd H a (.dK<|putK e k v))\/
 ∃e k b,H a=some (.dT e)/\y=.ref b/\H b=some (.tup<|k.map kV)/\e.length<sizeLine/\H'=upd H a (.dT<|putK e k v)
def dP.k{H:Hp}{a:X4}{Yj:Yb (Key×V)}{k:Key}(e:H a=some (.dK Yj)):dP H a (kV k) (dY Yj k):=.inl ⟨Yj,k,.inl e,rfl,rfl⟩
def dP.t{H:Hp}{a b:X4}{Yj:Yb (Yb Key×V)}{k:Yb Key}(e:H a=some (.dT Yj))(f:H b=some (.tup<|k.map kV)):dP H a (.ref b) (dY Yj k):=.inr ⟨Yj,k,b,.inl e,rfl,f,rfl⟩
def l7.k{H:Hp}{a:X4}{Yj:Yb (Key×V)}{k:Key}{v:V}(e:H a=some (.dK Yj))(f:Yj.length<sizeLine):l7 H a (kV k) v (upd H a<|.dK<|putK Yj k v):=.inl ⟨Yj,k,e,rfl,f,rfl⟩
def l7.t{H:Hp}{a b:X4}{Yj:Yb (Yb Key×V)}{k:Yb Key}{v:V}(e:H a=some (.dT Yj))(g:H b=some (.tup<|k.map kV))(f:Yj.length<sizeLine):
  l7 H a (.ref b) v (upd H a<|.dT<|putK Yj k v):=.inr ⟨Yj,k,b,e,rfl,g,f,rfl⟩
def Inv.big(I:Inv X Yi σ H s):sysModules<s.heap.objs.size:=Xr (by decide)<|(I.mod.glob.keeps I.bk).lt
def Cv{Q:Yd}(D:A.units+1<cLine)(I:Inv X Yi σ H s)(g:dP H a y (some v))(r:RelV y u)(h:∀j s',Inv X Yi σ H s'->RelV v j->Q j s'):
  wpAny (model X.prog X.w) A (getItem (.ref a) u) Q E s:=by
 obtain ⟨F,k,e,q,l⟩|⟨F,k,b,e,q,B,l⟩:=g
 ·subst q
  obtain⟨z,x,G,i,o⟩:=rE I.hok e;obtain⟨j,n,f⟩:=jA.some_of (by rw[l];exact i.val k);exact wpAny_getItem_of (oU r) o.mapOf n<|h j _ (I.tok _) f
 ·subst q
  cases (show u=Value.ref b from r);obtain⟨z,x,J,i,o⟩:=rq I.hok e;obtain⟨j,n,f⟩:=jA.some_of (by rw[l];exact i.val k);obtain⟨p,C,m⟩:=Th.mp n;refine wpAny_getItem_heap (Vf D) (j6 I.hok B) o C ?_;rw[m];exact h j _ (I.tok _) f
def QY{Q:Yd}(p:A.units+1<cLine)(I:Inv X Yi σ H s)(g:dP H a y o)(n:RelV y u)(h:∀s',Inv X Yi σ H s'->Q (.bool o.isSome) s'):
  wpAny (model X.prog X.w) A (compareOp .In u<|.ref a) Q E s:=by
 obtain ⟨v,k,e,j,l⟩|⟨v,k,b,e,j,r,l⟩:=g
 ·subst j
  obtain⟨z,i,x,f,m⟩:=rE I.hok e;refine wpAny_in_of (oU n) i m.mapOf ?_;rw[<-(f.val k).iC,<-l];exact h _<|I.tok _
 ·subst j
  cases (show u=Value.ref b from n);obtain⟨z,i,B,f,m⟩:=rq I.hok e;refine wpAny_in_heap (Vf p) (j6 I.hok r) i m ?_;have q:=(f.val k).iC;rw[UW]at q;rw[<-q,<-l];exact h _<|I.tok _
def IC{Q:Yd}(p:A.units+1<cLine)(I:Inv X Yi σ H s)(g:dP H a y o)(n:RelV y u)(h:∀s',Inv X Yi σ H s'->Q (.bool<|!o.isSome) s'):
  wpAny (model X.prog X.w) A (compareOp .NotIn u<|.ref a) Q E s:=by
 obtain ⟨v,k,e,j,l⟩|⟨v,k,b,e,j,r,l⟩:=g
 ·subst j
  obtain⟨z,i,x,f,m⟩:=rE I.hok e;refine wpAny_notIn_of (oU n) i m.mapOf ?_;rw[<-(f.val k).iC,<-l];exact h _<|I.tok _
 ·subst j
  cases (show u=Value.ref b from n);obtain⟨z,i,B,f,m⟩:=rq I.hok e;refine wpAny_notIn_heap (Vf p) (j6 I.hok r) i m ?_;have q:=(f.val k).iC;rw[UW]at q;rw[<-q,<-l];exact h _<|I.tok _
def kC{h':Heap}{t':Nat}{e:HO}(I:Inv X Yi σ H s)(h:N5 (H a))(g:Heap.SameBut a s.heap h')(he:∃q,h'.get? a=some q)(new:cV X.prog X.w (upd H a e) h' a e):
  Inv X Yi σ (upd H a e) { s with heap:=h',toks:=t' }:=
 I.write h (.inl rfl) (λb q f z=>(g.2 b f).trans z) he new
def DO{P:X6}{w:X7}{H':Hp}{h':Heap}{Yj:Yb (Key×V)}{vs:Yb (Key×X3)}(z:Yj.length<=sizeLine)(hd:(a==sysModules)=false)(rel:KV Yj vs)(dd:h'.DictOf (cO P w) a vs):
  cV P w H' h' a (.dK Yj):=⟨z,hd,vs,rel,dd⟩
def Cd{H':Hp}{Q:Ye}(T:A.units+1<cLine)(I:Inv X Yi σ H s)(g:l7 H a y v H')(K:RelV y u)(J:RelV v r)(h:∀s',Inv X Yi σ H' s'->Q () s'):
  wpAny (model X.prog X.w) A (setItem (.ref a) u r) Q E s:=by
 obtain ⟨i,k,e,C,l,o⟩|⟨i,k,b,e,C,G,l,o⟩:=g
 ·subst C o
  obtain⟨z,n,M,f,B⟩:=Fn I.hok e;have P:M.length<=sizeLine:=by rw[<-f.length];exact z
  have p:(putK i k v).length<=sizeLine:=by have:=dH i k v;lia
  refine wpAny_setItem_pairs (oU K) B λF m x=>h _ ?_;have Y:∃q,F.get? a=some q:=let ⟨q,_,_,j,_⟩:=m;⟨q,j⟩;exact kC I (by rw[e];exact True.intro) x Y<|DO p n (f.put k J) m
 ·subst C o
  cases (show u=Value.ref b from K);obtain⟨z,n,R,f,B⟩:=Np I.hok e;have P:R.length<=sizeLine:=by rw[<-Tu f];exact z
  have p:(putK i k v).length<=sizeLine:=by have:=dH i k v;lia
  refine wpAny_setItem_heap (Vf T) (j6 I.hok G) B λF m x=>h _ ?_;obtain⟨q,S,W,j,L,U,N,_,O⟩:=m;refine kC I (by rw[e];exact True.intro) x ⟨q,j⟩ ⟨p,n,_,(f.put k G J).keeps λc Z D=>?_,q,S,W,j,L,U,N,O⟩;rw[cI<|p7 D e λz=>nomatch z];exact D
def LU(i:Expr):Prop:=∀e a,subscripted i false e a=operate [e,a] (getItem e a)
def BD{prog:X6}{w:X7}{A:X9}{E:Yd}{s:X5}{env:Env}{value slice:Expr}{pos:Pos}{T id:String}{Q:Yd}
  (p:typeLookup (.type T) "__getitem__" =pure (some<|.builtin id)) (q:LU slice)
  (h:wpAny (model prog w) A (eval value env) (λo g=>wpAny (model prog w) A (eval slice env) (λi a=>a.TypeIs o T/\wpAny (model prog w) A (getItem o i) Q E a) E g) E s):
  wpAny (model prog w) A (eval (.Subscript value slice pos) env) Q E s:=by
 refine Subscript_<|SJ h (λo g l=>SJ l (λi a e=>?_) λ_ _ x=>x) λ_ _ x=>x;obtain⟨n,e⟩:=e;unfold subscriptTail;refine RX ?_;rw[getitemInPython_of_ne n.not_modules];refine RX<|UK n p ?_;have j:wpAny (model prog w) A (subscripted slice false o i) (λr f=>wpAny (model prog w) A (letTemporaryGo value o r >>= λ_=>pure r) Q E f) E a:=by
  rw[q o i];exact wpAny_operating<|SJ e (λr f m=>RX<|wpAny_letTemporaryGo<|RZ m) λ_ _ x=>x
 first
  |exact RZ<|RX j
  |exact RX<|RZ<|RX j
  |exact RX j
def xw{X:Cx}{h:Yg}{σ:St}{H:Hp}{s:X5}{a:X4}{y:V}{o:X8 V}(I:Inv X h σ H s)(g:dP H a y o):s.TypeIs (.ref a) "dict" :=by
 obtain ⟨i,k,e,_,_⟩|⟨i,k,b,e,_,_,_⟩:=g
 ·obtain⟨_,_,j,_,f⟩:=rE I.hok e
  exact f.typeIs
 ·obtain⟨_,_,l,_,f⟩:=rq I.hok e
  exact f.typeIs
def JJ(f ty:TE):TE:=λσ H Q=>f σ H λx H1=>ty σ H1 λy e=>∃a v,x=.ref a/\dP e a y (some v)/\Q v e
def IQ(ty f:TE):TE:=λσ H Q=>ty σ H λy H1=>f σ H1 λx e=>∃a o,x=.ref a/\dP e a y o/\Q (.bl o.isSome) e
def Aw(ty f:TE):TE:=λσ H Q=>ty σ H λy H1=>f σ H1 λx e=>∃a o,x=.ref a/\dP e a y o/\Q (.bl<|!o.isSome) e
def JD(h ty f:TE):TS:=λD σ H=>f σ H λv H1=>h σ H1 λx g=>ty σ g λy i=>∃a e,x=.ref a/\l7 i a y v e/\D.nx σ e
def Gi(r:X.A.units+1<cLine)(q:PE X o td)(D:PE X i ty)(B:LU i):PE X (.Subscript o i pos) (JJ td ty):=by
 intro l s σ H Q I h;refine BD W9.lookup B<|c9 (q l s σ H _ I h) λu w ⟨x,H1,n,z,q1⟩=>c9 (D l w σ H1 _ n q1) λL J e=>?_;obtain⟨y,E,j,C,a,v,m,g,F⟩:=e;subst m;obtain rfl:u=Value.ref a:=z;exact⟨xw j g,Cv r j g C λG K p f=>⟨v,E,p,f,F⟩⟩
def ET(q:X.A.units+1<cLine)(B:PE X i ty)(p:PE X o td):PC X .In i o (IQ ty td):=by
 intro f s σ H Q I h;refine c9 (B f s σ H _ I h) λG r ⟨y,H1,l,z,q1⟩=>c9 (p f r σ H1 _ l q1) λu E e=>?_;obtain⟨x,C,n,w,a,v,j,g,D⟩:=e;subst j;obtain rfl:u=Value.ref a:=w;exact QY q n g z λF m=>⟨.bl v.isSome,C,m,rfl,D⟩
def CV(q:X.A.units+1<cLine)(B:PE X i ty)(p:PE X o td):PC X .NotIn i o (Aw ty td):=by
 intro f s σ H Q I h;refine c9 (B f s σ H _ I h) λG r ⟨y,H1,l,z,q1⟩=>c9 (p f r σ H1 _ l q1) λu E e=>?_;obtain⟨x,C,n,w,a,v,j,g,D⟩:=e;subst j;obtain rfl:u=Value.ref a:=w;exact IC q n g z λF m=>⟨.bl<|!v.isSome,C,m,rfl,D⟩
def GP(E:X.A.units+1<cLine)(C:PE X o td)(L:PE X i ty)(N:PE X value tv)(J:swapsWith value (some<|.Subscript o i Yy) pos.line X.env=pure false):
  PS X (.Assign [.Subscript o i Yy] value pos) (JD td ty tv):=by
 intro f s σ H D I h;refine wpAny_Assign_Subscript (c9 (N f s σ H _ I h) λr F ⟨v,H1,m,B,q1⟩=>c9 (C f F σ H1 _ m q1) λu q ⟨x,M,z,G,O⟩=>c9 (L f q σ M _ z O) λS R e=>?_) J;obtain⟨y,Q,n,K,a,p,j,g,w⟩:=e;subst j;obtain rfl:u=Value.ref a:=G;exact Cd E n g K B λP l=>⟨σ,p,l,w⟩
def wZ{P:X6}{w:X7}{H:Hp}(h:Heap)(a:sysModules<h.objs.size):cV P w H (h.push { cls:=.type "dict",data:=.dict #[] }) h.objs.size (.dK []):=
 ⟨Tq _,TZ.mpr<|Ui<|Ss a,[],.nil,Xs h⟩
def E4{P:X6}{w:X7}{H:Hp}(h:Heap)(a:sysModules<h.objs.size):cV P w H (h.push { cls:=.type "dict",data:=.dict #[] }) h.objs.size (.dT []):=
 ⟨Tq _,TZ.mpr<|Ui<|Ss a,[],.nil,_,#[],0,Sl _ rfl,⟨rfl,rfl,rfl⟩,rfl,rfl,VD⟩
def EH:TE:=λ_ H Q=>∀p,H p=none->Q (.ref p) (upd H p<|.dT [])
def F2:PE X (.Dict [] [] pos) EH:=λa s σ H Q I h=>
 Xf ⟨.ref s.heap.objs.size,_,I.laid (t':=s.toks) (λ_ _ q=>R6 _ q) (R9 _)<|E4 s.heap I.big,rfl,h _<|I.hok.fresh<|R9 _⟩
def vd:Yb (TE×TE)->St->Hp->(Yb (V×V)->Hp->Prop)->Prop
 |[],_,H,Q=>Q [] H
 | (tk,tv)::r,σ,H,Q=>tk σ H λx H1=>tv σ H1 λy a=>vd r σ a λe f=>Q ((x,y)::e) f
abbrev VV:Yb (V×V)->Yb (X3×X3)->Prop:=Paired λp q=>RelV p.1 q.1/\RelV p.2 q.2
def Pz(X:Cx)(pos:Pos)(keys:Yb (X8 Expr))(values:Yb Expr)(i:Yb (TE×TE)):Prop:=
 ∀(f:Yg) (s:X5) (σ:St) (H:Hp) (Q:Yb (V×V)->Hp->Prop),Inv X f σ H s->vd i σ H Q->
  wpAny (model X.prog X.w) X.A (evalPairs<|pairTrees keys values X.env pos) (λh g=>∃a e,Inv X f σ e g/\VV a h/\Q a e) X.xe s
def BB{X:Cx}{pos:Pos}:Pz X pos [] [] []:=λa s σ H Q I h=>pairTrees_nil_walk ⟨[],H,I,.nil,h⟩
def jZ{X:Cx}{pos:Pos}{k v:Expr}{f:Yb (X8 Expr)}{vs:Yb Expr}{i g:TE}{j:Yb (TE×TE)}(n:PE X k i)(D:PE X v g)(hr:Pz X pos f vs j):
  Pz X pos (some k::f) (v::vs) ((i,g)::j):=λe s σ H Q I h=>
 pairTrees_cons_walk (c9 (n e s σ H _ I h) λu z ⟨x,H1,l,A,q1⟩=>c9 (D e z σ H1 _ l q1) λJ q ⟨y,C,w,B,E⟩=>
  c9 (hr e q σ C _ w E) λF G ⟨o,m,p,a,r⟩=>⟨(x,y)::o,m,p,.cons ⟨A,B⟩ a,r⟩)
def fO(Yj f:Yb (Key×V)):Yb (Key×V):=f.foldl (λe a=>putK e a.1 a.2) Yj
def KV.merge:∀{a:Yb (Key×V)}{f:Yb (Key×X3)}{Yj:Yb (Key×V)}{vs:Yb (Key×X3)},KV a f->KV Yj vs->KV (fO Yj a) (merged vs f):=by
 intro a f Yj vs r;unfold KV at r
 induction r generalizing Yj vs with
 |nil=>intro q;exact q
 | @cons p q ps qs h t ih=>
  intro g;have e:KV (putK Yj p.1 p.2) (stored vs q.1 q.2):=by
   have:=g.put p.1 h.2;rw[<-h.1];exact this
  exact ih e
theorem ik:∀(a Yj:Yb (Key×V)),(fO Yj a).length<=Yj.length+a.length
 |[],Yj=>by show Yj.length<=Yj.length+0;lia
 |p::r,Yj=>by
  have e:=ik r<|putK Yj p.1 p.2;have f:=dH Yj p.1 p.2;show(fO (putK Yj p.1 p.2) r).length<=_;rw[Te];lia
theorem qg{P:X6}{w:X7}:∀{Yj:Yb (Key×V)}{ws:Yb (X3×X3)},VV (Yj.map λf=>(kV f.1,f.2)) ws->∃e,Carries (cO P w) ws e/\KV Yj e
 |[],_,r=>by rw[map_nil]at r;cases r;exact⟨[],True.intro,.nil⟩
 |p::Yj,_,r=>by
  rw[SV]at r;cases r with
  | @cons a b as bs h t=>
   obtain⟨e,c,q⟩:=qg t;obtain⟨i,g⟩:=b;exact⟨(p.1,g)::e,⟨oU h.1,rfl,c⟩,.cons ⟨rfl,h.2⟩ q⟩
def Ky(h:Yb (TE×TE)):TE:=λσ H Q=>∀p,H p=none->vd h σ (upd H p<|.dK []) λg e=>e p=some (.dK [])/\∃a:Yb (Key×V),g=a.map (λf=>(kV f.1,f.2))/\a.length<=15/\Q (.ref p) (upd e p<|.dK<|fO [] a)
def GJ{X:Cx}{pos:Pos}{keys:Yb (X8 Expr)}{values:Yb Expr}{m:Yb (TE×TE)}(h:Pz X pos keys values m)(a:keys.all (·.isSome)=true)(C:keys.length=values.length)(h0:keys≠[])
  (g:keys.length<=15):PE X (.Dict keys values pos) (Ky m):=by
 intro E s σ H Q I q;have p:=I.laid (h':=s.heap.push { cls:=.type "dict",data:=.dict #[] }) (t':=s.toks) (λ_ _ q=>R6 _ q) (R9 _)<|wZ s.heap I.big;refine wpAny_Dict_walk (knd:=cO X.prog X.w) a C h0 g<|c9 (h E _ σ _ _ p<|q _<|I.hok.fresh<|R9 s.heap.objs.size) λP O f=>?_;obtain⟨N,R,j,i,e,l,G,M,L⟩:=f;subst G;obtain⟨B,c,y⟩:=qg (w:=X.w) i;obtain⟨z,o,J,v,F⟩:=Fn j.hok e;cases v;refine⟨B,c,F,λh' n D=>⟨.ref s.heap.objs.size,_,?_,rfl,L⟩⟩;have A:(fO [] l).length<=sizeLine:=by
  have x:=ik l [];rw[length_nil]at x;rw[Sq];lia
 have K:∃q,h'.get? s.heap.objs.size=some q:=let ⟨q,_,_,r,_⟩:=n;⟨q,r⟩;exact kC j (by rw[e];exact True.intro) D K<|DO A o (y.merge .nil) n
structure M1(X:Cx)(o:Expr)(m:Yc)(Yo:Pos)(e:Expr)(Yn:Pos):Prop where
 base:attributeBase o m X.env (eval o X.env)=eval o X.env
 MS:((backTo Yn (starEach [e] X.env)).all (λx=> !x.1)&&(backToKw Yn (keywordEach [] X.env)).all (λx=>x.1.isSome)
  && decide (([e]:Yb Expr).length+([]:Yb Keyword).length+(if([]:Yb Keyword).isEmpty then 0 else 1)<30))=true
 line:(Yo.endLine==Yn.line)=true
 trees:backTo Yn (starEach [e] X.env)=[(false,eval e X.env)]
structure M2(X:Cx)(o:Expr)(m:Yc)(Yo:Pos)(e f:Expr)(Yn:Pos):Prop where
 base:attributeBase o m X.env (eval o X.env)=eval o X.env
 MS:((backTo Yn (starEach [e,f] X.env)).all (λx=> !x.1)&&(backToKw Yn (keywordEach [] X.env)).all (λx=>x.1.isSome)
  && decide (([e,f]:Yb Expr).length+([]:Yb Keyword).length+(if([]:Yb Keyword).isEmpty then 0 else 1)<30))=true
 line:(Yo.endLine==Yn.line)=true
 trees:backTo Yn (starEach [e,f] X.env)=[(false,eval e X.env),(false,eval f X.env)]
def Ri(H:Hp)(a:X4):Prop:=(∃e,Rd H a<|.dK e)\/∃e,Rd H a<|.dT e
def L0{X:Cx}{l:Yg}{σ:St}{H:Hp}{s:X5}{a:X4}(I:Inv X l σ H s)(d:Ri H a):
  s.TypeIs (.ref a) "dict" /\(∀b,Value.ref a=.ref b->∃f,s.heap.get? b=some f/\f.dict=none)/\(a==sysModules)=false:=by
 obtain ⟨m,e⟩|⟨m,e⟩:=d
 ·obtain⟨_,h,n,_,g⟩:=rE I.hok e
  refine⟨g.typeIs,λb q=>?_,h⟩;cases q;obtain⟨f,_,_,j,i,_⟩:=g;exact⟨f,j,i.2.1⟩
 ·obtain⟨_,h,o,_,g⟩:=rq I.hok e
  refine⟨g.typeIs,λb q=>?_,h⟩;cases q;obtain⟨f,_,_,j,i,_⟩:=g;exact⟨f,j,i.2.1⟩
def Lb{Q:Yd}(x:A.units+1<cLine)(I:Inv X Yi σ H s)(g:dP H a y o)(p:RelV y u)(rd:RelV d r)(h:∀n s',Inv X Yi σ H s'->RelV (o.getD d) n->Q n s'):
  wpAny (model X.prog X.w) A (call (.builtin "dict.get") [.ref a,u,r]) Q E s:=by
 obtain ⟨B,k,e,m,l⟩|⟨B,k,b,e,m,q,l⟩:=g
 ·subst m
  obtain⟨z,j,C,f,i⟩:=rE I.hok e;refine call_meetsIn Wa i.typeIs Wm (Wg _ _ _) (meets_dict_get_default (cO X.prog X.w) a (oU p) j r) ⟨_,i.mapOf,h _ _ (I.tok _) ?_⟩;rw[l];exact(f.val k).getD rd
 ·subst m
  cases (show u=Value.ref b from p);obtain⟨z,j,v,f,i⟩:=rq I.hok e;refine call_meetsIn Wa i.typeIs Wm (Wg _ _ _) (meetsH_dict_get_default (tupleKind<|cO X.prog X.w) a b j r) ⟨Vf x,k,v,j6 I.hok q,i,h _ _ (I.tok _) ?_⟩;rw[l];exact(f.val k).getD rd
def FC(g ty h:TE):TE:=λσ H Q=>g σ H λx H1=>∃a,x=.ref a/\Ri H1 a/\ty σ H1 λy f=>h σ f λz e=>∃o,dP e a y o/\Q (o.getD z) e
def En (G:X.A.units+1<cLine) (E:PE X o td) (he:PE X e ty) (hf:PE X f tx) (m:M2 X o "get" Yo e f Yn):PE X (.Call (.Attribute o "get" Yo) [e,f] [] Yn) (FC td ty tx):=by
 intro l s σ H Q I h;refine W4 m.base m.MS m.line WC Wa XH<|c9 (E l s σ H _ I h) λu J i=>?_;obtain⟨x,H1,n,K,a,p,d,q1⟩:=i;subst p;obtain rfl:u=Value.ref a:=K;obtain⟨F,q,_⟩:=L0 n d;refine⟨F,q,?_⟩;rw[m.trees];refine Uk rfl (UT (T5 (c9 (he l J σ H1 _ n q1) λU B ⟨y,N,D,L,O⟩=>
  T5 (c9 (hf l B σ N _ D O) λW T ⟨z,v,w,M,S,g,C⟩=>Vv ?_))))
 exact Lb G w g L M λR P r j=>⟨_,v,r,j,C⟩
def LA:bootBuiltins "any" =some (.builtin "any"):=by decide+kernel
section
variable {X:Cx}{y m:Yc}{N':Yb Yc}{scope:Scope}{cl:Yb (Yc×X4)}{fp:Yb X4}{s3:X5}{H3:Hp}{C D:X4}{sp:Sp}
def B8.lg(B:B8 X y sp)(h:scope.names.lookup y=some .globalImplicit):Lo (dv X N' scope cl fp s3 H3 C) y sp:=⟨B.ex,jk (by decide) h,B.db⟩
end
def xO(zs xs:Yb V):Bool:=(List.range<|min zs.length xs.length).all (λi=>tf (zs.getD i .non)<|xs.getD i .non)&&zs.length==xs.length
def Mr(H:Hp)(xs:Yb V)(v:V):Bool:=match v with
 |.ref c=>match H c with
  |some (.tup zs)=>xO zs xs
  |_=>false
 |_=>false
def DZ{x:V}(f:dI x=true):tf x x=true:=by
 cases x with
 |non=>rfl
 |bl b=>exact Tz b
 |int i=>exact Tz i
 |str z=>exact Tz z
 |_=>exact absurd (show false=true from f) bF0
def BQ{xs:Yb V}(f:xs.all dI=true)(i:Nat):dI (xs.getD i .non)=true:=by
 rw[Tn];cases h:xs[i]? with
 |none=>rfl
 |some v=>exact Tv.mp f v<|R4 h
def Ex{xs:Yb V}(f:xs.all dI=true):xO xs xs=true:=by
 unfold xO;rw[Tz,Vs,Tv];exact λi _=>DZ<|BQ f i
inductive OA(K:Frag)(x y:V)(H:Hp)(Q:VK):Prop
 |mk(a b:X4)(xs ys:Yb V)(h:x=.ref a)(e:y=.ref b)(s:H a=some (.tup xs))(t:cP K H b ys)(f:xs.all dI=true)(g:∀v∈ys,∃c zs,v=.ref c/\H c=some (.tup zs)/\zs.all dI=true)(q:Q (.bl (ys.any (Mr H xs))) H)
def Io(H:Hp)(xs:Yb V)(u:X3):Bool:=match u with
 |.ref c=>Mr H xs<|.ref c
 |_=>false
theorem vD{H:Hp}{xs:Yb V}:∀{ys:Yb V}{us:Yb X3},Vals ys us->(∀v∈ys,∃c zs,v=.ref c/\H c=some (.tup zs)/\zs.all dI=true)->us.any (Io H xs)=ys.any (Mr H xs)
 |_,_,.nil,_=>rfl
 |y::_,u::_,.cons r t,g=>by
  obtain⟨c,zs,rfl,_⟩:=g y<|SO ..;cases r;rw[Uu,Uu,vD t λv a=>g v<|Ta _ a];rfl
theorem qY:∀{ys:Yb V}{us:Yb X3}{u:X3},Vals ys us->u∈us->∃y∈ys,RelV y u
 |_,_,_,.nil,h=>by cases h
 |y::_,_::_,u,.cons r t,h=>by
  obtain rfl|h:=SS.mp h
  ·exact⟨y,SO ..,r⟩
  ·obtain⟨z,a,q⟩:=qY t h
   exact⟨z,Ta _ a,q⟩
def sU{X:Cx}{B:Yg}{σ:St}{H:Hp}{s:X5}{A:X9}{c a:X4}{zs xs:Yb V}(I:Inv X B σ H s)(z:A.units<cLine)(w:H c=some (.tup zs))(h:H a=some (.tup xs))(y:zs.all dI=true)(o:xs.all dI=true):SeqAt.EqAt A s (.ref c) (.ref a) (xO zs xs):=by
 by_cases e:c=a
 ·subst e
  rw[w]at h;cases h;rw[Ex o];exact Xq _
 ·obtain⟨D,r,pl,_⟩:=I.tuple (fc.of (K:=X.K) w)
  obtain⟨v,p,f,_⟩:=I.tuple<|fc.of (K:=X.K) h;have:=SeqAt.RcAt.tuples (A:=A) (e:=λi=>tf (zs.getD i .non)<|xs.getD i .non) pl f z (λj m l=>by
   simp only[size_toArray]at m l;obtain⟨E,q,x⟩:=fZ r m;obtain⟨C,n,g⟩:=fZ p l;simp only[List.getElem_toArray];rw[Tn,Tn,q,n];exact u7 x g (Tv.mp y _<|R4 q)<|Tv.mp o _<|R4 n)
  refine SeqAt.EqAt.of_refs e ?_;simp only[size_toArray]at this
  rwa [<-r.length,<-p.length]at this
def l0{X:Cx}(C:X.A.units+1<cLine):iU X (compareOp .In) (λx y H Q=>OA X.K x y H Q):=by
 intro J s σ H x y v u Q I D E h;obtain⟨a,b,f,L,rfl,rfl,G,m,B,g,q⟩:=h;cases D;cases E;obtain⟨j,r,pl,_⟩:=I.list m;refine SeqAt.in_listAt (Io H f) pl.isList (λw p=>?_) ⟨.bl _,H,I,rfl,?_⟩
 ·obtain⟨z,o,F⟩:=qY r (by simpa using p)
  obtain⟨c,i,rfl,l,n⟩:=g z o;cases F;have e:Io H f (.ref c)=xO i f:=by
   show(match H c with|some (.tup i)=>xO i f|_=>false)=_;rw[l]
  rw[e];exact sU I C l G n B
 ·rw[show j.toArray.any (Io H f)=j.any (Io H f) by simp,vD r g]
  exact q
end L2
namespace J
section
variable {X:Cx}{N':Yb Yc}{scope:Scope}{cl:Yb (Yc×X4)}{fp:Yb X4}{s3:X5}{H3:Hp}{C:X4}{o i e value:Expr}{es:Yb Expr}{pos Yy:Pos}{td ty tv:TE}
def mB:JX (dv X N' scope cl fp s3 H3 C) (Fi X.K):=⟨AL⟩
def _root_.bE:JX (dv X N' scope cl fp s3 H3 C) (Gk X.K):=⟨Fd⟩
def zy:JC (dv X N' scope cl fp s3 H3 C) .In (Oi X.K false):=⟨L2.iK⟩
def vK{k n:Nat}{u:rF}(e:X.calm=true)(h:Nw (dv X N' scope cl fp s3 H3 C) es u)(f:(assignEach es (dv X N' scope cl fp s3 H3 C).env).length=n:=by rfl)(a:(assignEach es (dv X N' scope cl fp s3 H3 C).env).findIdx? (·.1)=none:=by rfl):
  JG (dv X N' scope cl fp s3 H3 C) (.Tuple es k pos) (Mp X.K n u):=⟨FA (X:=dv X N' scope cl fp s3 H3 C) e h.out f a⟩
def l0(a:X.A.units+1<cLine):JC X .In (λx y H Q=>OA X.K x y H Q):=⟨L2.l0 a⟩
def _root_.aM(f:X.A.units+1<cLine)(a:JE X o td)(j:JE X i ty)(h:dR i):JE X (.Subscript o i pos) (JJ td ty):=⟨Gi f a.out j.out λg e=>h.out g e⟩
def Ek(a:X.A.units+1<cLine)(e:JE X i ty)(f:JE X o td)(hm:behindInMarks .In o=false:=by rfl):JT X (.Compare i [.In] [o] pos) (tB<|IQ ty td):=⟨vJ (ET a e.out f.out) hm⟩
def uf(a:X.A.units+1<cLine)(e:JE X i ty)(f:JE X o td)(hm:behindInMarks .NotIn o=false:=by rfl):JT X (.Compare i [.NotIn] [o] pos) (tB<|Aw ty td):=⟨vJ (CV a e.out f.out) hm⟩
def _root_.bZ(e:X.A.units+1<cLine)(g:JE X o td)(f:JE X i ty)(a:JE X value tv)(h:ie value=false:=by rfl):JS X (.Assign [.Subscript o i Yy] value pos) (JD td ty tv):=⟨GP e g.out f.out a.out<|iz h⟩
def N9:JE X (.Dict [] [] pos) EH:=⟨F2⟩
end
end J
namespace L2
section
variable {X:Cx}
inductive Jx(x y:V)(H:Hp)(Q:VK):Prop
 |mk(a b:X4)(xs ys:Yb V)(h:x=.ref a)(e:y=.ref b)(s:H a=some (.tup xs))(t:H b=some (.tup ys))(f:xs.all dI=true)(g:ys.all dI=true)(q:Q (.bl (xO xs ys)) H)
def vU(M:X.A.units+1<cLine):iU X (compareOp .Eq) (λx y H Q=>Jx x y H Q):=by
 intro N s σ H x y v u Q I E F h;obtain⟨a,b,C,G,rfl,rfl,J,B,D,L,q⟩:=h;cases E;cases F;obtain⟨P,r,pl,_⟩:=I.tuple<|fc.of (K:=X.K) J;obtain⟨w,o,f,_⟩:=I.tuple<|fc.of (K:=X.K) B;refine SeqAt.eq_tupleAt (e:=λi=>tf (C.getD i .non)<|G.getD i .non) pl f (by lia) (λj m l=>?_) ?_
 ·simp only[size_toArray]at m l
  obtain⟨R,p,z⟩:=fZ r m;obtain⟨O,n,g⟩:=fZ o l;simp only[List.getElem_toArray];rw[Tn,Tn,p,n];exact u7 z g (Tv.mp D _<|R4 p)<|Tv.mp L _<|R4 n
 ·simp only[size_toArray]
  rw[<-r.length,<-o.length];exact⟨.bl _,H,I,rfl,q⟩
end
end L2
namespace J
section
variable {X:Cx}{o e f c:Expr}{body:Yb Stmt}{Yo Yn pos:Pos}{td ty tx:TE}{tc:TT}{tb:TS}
def vU(a:X.A.units+1<cLine):JC X .Eq (λx y H Q=>Jx x y H Q):=⟨L2.vU a⟩
def CM{env:Env}(a:notStar e=true)(g:notStar f=true):backTo Yn (starEach [e,f] env)=[(false,eval e env),(false,eval f env)]:=by
 rw[cT a,cT g];rfl
def _root_.cC(a:PassesOwn (model X.prog X.w) X.A X.env X.xe)(e:JT X c tc)(f:wc X body tb):JS X (.While c body [] pos) (Eh tc tb):=⟨FV a e.out f.out⟩
end
end J
namespace L2
section
variable {X:Cx}
inductive GH(K:Frag)(x y:V)(H:Hp)(Q:VK):Prop
 |same (a b:X4)(xs ys:Yb V)(bs:Yb Bool)(g:x=.ref a)(f:y=.ref b)(s:cP K H a xs)(t:cP K H b ys)(j:xs.length=bs.length)(h:ys.length=bs.length)(e:∀(i:Nat) u v c,xs[i]? =some u->ys[i]? =some v->bs[i]? =some c->AK u v=some c)(q:Q (.bl (!(OD bs))) H)
 |other (a b:X4)(xs ys:Yb V)(g:x=.ref a)(f:y=.ref b)(s:cP K H a xs)(t:cP K H b ys)(n:xs.length≠ys.length)(q:Q (.bl true) H)
def pe(Y:X.A.units+1<cLine):iU X (compareOp .NotEq) (λx y H Q=>GH X.K x y H Q):=by
 intro Z s σ H x y v u Q I C D h;obtain ⟨a,b,M,R,bs,rfl,rfl,p,l,l1,l2,S,q⟩|⟨a,b,M,R,rfl,rfl,p,l,n,q⟩:=h
 ·cases C
  cases D;obtain⟨o,r,pl,_⟩:=I.list p;obtain⟨f,g,e,_⟩:=I.list l;have N:=r.length;have F:=g.length;have key:SeqAt.RcNeAt X.A s (.ref a) (.ref b) (!((List.range o.toArray.size).all λi=>bs.getD i false)):=by
   refine SeqAt.RcNeAt.lists pl.isList e.isList (by grind) (by lia) λj B z=>?_;simp only[size_toArray]at B z;obtain⟨W,P,G⟩:=fZ r B;obtain⟨O,J,m⟩:=fZ g z;have T:j<bs.length:=by lia
   have E:=RY T;have U:bs.getD j false=bs[j]:=by rw[Tn,E];rfl
   rw[U];simp only[List.getElem_toArray];exact tH G m<|S j W O _ P J E
  have L:o.toArray.size=bs.length:=by simp only[size_toArray];lia
  rw[L]at key;exact key X.prog X.w X.xe _ ⟨.bl _,H,I,rfl,q⟩
 ·cases C
  cases D;obtain⟨o,r,pl,_⟩:=I.list p;obtain⟨f,g,e,_⟩:=I.list l;have N:=r.length;have F:=g.length;have key:SeqAt.RcNeAt X.A s (.ref a) (.ref b) true:=SeqAt.RcNeAt.lists_lengths pl.isList e.isList (by grind) (by lia);exact key X.prog X.w X.xe _ ⟨.bl _,H,I,rfl,q⟩
def E9:typeLookup (.type "list") "keys" =pure none:=by rw[Wr,VE];kernel_rfl
def fb:plainId "dict.update.loop" =true:=by decide+kernel
def jw:entryFor table "dict.update.loop" =some Builtin.«dict.update.loop» :=entryFor_of_tree (by kernel_rfl)
end
section
variable {prog:X6}{w:X7}{A:X9}{E:Yd}{s:X5}
def rW {a:X4}{o:Obj}{xs:Array X3}{k:Nat}{Q:X8 X3->X5->Prop}(n:s.heap.get? a=some o) (p:o.cls=.type "list") (j:o.data=.seq xs k) (hd:o.dict=none) (x:A.handled=none)
  (h:∀h' l,(∀b u,s.heap.get? b=some u->h'.get? b=some u)->Q none { s with heap:=h',toks:=l }):wpAny (model prog w) A (getAttr? (.ref a) "keys") Q E s:=by
 obtain⟨c,q,r,sl⟩:=o;simp only at p j hd;subst p j hd;obtain⟨y,g,d,l,v⟩:=s;have m:∀i,(⟨y,g,d,i,v⟩:X5).TypeIs (.ref a) "list" :=λ_=>⟨_,n,rfl⟩;have B:=sub_AttributeError;have I:=Vq.lookup;have G:=Vq.bind<|.ref a;have D:=am_list_getattr_none;unfold getAttr? getAttrBy? getAttrBy
 repeat (any_goals (first|assumption|exact m _| ((with_reducible show wpAny _ _ (call (Value.builtin "list.__getattribute__") _ _) _ _ _);refine WV Vq (m _) am_entry_list_getattribute (PySem.F.args_list_getattribute_2 _ _) (meets_getattribute_miss_list a xs k sl "keys" _ E9 (by decide+kernel) (by decide+kernel)) ⟨n,x,λh' i e f=>?_⟩)|wp_step))
 obtain⟨z,C,H⟩:=f.there;unfold getattributeRaised
 repeat (any_goals (first|assumption|wp_step))
 exact h _ _ f.of.keeps
end
theorem jr{α β:Type}{R:α->β->Prop}:∀{xs:Yb α}{us:Yb β},xs.length=us.length->(∀(i:Nat) x v,xs[i]? =some x->us[i]? =some v->R x v)->Paired R xs us
 |[],[],_,_=>.nil
 |_::_,[],h,_=>by cases h
 |[],_::_,h,_=>by cases h
 |x::_,u::_,h,k=>.cons (k 0 x u rfl rfl)<|jr (Ua h) λi y v e a=>k (i+1) y v e a
def zd:typeLookup (.type "list_reverseiterator") "__len__" =pure none:=by rw[Wr,VE];kernel_rfl
def E7:typeLookup (.type "list_reverseiterator") "__length_hint__" =pure (some<|.builtin "list_reverseiterator.__length_hint__"):=by rw[Wr,VE];kernel_rfl
section
variable {prog:X6}{w:X7}{A:X9}{E:Yd}{s:X5}
def Ep{r l:X4}{i:Int}{Q:Bool->X5->Prop}(f:s.heap.IsRevIter r l i)(h:Q false s):wpAny (model prog w) A (Builtin.List.listLengthHint<|.ref r) Q E s:=by
 unfold Builtin.List.listLengthHint;refine RX<|UK f.typeIs zd ?_;refine RX<|UK f.typeIs E7 ?_;generalize e:("list_reverseiterator.__length_hint__" :String)=g
 wp_delta
 rw[show splitId g=some ("list_reverseiterator","__length_hint__") from by subst e;decide+kernel];subst e;refine RX (VI (T:= "list_reverseiterator") (b:=true) f.typeIs (by rw[isSubtype_type];kernel_rfl) ?_);refine SR (λa=>absurd a<|by decide) λ_=>?_;refine SR (λ_=>?_) (λa=>absurd (by decide+kernel) a);refine SR (λa=>absurd a<|by decide+kernel) λ_=>?_;exact RZ h
def zV {R:Result->X5->Prop}{r l:X4}{items:Array X3}(L:A.handled=none) (z:s.heap.IsRevIter r l ((items.size:Int)-1)) (K:s.heap.IsList l items) (J:l≠r) (Q:items.size<=2^24) (S:X4) (x:S≠r) (C:S≠l) (res:X3) (c₀:Nat) (O:s.heap.get? S=some { cls:=.type "list",data:=.seq #[] c₀ })
  (P:∀h' G a h,(∀b o,b≠S->b≠r->s.heap.get? b=some o->h'.get? b=some o)->h'.get? S=some { cls:=.type "list",dict:=none,data:=.seq a h,slots:= #[] }->
   ItemsOf (λi v=>items[items.size-1-i]? =some v) a items.size->R (.ok<|.ret res) { s with heap:=h',toks:=G }):
  wpAny (model prog w) A.in1 (Builtin.List.listExtendWith (.ref S) (.ref r) res)
   (λp s'=>match p with|.done f=>R (.ok f) s'|.again h=>h.quiet=true/\codeAny (model prog w) A h R s') (λe s'=>R (.error e) s') s:=by
 have q:S ∉ [r,l]:=by grind
 have m:s.heap.IsRevIter r l ((items.size:Int)-1-((0:Nat):Int)):=by grind
 have key:codeAny (model prog w) A (.builtin "list.extend.loop" ⟨[.ref S,.ref r,res],[]⟩) R s:=by
  refine codeAny_extend_loopS ((Walks.listRev (prog:=prog) (w:=w) (A:=A.in1) L r l J items).toS) (by rw[Sq];lia) S q res items.size 0 _ #[] c₀ rfl (Tq _) ⟨Tq _,m,K⟩ O (ItemsOf.nil _) λs' a h B y j=>?_;rw[Moved.eq_with B];refine P s'.heap s'.toks a h (λb o E N e=>B.heap b o (λg=>?_) e) y j;obtain I|g:=SS.mp g
  ·exact E I
  ·grind
 unfold Builtin.List.listExtendWith;refine RX<|wpAny_typeOf (T:= "list_reverseiterator") z.typeIs ?_;have H:Builtin.List.listSameRef (.ref S) (.ref r)=false:=by simp[Builtin.List.listSameRef,x]
 have D:(Value.type "list_reverseiterator" == Value.type "list")=false:=by decide
 have M:(Value.type "list_reverseiterator" == Value.type "tuple")=false:=by decide
 simp only[H,D,M,Bool.or_false,false_eq_true,if_false];refine RX<|wpAny_pyIter_revIter z ?_;refine RX<|Tf<|Ep z ?_;refine SR (λn=>absurd n<|by decide+kernel) λ_=>?_;exact RZ ⟨WT PySem.F.plain_extend_loop _,key⟩
def rH{Q:Yd}{r l:X4}{items:Array X3}(N:A.handled=none)(G:s.heap.IsRevIter r l ((items.size:Int)-1))(M:s.heap.IsList l items)(L:l≠r)(J:items.size<=2^24)
  (I:∀h' x a q,(∀b o,b≠r->s.heap.get? b=some o->h'.get? b=some o)->
   h'.get? s.heap.objs.size=some { cls:=.type "list",dict:=none,data:=.seq a q,slots:= #[] }->ItemsOf (λi v=>items[items.size-1-i]? =some v) a items.size->Q (.ref s.heap.objs.size) { s with heap:=h',toks:=x }):
  wpAny (model prog w) A (call (.type "list") [.ref r]) Q E s:=by
 refine callType_codes (Q₁:=λm f=>m=.ref s.heap.objs.size/\f={ s with heap:=s.heap.push { cls:=.type "list",data:=.seq #[] } }) PySem.F.called_list (PySem.F.typeCall_list_1 _) PySem.F.entry_list_init
  (code_list_new _ ⟨rfl,rfl⟩) λm f j=>?_
 obtain⟨rfl,rfl⟩:=j;have p:(s.heap.push { cls:=.type "list",data:=.seq #[] }).get? s.heap.objs.size=some { cls:=.type "list",data:=.seq #[] }:=Sl _ rfl;refine⟨⟨_,p,rfl⟩,PySem.F.args_list_init_2 _ _,RX ?_⟩;unfold Builtin.List.listItems;refine RX<|XS p rfl<|RZ ?_;refine RX<|wpAny_updateSeq p rfl ?_;have h:=UE (Obj.mapSeq λ_=>(#[]:Array X3)) p rfl;have g:∀b o,s.heap.get? b=some o->((s.heap.push { cls:=.type "list",data:=.seq #[] }).update s.heap.objs.size<|Obj.mapSeq λ_=>(#[]:Array X3)).get? b=some o:=
  λb o e=>(U5 _ _<|VH<|Sv e).trans<|R6 _ e
 refine RX<|Xm ?_;obtain⟨P,D,B,O,z⟩:=id M;obtain⟨R,C,_⟩:=id G;exact zV (A:=A.in1) N (G.at λo e=>g _ _ e) ⟨P,g _ _ D,B,O,z⟩ L J _ (VH<|Sv C) (VH<|Sv D) .none _ h λh' x a q K y n=>⟨rfl,I h' x a q (λb o H e=>K b o (Ss<|Sv e) H<|g _ _ e) y n⟩
end
section
variable {X:Cx}
inductive NM(K:Frag)(vs:Yb V)(H:Hp)(Q:VK):Prop
 |mk(p:X4)(xs:Yb V)(e:vs=[.ref p])(s:cP K H p xs)(q:∀l,H l=none->Q (.ref l) (upd H l (.lst xs.reverse)))
def J3(K:Frag)(ta:TA):TE:=λσ H Q=>ta σ H λa H1=>NM K a H1 Q
def xx:bootBuiltins "reversed" =some (.type "reversed"):=by decide+kernel
def BO:bootBuiltins "sorted" =some (.builtin "sorted"):=by decide+kernel
def AW:bootBuiltins "dict" =some (.type "dict"):=by decide+kernel
def Lr:bootBuiltins "sum" =some (.builtin "sum"):=by decide+kernel
def yE {a:Expr}{ta:TA}{p p' pos M:Pos}(hc:X.calm=true) (A:Gl X "list") (z:X.mg "list" =none) (P:Gl X "reversed") (hm:X.mg "reversed" =none) (ha:PA X [a] ta) (hs:starEach [a] X.env=[(false,eval a X.env)]:=by rfl):
  PE X (.Call (.Name "list" p') [.Call (.Name "reversed" p) [a] [] pos] [] M) (J3 X.K ta):=by
 intro Yi s σ H Q I h;refine T6<|jj I A z boot_list ?_;refine TN ?_ rfl rfl;refine T5 <| Call_ (jj I P hm xx<|TN (c9 (ha pos Yi s σ H _ I h) λus g r=>?_) hs rfl);obtain⟨vs,H1,l,N,q,C,e,U,q1⟩:=r;subst e;obtain⟨u,rfl,rx⟩:=vals1 N;cases rx;obtain⟨n,E,pl,Y⟩:=l.list U;have Z:=E.length;have Yu:=Sq;refine call_reversed_list pl.isList<|Vv ?_;have D:∀b o,g.heap.get? b=some o->(g.heap.push<|revObj q<|(n.toArray.size:Int)-1).get? b=some o:=λb o e=>R6 _ e;obtain⟨ol,YV,_⟩:=pl.isList;have ac:=l.hok.fresh<|R9 _;refine rH (s:={ g with heap:=g.heap.push<|revObj q<|(n.toArray.size:Int)-1,toks:=g.toks }) (items:=n.toArray) ((l.kept (t':=g.toks) D).ok.hd hc) ⟨_,Sl _ rfl,rfl,rfl⟩ (pl.isList.push _) (Ss<|Sv YV) (by grind) λS T f O R hS m=>?_;have y:=λb o e=>R b o (Ss<|Sv e)<|D b o e;obtain⟨sz,B⟩:=m;have ab:f.size=n.length:=by simpa using sz
 have W:Vals C.reverse f.toList:=by
  refine qG (by grind) λi x v G J=>?_;rw[Sx]at J;have hi:i<C.length:=by grind
  have F:=B i v J;rw[SI,List.getElem?_toArray]at F;rw[Vl hi]at G;obtain⟨u,L,ru⟩:=E.get G;rw[Z,F]at L;cases L;exact ru
 have j:g.heap.objs.size<=(g.heap.push<|revObj q<|(n.toArray.size:Int)-1).objs.size:=by simp_all
 exact⟨.ref _,_,l.laid (t':=T) y j<|show cV X.prog X.w _ S _ (.lst C.reverse) from ⟨by rw[TM];exact Y,f.toList,O,W,hS⟩,rfl,q1 _<|l.hok.fresh j⟩
end
end L2
namespace J
def pe{X:Cx}(a:X.A.units+1<cLine):JC X .NotEq (λx y H Q=>GH X.K x y H Q):=⟨L2.pe a⟩
def ES {X:Cx}{e:Expr}{t:TA}{p g pos a:Pos}(i:X.calm=true) (B1:Bt X "list") (B2:Bt X "reversed") (f:JA X [e] t) (h:notStar e=true:=by rfl):
  JE X (.Call (.Name "list" g) [.Call (.Name "reversed" p) [e] [] pos] [] a) (J3 X.K t):=⟨yE i B1.gl B1.nm B2.gl B2.nm f.out<|cT h⟩
end J
namespace L2
inductive K7(K:Frag)(x y:V)(H:Hp)(Q:VK):Prop
 |same (a b:X4)(xs ys:Yb V)(bs:Yb Bool)(g:x=.ref a)(f:y=.ref b)(s:cP K H a xs)(t:cP K H b ys)(j:xs.length=bs.length)(h:ys.length=bs.length)(e:∀(i:Nat) u v c,xs[i]? =some u->ys[i]? =some v->bs[i]? =some c->AK u v=some c)(q:Q (.bl (OD bs)) H)
 |other (a b:X4)(xs ys:Yb V)(g:x=.ref a)(f:y=.ref b)(s:cP K H a xs)(t:cP K H b ys)(n:xs.length≠ys.length)(q:Q (.bl false) H)
def Im(o:X.A.units+1<cLine):iU X (compareOp .Eq) (λx y H Q=>K7 X.K x y H Q):=by
 intro w s σ H x y v u Q I p r h;obtain ⟨a,b,i,m,bs,l,g,j,f,z,B,e,q⟩|⟨a,b,i,m,l,g,j,f,n,q⟩:=h
 ·exact MH o w s σ H x y v u Q I p r ⟨a,b,i,m,bs,l,g,j,f,z,B,e,q⟩
 ·exact C4 o w s σ H x y v u Q I p r ⟨a,b,i,m,l,g,j,f,n,q⟩
inductive JY(K:Frag)(x y:V)(H:Hp)(Q:VK):Prop
 |mk(a b:X4)(xs ys:Yb V)(h:x=.ref a)(e:y=.ref b)(s:H a=some (.tup xs))(t:cP K H b ys)(f:xs.all dI=true)(g:∀v∈ys,∃c zs,v=.ref c/\H c=some (.tup zs)/\zs.all dI=true)(q:Q (.bl (!(ys.any (Mr H xs)))) H)
def ic(C:X.A.units+1<cLine):iU X (compareOp .NotIn) (λx y H Q=>JY X.K x y H Q):=by
 intro J s σ H x y v u Q I D E h;obtain⟨a,b,f,L,rfl,rfl,G,m,B,g,q⟩:=h;cases D;cases E;obtain⟨j,r,pl,_⟩:=I.list m;refine SeqAt.notIn_listAt (Io H f) pl.isList (λw p=>?_) ⟨.bl _,H,I,rfl,?_⟩
 ·obtain⟨z,o,F⟩:=qY r (by simpa using p)
  obtain⟨c,i,rfl,l,n⟩:=g z o;cases F;have e:Io H f (.ref c)=xO i f:=by
   show(match H c with|some (.tup i)=>xO i f|_=>false)=_;rw[l]
  rw[e];exact sU I C l G n B
 ·rw[show j.toArray.any (Io H f)=j.any (Io H f) by simp,vD r g]
  exact q
def vS{e d:Expr}{ty a:TE}{pos:Pos}(f:X.A.units+1<cLine)(g:PE X e ty)(h:PE X d a)(hm:behindInMarks .In d=false:=by rfl):PE X (.Compare e [.In] [d] pos) (IQ ty a):=Lg (ET f g h) hm
section
variable {n:Nat}{P:Nat->X3->Prop}{St:Nat->X5->Prop}
def gw(xs ps:Yb (Yb Key×X4×X3)):Yb (Yb Key×X4×X3):=ps.foldl (λa q=>storedH a q.1 q.2.1 q.2.2) xs
def uS(xs ps:Yb (Yb Key×X4×X3))(i:Nat)(q:Yb Key×X4×X3)(h:ps[i]? =some q):gw xs (ps.take<|i+1)=storedH (gw xs<|ps.take i) q.1 q.2.1 q.2.2:=by
 unfold gw;rw[SU,h,WJ];rfl
def zM(xs:Yb (Yb Key×X4×X3))(k:Yb Key)(a:X4)(v:X3):(storedH xs k a v).length<=xs.length+1:=by
 unfold storedH;split
 ·rw[R5]
  exact VP _
 ·rw[R3]
  exact R9 _
theorem qH:∀(ps xs:Yb (Yb Key×X4×X3)),(gw xs ps).length<=xs.length+ps.length
 |[],xs=>R9 _
 |p::r,xs=>by
  have a:=qH r<|storedH xs p.1 p.2.1 p.2.2;have e:=zM xs p.1 p.2.1 p.2.2;show(gw (storedH xs p.1 p.2.1 p.2.2) r).length<=_;rw[Te];lia
theorem Oy:∀(l xs:Yb (Yb Key×X4×X3)) (x:Yb Key×X4×X3),x∈gw xs l->(∃y∈xs,x.2.1=y.2.1)\/∃y∈l,x.2.1=y.2.1
 |[],xs,x,h=>.inl ⟨x,h,rfl⟩
 |p::r,xs,x,h=>by
  obtain ⟨y,a,e⟩|⟨y,a,e⟩:=Oy r (storedH xs p.1 p.2.1 p.2.2) x h
  ·unfold storedH at a
   split at a
   ·obtain⟨z,f,rfl⟩:=SQ.mp a
    refine .inl ⟨z,f,?_⟩;rw[e];unfold putAt;split<;>rfl
   ·grind
  ·grind
def wO{h h':Heap}{k:Yb Key}{a:X4}(e:∀o,h.get? a=some o->h'.get? a=some o)(x:(tupleKind<|cO prog w).is h k a):(tupleKind<|cO prog w).is h' k a:=by
 obtain⟨o,f,m,i,g⟩:=x;exact⟨o,f,m,e _ i,g⟩
def Pb{h:Heap}{k:Yb Key}{a:X4}(x:(tupleKind<|cO prog w).is h k a):a<h.objs.size:=by
 obtain⟨o,f,m,e,g⟩:=x;exact Sv e
def Dg(W:WalksS prog w A.in1 I fp wr G n P St)(D:X4)(H:D ∉ fp)(ps:Yb α)(U N:α->X3)(T:Nat->X4)(hn:ps.length=n)(hP:∀i v,P i v->v=.ref (T i))(h0:Heap)(off:∀b o,h0.get? b=some o->b≠D/\b ∉ wr)(Z:∀(i:Nat) q,ps[i]? =some q->IsTup h0 (T i) #[U q,N q])(f:Nat->Heap->Prop)
  (gD:∀i h h',(∀b o,h0.get? b=some o->h.get? b=some o/\h'.get? b=some o)->(∀o,h.get? D=some o->h'.get? D=some o)->f i h->f i h')
  (put:∀(i:Nat) q (s:X5) E Q,ps[i]? =some q->(∀b o,h0.get? b=some o->s.heap.get? b=some o)->f i s.heap->(∀h' t,f (i+1) h'->Heap.SameBut D s.heap h'->Q () { s with heap:=h',toks:=s.toks+t })->wpAny (model prog w) A.in1 (dictSet D (U q)<|N q) Q E s):
  ∀(m i:Nat) (s:X5),n-i=m->i<=n->St i s->f i s.heap->(∀b o,h0.get? b=some o->s.heap.get? b=some o)->(∀s',Moved (D::wr) G s s'->f n s'.heap->R (.ok<|.ret .none) s')->
   codeAny (model prog w) A (.builtin "dict.update.loop" ⟨[.ref D,.ref I,rawInt i,.none],[]⟩) R s:=by
 have S:∀b∈wr,b∈D::wr:=λb B=>Ta _ B;have X:∀{s s':X5}{i:Nat},Moved wr G s s'->(∀b o,h0.get? b=some o->s.heap.get? b=some o)->f i s.heap->f i s'.heap:=λa l=>gD _ _ _ (λb o e=>⟨l b o e,a.heap b o (off b o e).2<|l b o e⟩) λo=>a.heap D o λh=>H<|W.sub _ h;intro m
 induction m with
 |zero=>
  intro i s Zo hi z C l L;obtain rfl:i=n:=by lia
  refine Vd jw ?_;rw[VM fb _];exact RX<|W.done s _ _ z λs' a=>RX<|RZ<|RZ<|L s' (a.mono S)<|X a l C
 |succ m ih=>
  intro i s Zo hi z C l L;have g:i<n:=by lia
  obtain⟨q,O⟩:∃q,ps[i]? =some q:=⟨_,RY<|by rw[hn];exact g⟩;refine Vd jw ?_;rw[VM fb _];refine RX<|W.item i s _ _ g z λv s' hv y a=>?_;cases hP i v hv;have j:=λb o e=>a.heap b o (off b o e).2<|l b o e;obtain⟨o,ho,hc,c,Y⟩:=Z i q O;have x:=j _ _ ho;refine RX<|Tf<|RX<|wpAny_tryCatch ?_;unfold Builtin.Dict.pairItems;refine RX<|wpAny_typeOf ⟨_,x,hc⟩ ?_;rw[Sb<|by decide];refine RX<|XS x Y<|RZ ?_;refine Tf<|put i q s' _ _ O j (X a l C) λh' t K J=>?_;have M:((i:Int)+1)=((i+1:Nat):Int):=by push_cast;rfl
  refine RZ ⟨WT fb _,?_⟩;rw[M];refine ih (i+1) _ (by lia) g (W.frame _ s' _ _ y (Wh _ _) λb B o e=>?_) K (λb o e=>(J.2 b (off b o e).1).trans<|j b o e) λF r p=>?_
  ·rw[J.2 b<|by grind]
   exact e
  ·refine L F (Moved.trans W.gtrans ((a.mono S).then_heap (Wh _ _) λb o B e=>?_) r) p
   rw[J.2 b<|by grind];exact e
def qX {l:X4}{o:Obj}{items:Array X3}{c:Nat}{Q:Yd}(ps:Yb α) (H G:α->X3) (T:Nat->X4) (P:A.handled=none) (R:s.heap.get? l=some o) (L:o.cls=.type "list") (M:o.data=.seq items c) (hd:o.dict=none) (U:ps.length=items.size)
  (hi:∀(i:Nat) (v:X3),items[i]? =some v->v=.ref (T i)) (W:∀(i:Nat) q,ps[i]? =some q->IsTup s.heap (T i) #[H q,G q]) (p:Nat->Heap->Prop) (new:∀h,h.get? s.heap.objs.size=some { cls:=.type "dict",data:=.dict #[] }->p 0 h)
  (gD:∀i h h',(∀b o,s.heap.get? b=some o->h.get? b=some o/\h'.get? b=some o)->(∀o,h.get? s.heap.objs.size=some o->h'.get? s.heap.objs.size=some o)->p i h->p i h')
  (put:∀(i:Nat) q (s':X5) E Q,ps[i]? =some q->(∀b o,s.heap.get? b=some o->s'.heap.get? b=some o)->p i s'.heap->(∀h' t,p (i+1) h'->Heap.SameBut s.heap.objs.size s'.heap h'->Q () { s' with heap:=h',toks:=s'.toks+t })->wpAny (model prog w) A.in1.in1 (dictSet s.heap.objs.size (H q)<|G q) Q E s')
  (h:∀h' N,p ps.length h'->(∀b o,s.heap.get? b=some o->h'.get? b=some o)->Q (.ref s.heap.objs.size) { s with heap:=h',toks:=N }):
  wpAny (model prog w) A (call (.type "dict") [.ref l]) Q E s:=by
 refine callType_codes (Q₁:=λy j=>y=.ref s.heap.objs.size/\j={ s with heap:=s.heap.push { cls:=.type "dict",data:=.dict #[] } }) PySem.F.kt_called_dict (PySem.F.kt_typeCall_dict_1 _) PySem.F.entry_dict_init (kt_code_dict_new _ ⟨rfl,rfl⟩) ?_;rintro y j ⟨rfl,rfl⟩;have f:=Xs (knd:=cO prog w) s.heap;have n:=R6 { cls:=.type "dict",data:=.dict #[] } R;refine⟨f.typeIs,PySem.F.args_dict_init_2 _ _,?_⟩;unfold Builtin.«dict.__init__»;refine RX ?_;unfold Builtin.Dict.selfAndRest;refine RX<|UL f.typeIs ?_;refine RZ ?_;show wpAny _ _ (Builtin.Dict.updateFrom "dict.__init__" s.heap.objs.size (.ref l) [] .none) _ _ _;unfold Builtin.Dict.updateFrom;refine RX<|wpAny_typeOf ⟨_,n,L⟩ ?_;rw[Sb<|by decide];refine RX<|rW n L M hd P λz N m=>?_;rw[Sb<|show Option.isNone (none:X8 X3)=true from rfl];refine RX<|Ue ?_;have r:z.IsList l items:=⟨o,m _ _ n,L,c,M⟩;have x:∀b u,s.heap.get? b=some u->z.get? b=some u:=λb u e=>m _ _<|R6 _ e;have S:=m _ _<|Sl _ rfl;have O:=Sv S;refine RX<|Vu r ?_;refine RZ ⟨WT fb _,?_⟩;have C:=Sv R;have K:∀(a:X4) (o:Obj),s.heap.get? a=some o->a≠s.heap.objs.size/\a ∉ [z.objs.size]:=λa o e=>by
  have lt:=Sv e;grind
 refine Dg ((XR (show A.in1.in1.handled=none by simp[P]) z.objs.size l (Ss<|Xr C O) items).toS) s.heap.objs.size (by grind) ps H G T U hi s.heap K W p gD put (items.size-0) 0 _ (by lia) (Tq _) ⟨⟨_,Sl _ rfl,rfl,rfl⟩,r.push _⟩ (new _<|R6 _ S) (λb u e=>R6 _<|x b u e) ?_;intro s' B I;obtain⟨g,Y,d',J,D⟩:=s';have X:Y=s.gens:=B.gens;have ed:d'=s.drawn:=B.drawn;have Z:D=s.os:=B.os;subst X ed Z;refine⟨rfl,h g J (U ▸ I) λb u e=>?_⟩;have lt:=Sv e;refine B.heap b u ?_ (R6 _<|x _ _ e);simp only[mem_cons,not_mem_nil,or_false,not_or];exact⟨Ss lt,Ss<|Xr lt O⟩
end
def yV {l:X4}{o:Obj}{items:Array X3}{c:Nat}{Q:Yd}(ps:Yb (Yb Key×X4×X3)) (T:Nat->X4) (N:(tupleKind<|cO prog w).room A.in1.in1) (L:A.handled=none) (a:s.heap.get? l=some o) (Y:o.cls=.type "list") (C:o.data=.seq items c) (hd:o.dict=none) (W:ps.length=items.size) (hb:ps.length<=sizeLine)
  (P:∀(i:Nat)(v:X3),items[i]? =some v->v=.ref (T i))(m:∀(i:Nat) q,ps[i]? =some q->IsTup s.heap (T i) #[.ref q.2.1,q.2.2]/\(tupleKind<|cO prog w).is s.heap q.1 q.2.1)
  (h:∀h' n,h'.DictOfH (tupleKind<|cO prog w) s.heap.objs.size (gw [] ps)->(∀b o,s.heap.get? b=some o->h'.get? b=some o)->Q (.ref s.heap.objs.size) { s with heap:=h',toks:=n }):
  wpAny (model prog w) A (call (.type "dict") [.ref l]) Q E s:=by
 refine qX ps (λq=>.ref q.2.1) (·.2.2) T L a Y C hd W P (λi q e=>(m i q e).1) (λi h=>h.DictOfH (tupleKind<|cO prog w) s.heap.objs.size<|gw []<|ps.take i) (λh e=>⟨_,#[],0,e,⟨rfl,rfl,rfl⟩,rfl,rfl,(λx a=>by cases a),VD⟩) ?_ ?_ λh' n d=>h h' n (by rwa [Tj]at d)
 ·rintro i g g' f F ⟨o,M,S,K,B,O,G,I,R⟩
  refine⟨o,M,S,F _ K,B,O,G,λx a=>wO (λo e=>?_)<|I x a,R⟩;obtain ⟨y,p,_⟩|⟨y,p,J⟩:=Oy _ _ _ a
  ·cases p
  ·obtain⟨j,U⟩:=So (Ub p)
   obtain⟨o',_,_,H,_⟩:=(m j y U).2;rw[J]at e ⊢;have:=f _ _ H;rw[this.1]at e;exact e ▸ this.2
 ·intro i q Z E Q z f D X
  refine wpAny_dictSet_heap N (wO (λo=>f _ o) (m i q z).2) D (λh' r=>X h' _<|by rw[uS [] ps i q z];exact r) ?_;have:=qH (ps.take i) [];have e:(ps.take i).length<=ps.length:=List.length_take_le' _ _;exact SF this (by rw[length_nil,Uq];lia)
def jd(Yj f:Yb (Yb Key×V)):Yb (Yb Key×V):=f.foldl (λe a=>putK e a.1 a.2) Yj
theorem lu:∀(a Yj:Yb (Yb Key×V)),(jd Yj a).length<=Yj.length+a.length
 |[],Yj=>R9 _
 |p::r,Yj=>by
  have e:=lu r<|putK Yj p.1 p.2;have f:=dH Yj p.1 p.2;show(jd (putK Yj p.1 p.2) r).length<=_;rw[Te];lia
def KT.merge{H:Hp}{a:Yb (Yb Key×V)}{rs:Yb (Yb Key×X4×X3)}(r:KT H a rs):∀{Yj:Yb (Yb Key×V)}{xs:Yb (Yb Key×X4×X3)},KT H Yj xs->KT H (jd Yj a) (gw xs rs):=by
 induction r with
 |nil=>exact λq=>q
 | @cons p q ps qs h t ih=>
  intro Yj xs f;have e:KT H (putK Yj p.1 p.2) (storedH xs q.1 q.2.1 q.2.2):=by
   have:=KT.put f p.1 h.2.1 h.2.2;rw[<-h.1];exact this
  exact ih e
inductive JQ(K:Frag)(vs:Yb V)(H:Hp)(Q:VK):Prop
 |mk(p:X4)(xs:Yb V)(Yj:Yb (Yb Key×V))(e:vs=[.ref p])(s:cP K H p xs)(l:xs.length=Yj.length)(t:∀(i:Nat) x kv,xs[i]? =some x->Yj[i]? =some kv->∃a b,x=.ref a/\H a=some (.tup [.ref b,kv.2])/\H b=some (.tup (kv.1.map kV)))(q:∀d,H d=none->Q (.ref d) (upd H d (.dT (jd [] Yj))))
def Lp{A:X9}{k:Nat}(hr:dB k A):A.units+2<cLine:=by
 have:=hr.un;lia
def fN(hu:X.A.units+2<cLine)(hc:X.calm=true):eW X (.type "dict") (λvs H Q=>JQ X.K vs H Q):=by
 intro Yi s σ H vs us Q I r h;obtain⟨p,xs,Yj,rfl,hq,ll,S,q⟩:=h;obtain⟨u,rfl,rx⟩:=vals1 r;cases rx;obtain⟨y,N,⟨o,c,ho,J,hd,YF⟩,hz⟩:=I.list hq;have hl:=N.length;have D:∀i:Nat,∃t:X4×X4×X3,i<y.length->y[i]? =some (.ref t.1)/\∀g,Yj[i]? =some g->IsTup s.heap t.1 #[.ref t.2.1,t.2.2]/\H t.2.1=some (.tup<|g.1.map kV)/\RelV g.2 t.2.2:=λi=>by
  by_cases hi:i<y.length
  ·obtain⟨g,n⟩:∃g,Yj[i]? =some g:=⟨_,RY<|by lia⟩
   obtain⟨x,L⟩:∃x,xs[i]? =some x:=⟨_,RY<|by lia⟩;obtain⟨a,b,rfl,ha,T⟩:=S i x g L n;obtain⟨u,eu,ru⟩:=N.get L;cases ru;obtain⟨Z,rj,tp,_⟩:=I.tuple<|fc.of (K:=X.K) ha;cases rj with
   |cons r1 rest=>
    cases rest with
    |cons r2 m=>
     cases m;cases r1;exact⟨(a,b,_),λ_=>⟨eu,λab e=>by rw[n]at e;cases e;exact⟨tp,T,r2⟩⟩⟩
  ·exact⟨(0,0,.none),λh=>absurd h hi⟩
 obtain⟨f,C⟩:=V1 D;have w:∀(i:Nat) q,(Yj.mapIdx λi g=>(g.1,(f i).2.1,(f i).2.2))[i]? =some q->∃g,Yj[i]? =some g/\q=(g.1,(f i).2.1,(f i).2.2):=λi q e=>by
  rw[XT]at e;obtain⟨g,j,rfl⟩:=Th.mp e;exact⟨g,j,rfl⟩
 have l:∀{i:Nat}{g:Yb Key×V},Yj[i]? =some g->i<y.length:=λe=>by
  have:=(gI0.mp e).1;lia
 have E:(Yj.mapIdx λi g=>(g.1,(f i).2.1,(f i).2.2)).length=Yj.length:=List.length_mapIdx;refine yV (Yj.mapIdx λi g=>(g.1,(f i).2.1,(f i).2.2)) (λi=>(f i).1) hu (I.ok.hd hc) ho J YF hd (by rw[E,SI];lia) (by rw[E];lia) (λi v e=>?_) (λi q e=>?_) λh' W U kp=>?_
 ·have O:y[i]? =some v:=by simpa using e
  have:=(C i (gI0.mp O).1).1;rw[O]at this;exact Sy this
 ·obtain⟨g,j,rfl⟩:=w i q e
  have:=(C i<|l j).2 g j;exact⟨this.1,j6 I.hok this.2.1⟩
 ·have G:KT H Yj (Yj.mapIdx λi g=>(g.1,(f i).2.1,(f i).2.2)):=jr E.symm λi p q j e2=>by
   obtain⟨g,R,rfl⟩:=w i q e2;rw[j]at R;cases R;exact⟨rfl,((C i<|l j).2 _ j).2.1,((C i<|l j).2 _ j).2.2⟩
  have B:=KT.merge G (Yj:=[]) (xs:=[]) .nil;have ml:=lu Yj [];have z:([]:Yb (Yb Key×V)).length=0:=rfl;obtain⟨Y,es,ep,F,h2,h3,h4,_,h5⟩:=U;have P:=I.hok.fresh<|R9 s.heap.objs.size;refine⟨.ref _,_,I.laid (a:=s.heap.objs.size) (o:=.dT<|jd [] Yj) (t':=W) kp (R9 _) ⟨by lia,TZ.mpr<|Ui<|Ss I.big,_,B.keeps λc ys M=>?_,Y,es,ep,F,h2,h3,h4,h5⟩,rfl,q _ P⟩;rw[cI<|cH M P];exact M
end L2
namespace J
section
variable {st:Expr}{ty:TE}{td:TE}{te:TE}{ts:TO}{pos:Pos}{p2:Pos}
def Pc{o f:Expr}{j g:Pos}{l:TE}(p:X.A.units+1<cLine)(n:JE X o td)(he:JE X e ty)(hf:JE X f l)(h:gX o=true:=by rfl)(i:notStar e=true:=by rfl)(a:notStar f=true:=by rfl)(m:(j.endLine==g.line)=true:=by rfl):JE X (.Call (.Attribute o "get" j) [e,f] [] g) (FC td ty l):=
 ⟨En p n.out he.out hf.out ⟨fu h,by rw[CM i a];rfl,m,CM i a⟩⟩
def _root_.cE(a:X.A.units+1<cLine):JC X .Eq (λx y H Q=>K7 X.K x y H Q):=⟨Im a⟩
def ic(a:X.A.units+1<cLine):JC X .NotIn (λx y H Q=>JY X.K x y H Q):=⟨L2.ic a⟩
def vS(a:X.A.units+1<cLine)(f:JE X e ty)(g:JE X d td)(hm:behindInMarks .In d=false:=by rfl):JE X (.Compare e [.In] [d] pos) (IQ ty td):=⟨L2.vS a f.out g.out hm⟩
def fN(e:X.A.units+2<cLine)(a:X.calm=true):JF X (.type "dict") (λvs H Q=>JQ X.K vs H Q):=⟨L2.fN e a⟩
def O4{k1 k2 k3 l v1 v2 h v4:Expr}{t1 a t3 j f g m i:TE}(a1:JE X k1 t1)(o:JE X v1 f)(a2:JE X k2 a)(p:JE X v2 g)(q:JE X k3 t3)(r:JE X h m)(n:JE X l j)(s:JE X v4 i):
  JE X (.Dict [some k1,some k2,some k3,some l] [v1,v2,h,v4] pos) (Ky [(t1,f),(a,g),(t3,m),(j,i)]):=
 ⟨GJ (jZ a1.out o.out<|jZ a2.out p.out<|jZ q.out r.out<|jZ n.out s.out BB) rfl rfl (λe=>by cases e)<|by show 4<=15;decide⟩
end
end J
namespace TS
def pH:Bool->Keyed->Array Keyed->Nat->Nat->Nat->StateT SortSt Sem (X8 Nat):=sortPriv% PySem.Builtin.gallop
def key(κ:KeyKind)(p:Keyed):κ.α:=(κ.keyOf p.1).getD κ.dflt
def kN(κ:KeyKind)(p:Keyed):Prop:=∃a,κ.keyOf p.1=some a
def kh(prog:X6)(w:X7)(A:X9)(E:Yd)(s:X5)(κ:KeyKind)(e:SortKind):Prop:=
 ∀(x y:Keyed) (a:SortSt) (Q:X8 Bool->SortSt->Prop),kindOf a=e->kN κ x->kN κ y->Q (some<|κ.blt (key κ x)<|key κ y) a->wpS (model prog w) A E s (lt' x y) Q a
section
variable {prog:X6}{w:X7}{A:X9}{E:Yd}{s:X5}{κ:KeyKind}{kd:SortKind}
def cY{f:Keyed->StateT SortSt Sem β}(h:arr[i]? =some x)(q:wpS (model prog w) A E s (f x) Q zt):wpS (model prog w) A E s (elem' arr i >>= f) Q zt:=SW (by
 rw[elem'_eq,h];exact Si q)
def kh.b{f:X8 Bool->StateT SortSt Sem β}(a:kh prog w A E s κ kd)(e:kindOf zt=kd)(g:kN κ x)(h:kN κ y)(q:wpS (model prog w) A E s (f<|some<|κ.blt (key κ x)<|key κ y) Q zt):wpS (model prog w) A E s (lt' x y >>= f) Q zt:=SW<|a x y zt _ e g h q
def cS [Decidable c]{e a:StateT SortSt Sem β}(f:c->wpS (model prog w) A E s e Q zt)(g:¬c->wpS (model prog w) A E s a Q zt):wpS (model prog w) A E s (if c then e else a) Q zt:=by grind
def dN{x y:Nat}{e a:StateT SortSt Sem β}(f:x=y->wpS (model prog w) A E s e Q zt)(g:x≠y->wpS (model prog w) A E s a Q zt):wpS (model prog w) A E s (if(x==y)=true then e else a) Q zt:=by grind
def eS{f:X8 ρ×τ->StateT SortSt Sem β}(J:Nat->τ->SortSt->Prop)(R:τ->SortSt->Prop)(e:ρ->SortSt->Prop)(h:J a t zt)
  (u:∀t i zt,i<b->J i t zt->∀Q:ForInStep (X8 ρ×τ)->SortSt->Prop,(∀r t zt,e r zt->Q (.done (some r,t)) zt)->(∀t zt,R t zt->Q (.done (none,t)) zt)->(∀t zt,J (i+1) t zt->Q (.yield (none,t)) zt)->wpS (model prog w) A E s (g i (none,t)) Q zt)
  (d:∀t zt,J (max a b) t zt->R t zt)(j:∀r t zt,e r zt->wpS (model prog w) A E s (f (some r,t)) Q zt)(p:∀t zt,R t zt->wpS (model prog w) A E s (f (none,t)) Q zt):wpS (model prog w) A E s (forIn [a:b] (none,t) g >>= f) Q zt:=
 SW (wpS_mono (wpS_forRange (Q:=λc zt=>wpS (model prog w) A E s (f c) Q zt) (λi c zt=>c.1=none/\J i c.2 zt) (by
  rintro i ⟨_,t⟩ zt _ l ⟨⟨⟩,h⟩;exact u t i zt l h _ j p λ_ _ h=>⟨rfl,h⟩) (by
  rintro⟨_,t⟩ zt ⟨⟨⟩,h⟩;exact p t zt<|d t zt h) ⟨rfl,h⟩) λ_ _ h=>h)
def Ls(κ:KeyKind)(left:Bool)(k x:Keyed):Bool:=if left then κ.blt (key κ x) (key κ k) else !(κ.blt (key κ k)<|key κ x)
def Ij{f:X8 Bool->StateT SortSt Sem β}(h:kh prog w A E s κ kd)(a:kindOf zt=kd)(e:kN κ k)(j:arr[i]? =some x)(g:kN κ x)(q:wpS (model prog w) A E s (f<|some<|Ls κ left k x) Q zt):
  wpS (model prog w) A E s ((elem' arr i >>= λx=>if left=true then lt' x k else lt' k x >>= λr=>pure<|Option.map (λy=> !y) r) >>= f) Q zt:=by
 refine SW<|cY j ?_;cases left with
 |true=>exact h x k zt _ a g e q
 |false=>exact h.b a e g<|Si q
def mid{a b:Nat}(h:a<b):a<=a+(b-a) / 2/\a+(b-a) / 2<b:=by lia
def zK(hL:kh prog w A E s κ kd){left:Bool}{k:Keyed}{arr:Array Keyed}{base n a:Nat}{zt:SortSt}{Q:X8 Nat->SortSt->Prop}(hk:kindOf zt=kd)(kk:kN κ k)(f:Nat->Bool)(hf:∀i,i<n->∃x,arr[base+i]? =some x/\kN κ x/\Ls κ left k x=f i)(mono:∀i j,i<=j->j<n->f j=true->f i=true)(W:a<n)
  (q:∀m,m<=n->(∀i,i<m->f i=true)->(∀i,m<=i->i<n->f i=false)->Q (some m) zt):wpS (model prog w) A E s (pH left k arr base n a) Q zt:=by
 have beyond:∀{β}{i:Nat}{g:X8 Bool->StateT SortSt Sem β}{Q:β->SortSt->Prop},i<n->wpS (model prog w) A E s (g<|some<|f i) Q zt->wpS (model prog w) A E s ((elem' arr (base+i) >>= λx=>if left=true then lt' x k else lt' k x >>= λr=>pure<|Option.map (λy=> !y) r) >>= g) Q zt:=λ{β i g Q} z hR=>by
  obtain⟨x,M,Z,e⟩:=hf i z;exact Ij hL hk kk M Z<|e ▸ hR
 have up:∀i j,i<=j->j<n->f i=false->f j=false:=λi j l J p=>by
  cases h:f j with
  |false=>rfl
  |true=>rw[mono i j l J h]at p;cases p
 refine beyond W ?_;dsimp -zeta only
 extract_lets -underBinder+onlyGivenNames jp
 suffices Y:∀X o N z,N<=z->z<=n->(∀i,i<N->f i=true)->(∀i,z<=i->i<n->f i=false)->wpS (model prog w) A E s (jp () X o N z) Q zt by
  clear_value jp
  refine cS (λhr=>?_) λhr=>?_
  ·refine eS (λx t B=>zt=B/\t.1<t.2/\x+1<=t.2/\a+t.1<n/\f (a+t.1)=true) (λt B=>zt=B/\t.1<t.2/\a+t.1<n/\f (a+t.1)=true/\(n-a<=t.2\/(a+t.2<n/\f (a+t.2)=false))) (λ_ _=>False) ⟨rfl,Nat.zero_lt_one,R9 1,W,hr⟩ ?_ ?_ nofun ?_
   ·rintro t x _ M ⟨rfl,l,J,p,v⟩ Q q1 K L
    exact cS (λF=>Si<|K _ _ ⟨rfl,l,p,v,.inl F⟩) λF=>beyond (by lia) (cS (λG=>Si<|K _ _ ⟨rfl,l,p,v,.inr ⟨by lia,by grind⟩⟩) λG=>Si<|L _ _ ⟨rfl,by lia,by lia,by lia,by grind⟩)
   ·rintro t _ ⟨rfl,l,J,p,v⟩
    exact⟨rfl,l,p,v,.inl<|by lia⟩
   ·rintro t _ ⟨rfl,l,p,v,C⟩
    exact Y _ _ _ _ (by clear C;lia) (by clear C;lia) (λi z=>mono i _ (WK z) p v) λi T O=>by
     obtain C|⟨C,U⟩:=C
     ·lia
     ·exact up _ i (by lia) O U
  ·refine eS (λx t B=>zt=B/\t.1<t.2/\x+1<=t.2/\t.1<=a/\f (a-t.1)=false) (λt B=>zt=B/\t.1<t.2/\t.1<=a/\f (a-t.1)=false/\(a+1<=t.2\/(t.2<=a/\f (a-t.2)=true))) (λ_ _=>False) ⟨rfl,Nat.zero_lt_one,R9 1,Tq _,Td.mpr hr⟩ ?_ ?_ nofun ?_
   ·rintro t x _ M ⟨rfl,l,J,p,v⟩ Q q1 K L
    exact cS (λF=>Si<|K _ _ ⟨rfl,l,p,v,.inl F⟩) λF=>beyond (by lia) (cS (λG=>Si<|K _ _ ⟨rfl,l,p,v,.inr ⟨by lia,G⟩⟩) λG=>Si<|L _ _ ⟨rfl,by lia,by lia,by lia,Td.mpr G⟩)
   ·rintro t _ ⟨rfl,l,J,p,v⟩
    exact⟨rfl,l,p,v,.inl<|by lia⟩
   ·rintro t _ ⟨rfl,l,p,v,C⟩
    exact Y _ _ _ _ (by clear C;lia) (by lia) (λi T=>by
     obtain C|⟨C,U⟩:=C
     ·lia
     ·exact mono i _ (by lia) (by lia) U) λi T O=>up _ i T O v
 intro X o N z R D H I;refine eS (λx t B=>zt=B/\t.1<=t.2/\t.2<=n/\x+t.2<=n+t.1/\(∀i,i<t.1->f i=true)/\(∀i,t.2<=i->i<n->f i=false)) (λt B=>zt=B/\t.2<=n/\(∀i,i<t.2->f i=true)/\(∀i,t.2<=i->i<n->f i=false)) (λ_ _=>False) ⟨rfl,R,D,by lia,H,I⟩ ?_ ?_ nofun ?_
 ·rintro t x _ M ⟨rfl,R,D,g3,H,I⟩ Q q1 K L
  refine cS (λF=>Si<|K _ _ ⟨rfl,D,λi z=>H i<|SA z F,I⟩) λF=>?_
  extract_lets -underBinder+onlyGivenNames m
  have G:t.1<=m/\m<t.2:=mid<|V2 F
  clear_value m
  have S:=SA G.2 D;exact beyond S (cS (λb=>Si<|L _ _ ⟨rfl,G.2,D,by lia,λi P=>mono i _ (WK P) S b,I⟩) λb=>Si<|L _ _ ⟨rfl,G.1,Vo S,by lia,H,λi l J=>up _ i l J<|Td.mpr b⟩)
 ·rintro t _ ⟨rfl,R,D,g3,H,I⟩
  exact⟨rfl,D,λi z=>H i<|by lia,I⟩
 ·rintro t _ ⟨rfl,D,H,I⟩
  exact Si<|q _ D H I
end
variable {κ:KeyKind}
def dM(κ:KeyKind)(l:Yb Keyed):Prop:=l.Pairwise λx y=>κ.kle (key κ x)<|key κ y
def OQ(κ:KeyKind)(v:κ.α)(p:Keyed):Bool:= !κ.blt (key κ p) v && !κ.blt v (key κ p)
def fk(κ:KeyKind)(v:κ.α)(l:Yb Keyed):Yb Keyed:=l.filter<|OQ κ v
def Below(κ:KeyKind)(l m:Yb Keyed):Prop:=∀x∈l,∀y∈m,κ.kle (key κ x)<|key κ y
def Under(κ:KeyKind)(l m:Yb Keyed):Prop:=∀x∈l,∀y∈m,κ.klt (key κ x)<|key κ y
def cX(κ:KeyKind)(l m:Yb Keyed):Prop:=∀v,fk κ v l=fk κ v m
def Under.below(h:Under κ l m):Below κ l m:=λx a y e=>KeyOrd.kle_of_klt<|h x a y e
def kF(v:κ.α)(l m:Yb Keyed):fk κ v (l++m)=fk κ v l++fk κ v m:=T7 ..
def yk(p:Keyed):OQ κ (key κ p) p=true:=by
 unfold OQ;rw[κ.irrefl];rfl
def DM(h:OQ κ v p=true):key κ p=v:=by
 unfold OQ at h;rw[Uj,UX,UX]at h;exact κ.total _ _ h.1 h.2
def cX.refl(l:Yb Keyed):cX κ l l:=λ_=>rfl
def cX.trans(h:cX κ l m)(h':cX κ m n):cX κ l n:=λv=>(h v).trans<|h' v
def cX.append(h:cX κ l l')(h':cX κ m m'):cX κ (l++m) (l'++m'):=λv=>by
 rw[kF,kF,h v,h' v]
def cX.perm(h:cX κ l m):l.Perm m:=by
 classical
 refine List.perm_iff_count.mpr λx=>?_;have e:=SY (List.count x)<|h<|key κ x;unfold fk at e
 rwa [List.count_filter<|yk x,List.count_filter<|yk x]at e
def cX.mem(h:cX κ l m):x∈l↔x∈m:=h.perm.mem_iff
def cX.swap(h:Under κ l m):cX κ (l++m) (m++l):=λv=>by
 rw[kF,kF];by_cases e:fk κ v l=[]
 ·grind
 ·obtain⟨x,n⟩:=List.exists_mem_of_ne_nil _ e
  obtain⟨i,f⟩:=Su.mp n;have o:fk κ v m=[]:=List.eq_nil_iff_forall_not_mem.mpr λy g=>by
   obtain⟨a,j⟩:=Su.mp g;have:=h x i y a;rw[DM f,DM j]at this;unfold KeyOrd.klt at this;rw[κ.irrefl]at this;cases this
  grind
def dM.append(h:dM κ l)(h':dM κ m)(b:Below κ l m):dM κ (l++m):=Vw.mpr ⟨h,h',b⟩
def dM.left(h:dM κ (l++m)):dM κ l:=(Vw.mp h).1
def dM.right(h:dM κ (l++m)):dM κ m:=(Vw.mp h).2.1
def dM.mid(h:dM κ (l++m)):Below κ l m:=(Vw.mp h).2.2
def dM.drop(h:dM κ l)(i:Nat):dM κ (l.drop i):=Wb (List.drop_sublist i l) h
def Below.append(h:Below κ l n)(h':Below κ m n):Below κ (l++m) n:=λx a=>(Sz.mp a).elim (h x)<|h' x
def Below.left(h:Below κ l (m++n)):Below κ l m:=λx a y e=>h x a y<|SM _ e
def Below.right(h:Below κ l (m++n)):Below κ l n:=λx a y e=>h x a y<|Sg _ e
def Below.nil:Below κ l []:=λ_ _ _ h=>by cases h
def qS(l:Yb Keyed)(i k:Nat):l.drop i=(l.drop i).take k++l.drop (i+k):=by
 rw[<-drop_drop,Tg]
structure kg(κ:KeyKind)(al bl out:Yb Keyed)(ia ib:Nat):Prop where
 so:dM κ out
 oa:Below κ out (al.drop ia)
 ob:Below κ out (bl.drop ib)
 zt:cX κ (out++(al.drop ia++bl.drop ib)) (al++bl)
def kg.zQ(f:dM κ al)(h:kg κ al bl out ia ib)(b:Below κ ((al.drop ia).take k) (bl.drop ib)):kg κ al bl (out++(al.drop ia).take k) (ia+k) ib:=by
 have s:=f.drop ia;have a:=h.oa;have e:=h.zt;rw[qS al ia k]at s a e;refine⟨h.so.append s.left a.left,a.right.append s.mid,h.ob.append b,?_⟩;grind
def kg.zu(f:dM κ bl)(h:kg κ al bl out ia ib)(b:Under κ ((bl.drop ib).take k) (al.drop ia)):kg κ al bl (out++(bl.drop ib).take k) ia (ib+k):=by
 have s:=f.drop ib;have a:=h.ob;have e:=h.zt;rw[qS bl ib k]at s a e;refine⟨h.so.append s.left a.left,h.oa.append b.below,a.right.append s.mid,cX.trans ?_ e⟩;rw[R8];refine(cX.refl _).append ?_;rw[<-R8,<-R8];exact(cX.swap b).append (cX.refl _)
def kg.done(f:dM κ al)(a:dM κ bl)(h:kg κ al bl out ia ib)(e:al.drop ia=[]\/bl.drop ib=[]):dM κ (out++al.drop ia++bl.drop ib)/\cX κ (out++al.drop ia++bl.drop ib) (al++bl):=by
 refine⟨?_,by rw[R8];exact h.zt⟩;obtain e|e:=e
 ·rw[e,SH]
  exact h.so.append (a.drop ib) h.ob
 ·rw[e,SH]
  exact h.so.append (f.drop ia) h.oa
def kg.last(e:dM κ al)(a:dM κ bl)(h:kg κ al bl out ia ib)(u:Under κ (bl.drop ib) (al.drop ia)):dM κ (out++bl.drop ib++al.drop ia)/\cX κ (out++bl.drop ib++al.drop ia) (al++bl):=by
 refine⟨(h.so.append (a.drop ib) h.ob).append (e.drop ia)<|h.oa.append u.below,cX.trans ?_ h.zt⟩;rw[R8];exact(cX.refl _).append (cX.swap u)
def Fx:Array Keyed->Array Keyed->StateT SortSt Sem (Array Keyed):=sortPriv% PySem.Builtin.mergeLo
section
variable {prog:X6}{w:X7}{A:X9}{E:Yd}{s:X5}{kd:SortKind}
structure Kept(zt Yk:SortSt):Prop where
 kind:kindOf Yk=kindOf zt
 arr:arrOf Yk=arrOf zt
 pend:pendingOf Yk=pendingOf zt
 failed:failedOf Yk=failedOf zt
def Kept.refl(zt:SortSt):Kept zt zt:=⟨rfl,rfl,rfl,rfl⟩
def Kept.trans(h:Kept a b)(h':Kept b c):Kept a c:=⟨h'.kind.trans h.kind,h'.arr.trans h.arr,h'.pend.trans h.pend,h'.failed.trans h.failed⟩
def rT:Nat->StateT SortSt Sem Unit:=sortPriv% PySem.Builtin.setMinGallop
def mE{f:Unit->StateT SortSt Sem β}(q:∀a,Kept zt a->wpS (model prog w) A E s (f ()) Q a):wpS (model prog w) A E s (rT g >>= f) Q zt:=SW (by
 exact Wk<|q _ ⟨rfl,rfl,rfl,rfl⟩)
def AX{l:Yb Keyed}{b m:Nat}{x:Keyed}:x∈(l.drop b).take m↔∃i,i<m/\l[b+i]? =some x:=by
 constructor
 ·intro h
  obtain⟨i,a⟩:=So h;have e:=(gI0.mp a).1;rw[Tp]at e;rw[Uh<|by lia,Va]at a;exact⟨i,by lia,a⟩
 ·rintro⟨i,h1,h2⟩
  refine R4 (i:=i) ?_;rw[Uh h1,Va];exact h2
def dM.at{l:Yb Keyed}(h:dM κ ((l.drop b).take n))(r:i<=j)(p:j<n)(f:l[b+i]? =some x)(a:l[b+j]? =some y):κ.kle (key κ x) (key κ y):=by
 by_cases e:i=j
 ·subst e
  rw[f]at a;cases a;exact UY _
 ·have o:((l.drop b).take n)[i]? =some x:=by rw[Uh<|by lia,Va];exact f
  obtain⟨g,q⟩:=gI0.mp o;obtain⟨m,s⟩:=gI0.mp (by rw[Uh p,Va];exact a);have:=VQ.mp h i j g m (by lia);grind
def Am(F:kh prog w A E s κ kd){left:Bool}{k:Keyed}{arr:Array Keyed}{base n o:Nat}{zt:SortSt}{Q:X8 Nat->SortSt->Prop}(C:kindOf zt=kd)(D:kN κ k)(B:∀x∈arr.toList,kN κ x)(sz:base+n<=arr.size)(ss:dM κ ((arr.toList.drop base).take n))(G:o<n)
  (q:∀m,m<=n->(∀x∈(arr.toList.drop base).take m,Ls κ left k x=true)->(∀x∈(arr.toList.drop<|base+m).take (n-m),Ls κ left k x=false)->Q (some m) zt):wpS (model prog w) A E s (pH left k arr base n o) Q zt:=by
 have h:∀i,i<n->∃x,arr.toList[base+i]? =some x/\kN κ x:=λi f=>by
  have:base+i<arr.toList.length:=by rw[Sm];lia
  exact⟨_,RY this,B _<|UN this⟩
 refine zK F C D (λi=>match arr.toList[base+i]? with|some x=>Ls κ left k x|none=>false) (λi f=>?_) (λi j z p g=>?_) G λm I H v=>q m I (λx e=>?_) λx e=>?_
 ·obtain⟨x,e,l⟩:=h i f
  exact⟨x,by rw[<-e,Sx],l,by rw[e]⟩
 ·obtain⟨x,e,l⟩:=h i (by lia)
  obtain⟨y,r,K⟩:=h j p;have le:=ss.at z p e r;rw[r]at g;rw[e];dsimp only at g ⊢;cases left with
  |true=>exact WD le<|show κ.klt _ _ from g
  |false=>
   have J:κ.blt (key κ k) (key κ y)=false:=by
    have:(!κ.blt (key κ k) (key κ y))=true:=g
    rwa [UX]at this
   have:κ.kle (key κ x) (key κ k):=Vm le J;show(!κ.blt (key κ k) (key κ x))=true;rw[UX];exact this
 ·obtain⟨i,f,a⟩:=AX.mp e
  have:=H i f
  rwa [a]at this
 ·obtain⟨i,f,a⟩:=AX.mp e
  rw[Nat.add_assoc]at a;have:=v (m+i) (by lia) (by lia)
  rwa [a]at this
def fP(l:Yb Keyed)(b:Nat){n:Nat}(h:l.length-b<=n):(l.drop b).take n=l.drop b:=TJ (by rw[T3];exact h)
def pO{f:X8 Nat->StateT SortSt Sem β}(r:kh prog w A E s κ kd)(h:kindOf zt=kd)(i:kN κ k)(p:∀x∈arr.toList,kN κ x)(sz:base+n<=arr.size)(ss:dM κ ((arr.toList.drop base).take n))(l:Yw<n)
  (q:∀m,m<=n->Below κ ((arr.toList.drop base).take m) [k]->Under κ [k] ((arr.toList.drop<|base+m).take<|n-m)->wpS (model prog w) A E s (f<|some m) Q zt):wpS (model prog w) A E s (pH false k arr base n Yw >>= f) Q zt:=
 SW (Am r h i p sz ss l λm g o j=>q m g (λx e y a=>by
  cases Sd.mp a;have:=o x e;unfold Ls at this;rw[R7 bF0,UX]at this;exact this) (λy a x e=>by
  cases Sd.mp a;have:=j x e;unfold Ls at this;rw[R7 bF0,Wu]at this;exact this))
def qL{f:X8 Nat->StateT SortSt Sem β}(r:kh prog w A E s κ kd)(h:kindOf zt=kd)(i:kN κ k)(p:∀x∈arr.toList,kN κ x)(sz:base+n<=arr.size)(ss:dM κ ((arr.toList.drop base).take n))(l:Yw<n)
  (q:∀m,m<=n->Under κ ((arr.toList.drop base).take m) [k]->Below κ [k] ((arr.toList.drop<|base+m).take<|n-m)->wpS (model prog w) A E s (f<|some m) Q zt):wpS (model prog w) A E s (pH true k arr base n Yw >>= f) Q zt:=
 SW (Am r h i p sz ss l λm g o j=>q m g (λx e y a=>by
  cases Sd.mp a;exact o x e) (λy a x e=>by
  cases Sd.mp a;exact j x e))
def jN(κ:KeyKind)(a b r:Array Keyed):Prop:=dM κ r.toList/\cX κ r.toList (a.toList++b.toList)
def mG(a:Array Keyed)(i:Nat):(a.extract i a.size).toList=a.toList.drop i:=by
 rw[Vx];exact fP _ _ (by rw[Sm];exact R9 _)
def qa(a:Array Keyed)(i k:Nat):(a.extract i<|i+k).toList=(a.toList.drop i).take k:=by simp_all
def gA{a:Array Keyed}(h:a[i]? =some x):a.toList.drop i=x::a.toList.drop (i+1):=by
 rw[<-Sx]at h;obtain⟨e,f⟩:=gI0.mp h;rw[Xa e,f]
def dM.head(h:dM κ (x::l)):Below κ [x] (x::l):=λa f b e=>by
 cases Sd.mp f;obtain rfl|e:=SS.mp e
 ·exact UY _
 ·exact(List.pairwise_cons.mp h).1 b e
def Under.over(h:Under κ l [k])(b:Below κ [k] m):Under κ l m:=λx a y e=>UA (h x a k<|SK _)<|b k (SK _) y e
def Below.over(h:Below κ l [k])(b:Below κ [k] m):Below κ l m:=λx a y e=>Vm (h x a k<|SK _)<|b k (SK _) y e
section
variable {a:Array Keyed}{b:Array Keyed}{out:Array Keyed}{ia:Nat}{ib:Nat}(sa:dM κ a.toList)(sb:dM κ b.toList)
include sa sb
def kg.qD(h:kg κ a.toList b.toList out.toList ia ib)(e:a.size<=ia\/b.size<=ib):jN κ a b (out++a.extract ia a.size++b.extract ib b.size):=by
 unfold jN;rw[Ul,Ul,mG,mG];exact h.done sa sb (e.imp (λe=>Xv<|by omega) λe=>Xv<|by omega)
def kg.IB(h:kg κ a.toList b.toList out.toList ia ib)(u:Under κ (b.toList.drop ib) (a.toList.drop ia)):jN κ a b (out++b.extract ib b.size++a.extract ia a.size):=by
 unfold jN;rw[Ul,Ul,mG,mG];exact h.last sa sb u
omit sa in
def kg.tX{x:Keyed}(h:kg κ a.toList b.toList out.toList ia ib)(f:b[ib]? =some x)(u:Under κ [x] (a.toList.drop ia)):kg κ a.toList b.toList (out.push x).toList ia (ib+1):=by
 rw[toList_push];have e:(b.toList.drop ib).take 1=[x]:=by rw[gA f];rfl
 have:=h.zu sb (by rw[e];exact u)
 rwa [e]at this
omit sb in
def kg.tY{x:Keyed}(h:kg κ a.toList b.toList out.toList ia ib)(f:a[ia]? =some x)(u:Below κ [x] (b.toList.drop ib)):kg κ a.toList b.toList (out.push x).toList (ia+1) ib:=by
 rw[toList_push];have e:(a.toList.drop ia).take 1=[x]:=by rw[gA f];rfl
 have:=h.zQ sa (by rw[e];exact u)
 rwa [e]at this
end
structure LI(κ:KeyKind)(a b:Array Keyed)(zt:SortSt)(out:Array Keyed)(ia ib t:Nat)(Yk:SortSt):Prop where
 kp:Kept zt Yk
 m:kg κ a.toList b.toList out.toList ia ib
 la:ia+1<a.size
 lb:ib<b.size
 t:t<=ia+ib
def hJ{a:Array Keyed}(h:i<a.size):∃x,a[i]? =some x/\x∈a.toList:=⟨_,getElem?_pos a i h,by simp⟩
def kg.La{a b out:Array Keyed}(e:dM κ a.toList)(h:kg κ a.toList b.toList out.toList ia ib)(u:Below κ ((a.toList.drop ia).take k) (b.toList.drop ib)):kg κ a.toList b.toList (out++a.extract ia (ia+k)).toList (ia+k) ib:=by
 rw[Ul,qa];exact h.zQ e u
def kg.Me{a b out:Array Keyed}(e:dM κ b.toList)(h:kg κ a.toList b.toList out.toList ia ib)(u:Under κ ((b.toList.drop ib).take k) (a.toList.drop ia)):kg κ a.toList b.toList (out++b.extract ib (ib+k)).toList ia (ib+k):=by
 rw[Ul,qa];exact h.zu e u
def xq(a:Array Keyed){i m n:Nat}(h:a.size-i<=n)(hm:m<=n):(a.toList.drop<|i+m).take (n-m)=a.toList.drop (i+m):=fP _ _ (by rw[Sm,<-Nat.sub_sub];exact Nat.sub_le_sub_right h m)
def LI.le(h:LI κ a b zt o i j y Yk)(l:x<=y):LI κ a b zt o i j x Yk:=⟨h.kp,h.m,h.la,h.lb,SF l h.t⟩
def nH{f:Unit->StateT SortSt Sem β}(h:wpS (model prog w) A E s (f ()) Q zt):wpS (model prog w) A E s ((rule t:StateT SortSt Sem Unit) >>= f) Q zt:=SW<|wpS_lift<|Ue ⟨rfl,h⟩
def xS(hL:kh prog w A E s κ kd){a b:Array Keyed}(hk:kindOf zt=kd)(ka:∀x∈a.toList,kN κ x)(kb:∀x∈b.toList,kN κ x)(z:dM κ a.toList)(p:dM κ b.toList)(a1:1<=a.size)(b1:1<=b.size)(u1:Under κ (b.toList.take 1) a.toList)(u2:Under κ b.toList (a.toList.drop<|a.size-1))
  (q:∀r g,Kept zt g->jN κ a b r->Q r g):wpS (model prog w) A E s (Fx a b) Q zt:=by
 have M:∀{i:Nat}{x:Keyed},a[i]? =some x->Below κ [x] (a.toList.drop i):=λ{i x} F=>by
  have h:=z.drop i;rw[gA F]at h ⊢;exact h.head
 have N:∀{i:Nat}{x:Keyed},b[i]? =some x->Below κ [x] (b.toList.drop i):=λ{i x} F=>by
  have h:=p.drop i;rw[gA F]at h ⊢;exact h.head
 have J:∀{i:Nat}(j:Nat),i+1=a.size->Under κ (b.toList.drop j) (a.toList.drop i):=λ{i} j e x F y W=>u2 x (Wi F) y (by rwa [<-e]);obtain⟨b0,R,ap⟩:=hJ b1;have m0:kg κ a.toList b.toList (#[b0]:Array Keyed).toList 0 1:=by
  have h0:kg κ a.toList b.toList (#[]:Array Keyed).toList 0 0:=⟨List.Pairwise.nil,(λ_ h=>by cases h),(λ_ h=>by cases h),cX.refl _⟩;refine h0.tX p R ?_;have e:b.toList.take 1=[b0]:=by
   have:=gA R;grind
  rwa [e]at u1
 refine nH<|cY R<|dN (λc1=>Si<|q _ zt (Kept.refl _)<|m0.qD z p<|.inr<|Um c1.symm) λc1=>dN (λP=>Si<|q _ zt (Kept.refl _)<|m0.IB z p<|J _ P) λP=>SW<|Wv ?_;refine eS (λx t g=>LI κ a b zt t.1 t.2.1 t.2.2.1 x g) (λ_ _=>False) (λr g=>Kept zt g/\jN κ a b r) ⟨Kept.refl _,m0,by lia,by lia,Tq _⟩ (λt x aq F f Q q1 q2 U=>?_) (λt g f=>by
  have:=f.t;have:=f.la;have:=f.lb;lia) (λr t g h=>Si<|q r g h.1 h.2) nofun
 refine eS (λy t g=>LI κ a b zt t.1 t.2.1 t.2.2.1 (x+y) g) (λt g=>LI κ a b zt t.1 t.2.1 t.2.2.1 (x+1) g) (λr g=>Kept zt g/\jN κ a b r) f (λt y YE W f Q q1 q2 U=>?_) (λt g f=>by
  have:=f.t;have:=f.la;have:=f.lb;lia) (λr t g h=>Si<|q1 r _ g h) λt YE f=>?_
 ·obtain⟨Y,l,T⟩:=hJ f.lb
  obtain⟨xa,I,aj⟩:=hJ<|VT f.la;refine cY l<|cY I<|hL.b (f.kp.kind.trans hk) (kb Y T) (ka xa aj)<|cS (λhc=>cY l ?_) λhc=>cY I ?_
  all_goals
   have B:=f.la;have C:=f.lb;have an:=f.t
  ·have Z:=f.m.tX p l (Under.over (k:=xa) (λx F y W=>by cases Sd.mp F;cases Sd.mp W;exact hc)<|M I)
   refine dN (λv=>Si<|q1 _ _ _ ⟨f.kp,Z.qD z p<|.inr<|Um v.symm⟩) λv=>?_;have L:LI κ a b zt _ _ _ (x+(y+1)) YE:=⟨f.kp,Z,B,Ww C v,by lia⟩;exact cS (λ_=>Si<|q2 _ _<|L.le<|by lia) λ_=>Si<|U _ _ L
  ·have Z:=f.m.tY z I (Below.over (k:=Y) (λx F y W=>by cases Sd.mp F;cases Sd.mp W;exact Td.mpr hc)<|N l)
   refine dN (λv=>Si<|q1 _ _ _ ⟨f.kp,Z.IB z p<|J _ v⟩) λv=>?_;have L:LI κ a b zt _ _ _ (x+(y+1)) YE:=⟨f.kp,Z,Ww B v,C,by lia⟩;exact cS (λ_=>Si<|q2 _ _<|L.le<|by lia) λ_=>Si<|U _ _ L
 refine nH (eS (λy t g=>LI κ a b zt t.1 t.2.1 t.2.2.1 (x+1+y) g) (λt g=>LI κ a b zt t.1 t.2.1 t.2.2.1 (x+1) g) (λr g=>Kept zt g/\jN κ a b r) f (λt y ai W f Q q1 q2 U=>?_) (λt g f=>by
  have:=f.t;have:=f.la;have:=f.lb;lia) (λr t g h=>Si<|q1 r _ g h) λt g f=>mE λG S=>Si<|U _ _ ⟨f.kp.trans S,f.m,f.la,f.lb,f.t⟩)
 extract_lets -underBinder+onlyGivenNames s1 H s2 ia s3 ib s4 mg s5 ac bc jp
 have f:LI κ a b zt H ia ib _ _:=f
 clear_value H ia ib mg ac bc s1
 have B:=f.la;have C:=f.lb;have an:=f.t;obtain⟨Y,l,T⟩:=hJ C
 suffices O:∀mg,wpS (model prog w) A E s (jp () mg) Q ai from cS (λ_=>O _) λ_=>O _
 refine λmg=>mE λG S=>?_;have n:=f.kp.trans S;refine cY l (pO hL (n.kind.trans hk) (kb Y T) ka (Um<|X0<|Vo<|VT B) (by rw[fP _ _<|by rw[Sm];exact R9 _];exact z.drop _) (VU<|VT B) λk1 ad am D=>?_);rw[xq a (R9 _) ad]at D;dsimp -zeta only
 extract_lets -underBinder+onlyGivenNames ac jp
 suffices O:∀o i,kg κ a.toList b.toList o.toList i ib->Under κ [Y] (a.toList.drop i)->ia<=i->i+1<a.size->wpS (model prog w) A E s (jp () o i) Q G by
  refine cS (λc=>?_) λc=>O _ _ f.m (by rwa [show k1=0 by lia]at D) (R9 _) B;have X:=kg.La z f.m<|Below.over am<|N l;exact dN (λP=>Si<|q1 _ _ _ ⟨n,X.IB z p<|J _ P⟩) λP=>dN (λc7=>Si<|q1 _ _ _ ⟨n,X.qD z p<|.inl<|Um c7.symm⟩) λc7=>O _ _ X D (Wh _ _) (by lia)
 refine λH i X D l1 l2=>cY l ?_;have m3:=kg.tX p X l D;obtain⟨xc,K,al⟩:=hJ<|VT l2;refine dN (λv=>Si<|q1 _ _ _ ⟨n,m3.qD z p<|.inr<|Um v.symm⟩) λv=>?_;refine cY K (qL hL (n.kind.trans hk) (ka xc al) kb (Um<|X0 C) (by rw[fP _ _<|by rw[Sm];exact R9 _];exact p.drop _) (VU<|Ww C v) λk2 ab ul bl=>?_);rw[xq b (R9 _) ab]at bl;dsimp -zeta only
 extract_lets -underBinder+onlyGivenNames bc jp
 suffices O:∀o j,kg κ a.toList b.toList o.toList i j->Below κ [xc] (b.toList.drop j)->ib<j->j<b.size->wpS (model prog w) A E s (jp () o j) Q G by
  refine cS (λc=>?_) λc=>O _ _ m3 (by rwa [show k2=0 by lia]at bl) (Vp _) (by lia);have m4:=kg.Me p m3<|Under.over ul<|M K;exact dN (λP=>Si<|q1 _ _ _ ⟨n,m4.qD z p<|.inr<|Um P.symm⟩) λc7=>O _ _ m4 bl (by lia) (by lia)
 refine λH j m4 bl l3 l4=>cY K ?_;have m5:=kg.tY z m4 K bl;refine dN (λv=>Si<|q1 _ _ _ ⟨n,m5.IB z p<|J _ v⟩) λv=>?_;have L:LI κ a b zt _ _ _ (x+1+(y+1)) G:=⟨n,m5,by lia,l4,by lia⟩;exact cS (λ_=>Si<|q2 _ _<|L.le<|by lia) λ_=>Si<|U _ _ L
end
end TS
namespace TS
variable {κ:KeyKind}
def lU(l:Yb Keyed)(h:m<=n):l.take n=l.take m++(l.drop m).take (n-m):=by
 rw[<-List.drop_take];have:=Tg m<|l.take n;grind
def dM.take(h:dM κ l)(i:Nat):dM κ (l.take i):=Wb (List.take_sublist i l) h
structure jV(κ:KeyKind)(al bl o:Yb Keyed)(na nb:Nat):Prop where
 so:dM κ o
 oa:Below κ (al.take na) o
 ob:Below κ (bl.take nb) o
 zt:cX κ (al.take na++(bl.take nb++o)) (al++bl)
def Below.EL(h:Below κ l m)(h':Below κ l n):Below κ l (m++n):=λx a y e=>(Sz.mp e).elim (h x a y)<|h' x a y
def Below.Kf(h:Below κ (l++m) n):Below κ l n:=λx a y e=>h x (SM _ a) y e
def Below.Ga(h:Below κ (l++m) n):Below κ m n:=λx a y e=>h x (Sg _ a) y e
def jV.zQ(f:dM κ al)(h:jV κ al bl o na nb)(hm:m<=na)(u:Under κ (bl.take nb) ((al.drop m).take<|na-m)):jV κ al bl ((al.drop m).take (na-m)++o) m nb:=by
 have s:=f.take na;have a:=h.oa;have e:=h.zt;rw[lU al hm]at s a e;refine⟨s.right.append h.so a.Ga,s.mid.EL a.Kf,u.below.EL h.ob,cX.trans ?_ e⟩;rw[R8];refine(cX.refl _).append ?_;rw[<-R8,<-R8];exact(cX.swap u).append (cX.refl _)
def jV.zu(f:dM κ bl)(h:jV κ al bl o na nb)(hm:m<=nb)(u:Below κ (al.take na) ((bl.drop m).take<|nb-m)):jV κ al bl ((bl.drop m).take (nb-m)++o) na m:=by
 have s:=f.take nb;have a:=h.ob;have e:=h.zt;rw[lU bl hm]at s a e;refine⟨s.right.append h.so a.Ga,u.EL h.oa,s.mid.EL a.Kf,?_⟩;grind
def jV.done(f:dM κ al)(a:dM κ bl)(h:jV κ al bl o na nb)(e:na=0\/nb=0):dM κ (al.take na++bl.take nb++o)/\cX κ (al.take na++bl.take nb++o) (al++bl):=by
 refine⟨?_,by rw[R8];exact h.zt⟩;obtain e|e:=e
 ·rw[e,Vg,List.nil_append]
  exact(a.take nb).append h.so h.ob
 ·rw[e,Vg,SH]
  exact(f.take na).append h.so h.oa
def jV.first(e:dM κ al)(a:dM κ bl)(h:jV κ al bl o na nb)(u:Under κ (bl.take nb) (al.take na)):dM κ (bl.take nb++al.take na++o)/\cX κ (bl.take nb++al.take na++o) (al++bl):=by
 refine⟨?_,cX.trans ?_ h.zt⟩
 ·rw[R8]
  exact(a.take nb).append ((e.take na).append h.so h.oa) (u.below.EL h.ob)
 ·rw[<-R8]
  exact(cX.swap u).append (cX.refl _)
def Fy:Array Keyed->Array Keyed->StateT SortSt Sem (Array Keyed):=sortPriv% PySem.Builtin.mergeHi
section
variable {prog:X6}{A:X9}{E:Yd}{s:X5}{kd:SortKind}
abbrev bk(out:Array Keyed):Yb Keyed:=out.toList.reverse
section
variable {a:Array Keyed}{b:Array Keyed}(sa:dM κ a.toList)(sb:dM κ b.toList)
include sa sb
def jV.qD(h:jV κ a.toList b.toList (bk out) na nb)(e:na=0\/nb=0):jN κ a b (a.extract 0 na++b.extract 0 nb++out.reverse):=by
 unfold jN;rw[Ul,Ul,Vx,Vx,XU];exact h.done sa sb e
def jV.Hs(h:jV κ a.toList b.toList (bk out) na nb)(u:Under κ (b.toList.take nb) (a.toList.take na)):jN κ a b (b.extract 0 nb++a.extract 0 na++out.reverse):=by
 unfold jN;rw[Ul,Ul,Vx,Vx,XU];exact h.first sa sb u
omit sa in
def jV.Me{m:Nat}(h:jV κ a.toList b.toList (bk out) na nb)(hm:m<=nb)(u:Below κ (a.toList.take na) ((b.toList.drop m).take<|nb-m)):jV κ a.toList b.toList (bk<|out++(b.extract m nb).reverse) na m:=by
 have e:bk (out++(b.extract m nb).reverse)=(b.toList.drop m).take (nb-m)++bk out:=by simp_all
 rw[e];exact h.zu sb hm u
omit sb in
def jV.La{m:Nat}(h:jV κ a.toList b.toList (bk out) na nb)(hm:m<=na)(u:Under κ (b.toList.take nb) ((a.toList.drop m).take<|na-m)):jV κ a.toList b.toList (bk<|out++(a.extract m na).reverse) m nb:=by
 have e:bk (out++(a.extract m na).reverse)=(a.toList.drop m).take (na-m)++bk out:=by simp_all
 rw[e];exact h.zQ sa hm u
end
def vk{a:Array Keyed}(e:a[m]? =some x)(h:n=m+1):(a.toList.drop m).take (n-m)=[x]:=by
 rw[gA e,show n-m=1 by lia];rfl
def Au(out:Array Keyed)(x:Keyed):bk (out.push x)=[x]++bk out:=by grind
def jV.tY{a b out:Array Keyed}{na nb m:Nat}{x:Keyed}(g:dM κ a.toList)(h:jV κ a.toList b.toList (bk out) na nb)(f:a[m]? =some x)(hm:na=m+1)(u:Under κ (b.toList.take nb) [x]):jV κ a.toList b.toList (bk<|out.push x) m nb:=by
 have e:=vk f hm;have:=h.zQ (m:=m) g (by lia) (by rw[e];exact u);rw[e]at this;rw[Au];exact this
def jV.tX{a b out:Array Keyed}{na nb m:Nat}{x:Keyed}(g:dM κ b.toList)(h:jV κ a.toList b.toList (bk out) na nb)(f:b[m]? =some x)(hm:nb=m+1)(u:Below κ (a.toList.take na) [x]):jV κ a.toList b.toList (bk<|out.push x) na m:=by
 have e:=vk f hm;have:=h.zu (m:=m) g (by lia) (by rw[e];exact u);rw[e]at this;rw[Au];exact this
def dM.last{a:Array Keyed}(h:dM κ a.toList)(g:a[m]? =some x)(i:n=m+1):Below κ (a.toList.take n) [x]:=by
 have s:=h.take n;have e:=lU a.toList (show m<=n by lia);rw[vk g i]at e;rw[e]at s ⊢;exact s.mid.append λy f z j=>by
  cases Sd.mp f;cases Sd.mp j;exact UY _
def Below.under(h:Below κ l [k])(u:Under κ [k] m):Under κ l m:=λx a y e=>WD (h x a k<|SK _)<|u k (SK _) y e
structure HI(κ:KeyKind)(a b:Array Keyed)(zt:SortSt)(out:Array Keyed)(na nb t:Nat)(Yk:SortSt):Prop where
 kp:Kept zt Yk
 m:jV κ a.toList b.toList (bk out) na nb
 la:1<=na
 lb:2<=nb
 ha:na<=a.size
 hb:nb<=b.size
 t:na+nb+t<=a.size+b.size
def HI.le(h:HI κ a b zt o i j y Yk)(l:x<=y):HI κ a b zt o i j x Yk:=⟨h.kp,h.m,h.la,h.lb,h.ha,h.hb,SF (XZ l _) h.t⟩
def wX(hL:kh prog w A E s κ kd){a b:Array Keyed}(hk:kindOf zt=kd)(ka:∀x∈a.toList,kN κ x)(kb:∀x∈b.toList,kN κ x)(p:dM κ a.toList)(v:dM κ b.toList)(a1:1<=a.size)(b1:1<=b.size)(u1:Under κ (b.toList.take 1) a.toList)(u2:Under κ b.toList (a.toList.drop<|a.size-1))
  (q:∀r g,Kept zt g->jN κ a b r->Q r g):wpS (model prog w) A E s (Fy a b) Q zt:=by
 obtain⟨a0,Y,am⟩:=hJ (show a.size-1<a.size by lia);have F:∀{C:Nat}(X:Nat),C=1->Under κ (b.toList.take C) (a.toList.take X):=λ{C} X e x P y I=>by
  subst e;exact u1 x P y<|Ub I
 have m0:jV κ a.toList b.toList (bk #[a0]) (a.size-1) b.size:=by
  have h0:jV κ a.toList b.toList (bk #[]) a.size b.size:=⟨List.Pairwise.nil,Below.nil,Below.nil,by
   rw[TJ<|by grind,TJ<|by grind];show cX κ (_++(_++[])) _;rw[SH];exact cX.refl _⟩
  refine h0.tY p Y (by lia) λx P y I=>u2 x (Ub P) y ?_;rw[gA Y];cases Sd.mp I;exact SO
 refine nH<|cY Y<|dN (λc1=>Si<|q _ zt (Kept.refl _)<|m0.qD p v<|.inl c1) λc1=>dN (λH=>Si<|q _ zt (Kept.refl _)<|m0.Hs p v<|F _ H) λH=>SW<|Wv ?_;refine eS (λx t g=>HI κ a b zt t.2.2.1 t.1 t.2.1 x g) (λ_ _=>False) (λr g=>Kept zt g/\jN κ a b r) ⟨Kept.refl _,m0,by lia,by lia,by lia,by lia,by lia⟩ (λt x an P f Q q1 q2 q3=>?_) (λt g f=>by
  have:=f.t;have:=f.la;lia) (λr t g h=>Si<|q r g h.1 h.2) nofun
 refine eS (λy t g=>HI κ a b zt t.2.2.1 t.1 t.2.1 (x+y) g) (λt g=>HI κ a b zt t.2.2.1 t.1 t.2.1 (x+1) g) (λr g=>Kept zt g/\jN κ a b r) f (λt y YE I f Q q1 q2 q3=>?_) (λt g f=>by
  have:=f.t;have:=f.la;lia) (λr t g h=>Si<|q1 r _ g h) λt YE f=>?_
 ·have G:=f.la
  have K:=f.lb;have T:=f.ha;have N:=f.hb;have al:=f.t;obtain⟨xb,l,U⟩:=hJ (show t.2.1-1<b.size by lia);obtain⟨xa,J,ad⟩:=hJ (show t.1-1<a.size by lia);refine cY l<|cY J<|hL.b (f.kp.kind.trans hk) (kb xb U) (ka xa ad)<|cS (λhc=>cY J ?_) λhc=>cY l ?_
  ·have m':=f.m.tY p J (by lia) (Below.under (k:=xb) (v.last l<|by lia) λx P y I=>by cases Sd.mp P;cases Sd.mp I;exact hc)
   refine dN (λz=>Si<|q1 _ _ _ ⟨f.kp,m'.qD p v<|.inl z⟩) λz=>?_;have L:HI κ a b zt _ _ _ (x+(y+1)) YE:=⟨f.kp,m',Wx z,K,by lia,N,by lia⟩;exact cS (λ_=>Si<|q2 _ _<|L.le<|by lia) λ_=>Si<|q3 _ _ L
  ·have m':=f.m.tX v l (by lia) (Below.over (k:=xa) (p.last J<|by lia) λx P y I=>by cases Sd.mp P;cases Sd.mp I;exact Td.mpr hc)
   refine dN (λz=>Si<|q1 _ _ _ ⟨f.kp,m'.Hs p v<|F _ z⟩) λz=>?_;have L:HI κ a b zt _ _ _ (x+(y+1)) YE:=⟨f.kp,m',G,by lia,T,by lia,by lia⟩;exact cS (λ_=>Si<|q2 _ _<|L.le<|by lia) λ_=>Si<|q3 _ _ L
 refine nH (eS (λy t g=>HI κ a b zt t.2.2.1 t.1 t.2.1 (x+1+y) g) (λt g=>HI κ a b zt t.2.2.1 t.1 t.2.1 (x+1) g) (λr g=>Kept zt g/\jN κ a b r) f (λt y ai I f Q q1 q2 q3=>?_) (λt g f=>by
  have:=f.t;have:=f.la;lia) (λr t g h=>Si<|q1 r _ g h) λt g f=>mE λD Z=>Si<|q3 _ _ ⟨f.kp.trans Z,f.m,f.la,f.lb,f.ha,f.hb,f.t⟩)
 extract_lets -underBinder+onlyGivenNames s1 X s2 C s3 M s4 mg s5 ac bc jp
 have f:HI κ a b zt M X C _ _:=f
 clear_value M X C mg ac bc s1
 have G:=f.la;have K:=f.lb;have T:=f.ha;have N:=f.hb;have al:=f.t;obtain⟨xb,l,U⟩:=hJ (show C-1<b.size by lia)
 suffices R:∀mg,wpS (model prog w) A E s (jp () mg) Q ai from cS (λ_=>R _) λ_=>R _
 refine λmg=>mE λD Z=>?_;have n:=f.kp.trans Z;refine cY l (pO hL (n.kind.trans hk) (kb xb U) ka (by rwa [Uq]) (by rw[Ve];exact p.take _) (sub_lt G one_pos) λk1 W B ab=>?_);rw[Ve]at B;rw[Uq]at ab;dsimp -zeta only
 extract_lets -underBinder+onlyGivenNames k ac jp
 suffices R:∀o i,jV κ a.toList b.toList (bk o) i C->Below κ (a.toList.take i) [xb]->i<=X->1<=i->wpS (model prog w) A E s (jp () i o) Q D by
  refine cS (λc=>?_) λc=>R _ _ f.m (by rwa [show k1=X from Nat.le_antisymm W (XI<|Xw c)]at B) (R9 _) G;have m2:=jV.La p f.m W (Below.under (v.last l<|by lia) ab);exact dN (λH=>Si<|q1 _ _ _ ⟨n,m2.qD p v<|.inl H⟩) λH=>R _ _ m2 B W<|Wx H
 refine λM i m2 B l1 l2=>cY l ?_;have m3:=jV.tX v m2 l (by lia) B;refine dN (λz=>Si<|q1 _ _ _ ⟨n,m3.Hs p v<|F _ z⟩) λz=>?_;have il:=SA (sub_lt l2 one_pos)<|SF l1 T;obtain⟨xc,O,aj⟩:=hJ il;refine cY O (qL hL (n.kind.trans hk) (ka xc aj) kb (by rw[Uq];exact SF (sub_le _ _) N) (by rw[Ve];exact v.take _) (sub_lt (VU K) one_pos) λk2 S ul bl=>?_);rw[Ve]at ul;rw[Uq]at bl;dsimp -zeta only
 extract_lets -underBinder+onlyGivenNames k bc jp
 suffices R:∀o j,jV κ a.toList b.toList (bk o) i j->Under κ (b.toList.take j) [xc]->j<C->2<=j->wpS (model prog w) A E s (jp () j o) Q D by
  refine cS (λc=>?_) λc=>R _ _ m3 (by rwa [show k2=C-1 from Nat.le_antisymm S (XI<|Xw c)]at ul) (by lia) (by lia);have m4:=jV.Me v m3 S (Below.over (p.last O<|by lia) bl);exact dN (λH=>Si<|q1 _ _ _ ⟨n,m4.Hs p v<|F _ H⟩) λH=>dN (λc7=>Si<|q1 _ _ _ ⟨n,m4.qD p v<|.inr c7⟩) λc7=>R _ _ m4 ul (VY S<|sub_lt (Xr one_pos K) one_pos) (by lia)
 refine λM j m4 ul l3 l4=>cY O ?_;have m5:=jV.tY p m4 O (by lia) ul;refine dN (λz=>Si<|q1 _ _ _ ⟨n,m5.qD p v<|.inl z⟩) λz=>?_;have L:HI κ a b zt _ _ _ (x+1+(y+1)) D:=⟨n,m5,Wx z,l4,Vo il,SF (Vo l3) N,by lia⟩;exact cS (λ_=>Si<|q2 _ _<|L.le<|by lia) λ_=>Si<|q3 _ _ L
end
end TS
namespace TS
def zA:Nat->Nat->StateT SortSt Sem (X8 Nat):=sortPriv% PySem.Builtin.countRun
def uO:Nat->Nat->Nat->StateT SortSt Sem Bool:=sortPriv% PySem.Builtin.binarySort
def xK{xs:Array Keyed}{P G R:Yb Keyed}(e:xs.toList=P++(G++R)){i j:Nat}(l:i=P.length)(a:j=i+G.length):(mirror xs i j<|(j-i) / 2).toList=P++(G.reverse++R):=by
 have g:xs.size=P.length+(G.length+R.length):=by rw[<-Sm,e,R3,R3]
 apply W2;intro k;rw[Sx,getElem?_mirror_all<|by lia,<-Sx,<-Sx,e];by_cases h:i<=k/\k<j
 ·rw[Sb h,Sf<|by lia,Sr<|by lia,Sf<|by lia,Sr<|by rw[TM];lia,Vl<|by lia]
  congr 1
  lia
 ·rw[R7 h]
  by_cases f:k<i
  ·rw[Sr<|by lia,Sr<|by lia]
  ·rw[Sf<|by lia,Sf<|by lia,Sf<|by lia,Sf<|by rw[TM];lia,TM]
def ym{xs:Array Keyed}{P T R:Yb Keyed}{x:Keyed}(e:xs.toList=P++(T++x::R)){a d:Nat}(j:a=P.length+T.length)(hd:d=T.length):(bubble xs a d).toList=P++(x::T++R):=by
 have i:xs.size=P.length+(T.length+(R.length+1)):=by rw[<-Sm,e,R3,R3];rfl
 apply W2;intro k;rw[Sx,getElem?_bubble (by lia) d<|by lia,<-Sx,<-Sx,<-Sx,e];by_cases h:k=a-d
 ·rw[Sb h,Sf<|by lia,Sf<|by lia,Sf<|by lia,show a-P.length-T.length=0 by lia,show k-P.length=0 by lia]
  rfl
 ·rw[R7 h]
  by_cases g:a-d<k/\k<=a
  ·rw[Sb g,Sf<|by lia,Sr<|by lia,Sf<|by lia,Sr<|by show _<T.length+1;lia,show k-P.length=(k-1-P.length)+1 by lia,Xn]
  ·rw[R7 g]
   by_cases f:k<P.length
   ·rw[Sr f,Sr f]
   ·rw[Sf<|by lia,Sf<|by lia,Sf<|by lia,Sf<|by show T.length+1<=_;lia,show k-P.length-T.length=(k-P.length-(T.length+1))+1 by lia,Xn]
    rfl
theorem qp:∀(m:Yb Keyed) (j off:Nat) (xs:Array Keyed) (P Y R:Yb Keyed),xs.toList=P++(Y++R)->m.length=Y.length->off+j=P.length->
  ((m.zipIdx j).foldl (λ(a:Array Keyed) (x:Keyed×Nat)=>a.setIfInBounds (off+x.2) x.1) xs).toList=P++(m++R)
 |[],j,off,xs,P,Y,R,e,l,_=>by
  rw[List.zipIdx_nil,Xb,e,SX l.symm]
 |x::m,j,off,xs,P,[],R,e,l,_=>by cases l
 |x::m,j,off,xs,P,y::Y,R,e,l,h=>by
  rw[List.zipIdx_cons,TB];have f:=qp m (j+1) off (xs.setIfInBounds (off+j) x) (P++[x]) Y R (by
   rw[W5,e,h,List.set_append_right _ _<|R9 _,Xx,R8];rfl) (Ua l) (by rw[R3,<-h];rfl)
  rw[f,R8];rfl
structure wb(zt Yk:SortSt):Prop where
 kind:kindOf Yk=kindOf zt
 pend:pendingOf Yk=pendingOf zt
 failed:failedOf Yk=failedOf zt
def wb.refl(zt:SortSt):wb zt zt:=⟨rfl,rfl,rfl⟩
def wb.trans(h:wb a b)(h':wb b c):wb a c:=⟨h'.kind.trans h.kind,h'.pend.trans h.pend,h'.failed.trans h.failed⟩
def pI(e:(arrOf zt).toList=P++(G++R))(g:i=P.length)(f:j=i+G.length)(q:∀a,wb zt a->(arrOf a).toList=P++(G.reverse++R)->Q () a):wpS (model prog w) A E s (reverseSlice' i j) Q zt:=by
 rw[reverseSlice'_eq];exact Wk<|q _ ⟨rfl,rfl,rfl⟩<|xK e g f
def F3(e:(arrOf zt).toList=P++(T++x::R))(f:Zu=P.length+T.length)(hd:dst=P.length)(q:∀a,wb zt a->(arrOf a).toList=P++(x::T++R)->Q () a):wpS (model prog w) A E s (moveDown' Zu dst) Q zt:=by
 rw[moveDown'_eq];exact Wk (q _ ⟨rfl,rfl,rfl⟩<|ym e f<|by lia)
def kj{f:X8 Bool->StateT SortSt Sem β}(l:kh prog w A E s κ kd)(g:kindOf zt=kd)(e:(arrOf zt).toList[i]? =some x)(a:(arrOf zt).toList[j]? =some y)(h:kN κ x)(m:kN κ y)(q:wpS (model prog w) A E s (f<|some<|κ.blt (key κ x)<|key κ y) Q zt):wpS (model prog w) A E s (ltAt' i j >>= f) Q zt:=by
 rw[ltAt'_eq];rw[Sx]at e a;exact SW<|SW<|Wv<|cY e<|cY a<|l x y zt _ g h m q
def o8{P R:Yb Keyed}{x:Keyed}{i:Nat}(h:i=P.length):(P++x::R)[i]? =some x:=by
 rw[Sf<|by lia,h,Xx];rfl
def pJ{P C R:Yb Keyed}{x:Keyed}{i:Nat}(h:i=P.length+C.length):(P++((C++[x])++R))[i]? =some x:=by
 rw[R8,<-R8 P];exact o8 (by rw[R3];exact h)
def vL{P C R:Yb Keyed}{x:Keyed}{i:Nat}(h:i=P.length+C.length):(P++(C++x::R))[i]? =some x:=by
 rw[<-R8];exact o8 (by rw[R3];exact h)
def dM.snoc(h:dM κ l)(b:Below κ l [x]):dM κ (l++[x]):=h.append (UB _ _) b
def pj(h:1<=l.length):∃c x,l=c++[x]:=⟨l.dropLast,l.getLast<|by grind,(List.dropLast_concat_getLast _).symm⟩
def dM.Kr(h:dM κ (c++[x]))(b:κ.kle (key κ x) (key κ y)):Below κ (c++[x]) [y]:=λu a v e=>by
 cases Sd.mp e;obtain a|a:=Sz.mp a
 ·exact Vm (h.mid u a x<|SK _) b
 ·grind
structure zS(κ:KeyKind)(YG:SortSt)(P S:Yb Keyed)(n:Nat)(M O R:Yb Keyed)(zt:SortSt):Prop where
 e:(arrOf zt).toList=P++(M++R)
 s:S=O++R
 m:M.length=n
 o:O.length=n
 sm:dM κ M
 tm:cX κ M O
 cg:wb YG zt
structure Ds(κ:KeyKind)(YG:SortSt)(P S:Yb Keyed)(n neq:Nat)(C G O R:Yb Keyed)(zt:SortSt):Prop where
 e:(arrOf zt).toList=P++((C++G)++R)
 s:S=O++R
 o:O.length=n
 m:C.length+G.length=n
 g:G.length=neq+1
 sc:dM κ C.reverse
 un:Under κ G C
 gg:Below κ G G
 t:cX κ (C.reverse++G) O
 cg:wb YG zt
def wI{P C G R:Yb Keyed}:P++((C++G)++R)=(P++C)++(G++R):=by rw[R8,R8]
def qR(h:Below κ G G):dM κ G:=List.pairwise_iff_forall_sublist.mpr λ{a b} e=>h a (e.subset SO) b<|e.subset<|Ta _<|SK _
def Under.rev(h:Under κ G C):Under κ G C.reverse:=λx a y e=>h x a y<|List.mem_reverse.mp e
def Ds.up(d:Ds κ YG P S n neq C G O R zt)(a:wb zt Yk)(e:(arrOf Yk).toList=P++((G++C.reverse)++R)):zS κ YG P S n (G++C.reverse) O R Yk:=
 ⟨e,d.s,by have:=d.m;rw[R3,TM];lia,d.o,(qR d.gg).append d.sc d.un.rev.below,(cX.swap d.un.rev).trans d.t,d.cg.trans a⟩
def Ds.less(d:Ds κ YG P S n neq C G O (y::R) zt)(u:Under κ [y] G)(g1:1<=G.length)(i:wb zt Yk)(e:(arrOf Yk).toList=(P++C)++(G.reverse++y::R)):Ds κ YG P S (n+1) 0 (C++G.reverse) [y] (O++[y]) R Yk:=by
 have m:=d.m;have r:(C++G.reverse).reverse=G++C.reverse:=by rw[Wn,Wj]
 refine⟨by rw[e,R8,R8,R8];rfl,by rw[d.s,R8];rfl,by rw[R3,d.o];rfl,by rw[R3,TM];show _+1=_;lia,rfl,?_,?_,?_,?_,d.cg.trans i⟩
 ·rw[r]
  exact(qR d.gg).append d.sc d.un.rev.below
 ·intro x f z a
  obtain a|a:=Sz.mp a
  ·obtain⟨g,h⟩:=List.exists_mem_of_length_pos g1
   exact UA (u x f g h)<|d.un.below g h z a
  ·exact u x f z<|List.mem_reverse.mp a
 ·intro x f z a
  cases Sd.mp f;cases Sd.mp a;exact UY _
 ·rw[r]
  exact((cX.swap d.un.rev).trans d.t).append (cX.refl _)
def Ds.same(d:Ds κ YG P S n neq C G O (y::R) zt)(h:z∈G)(l:κ.kle (key κ z) (key κ y))(j:κ.kle (key κ y) (key κ z)):Ds κ YG P S (n+1) (neq+1) C (G++[y]) (O++[y]) R zt:=by
 have m:=d.m;refine⟨by rw[d.e,<-R8 C,R8 _ [y]];rfl,by rw[d.s,R8];rfl,by rw[R3,d.o];rfl,by rw[R3];show _+(_+1)=_;lia,by rw[R3,d.g];rfl,d.sc,?_,?_,?_,d.cg⟩
 ·intro u a v f
  obtain a|a:=Sz.mp a
  ·exact d.un u a v f
  ·cases Sd.mp a
   exact WD j<|d.un z h v f
 ·intro u a v f
  have i:κ.kle (key κ u) (key κ z):=by
   obtain a|a:=Sz.mp a
   ·exact d.gg u a z h
   ·grind
  refine Vm i ?_;obtain f|f:=Sz.mp f
  ·exact d.gg z h v f
  ·grind
 ·rw[<-R8]
  exact d.t.append<|cX.refl _
def Ar{lo:Nat}{f:X8 (X8 Nat)×Nat->StateT SortSt Sem β}{g:Nat->X8 (X8 Nat)×Nat->StateT SortSt Sem (ForInStep<|X8 (X8 Nat)×Nat)}(T:kh prog w A E s κ kd)(L:kindOf YG=kd)(G:∀x∈S,kN κ x)(Zf:lo=P.length)(I:S.length=nrem)(h1:1<=n)(up:zS κ YG P S n M O R zt)
  (e:∀i n,g i (none,n)=ltAt' (lo+n) (lo+n-1) >>= λx=>match x with
   |some b=>if b then pure (.done (none,n)) else pure (.yield (none,n+1))
   |_=>pure<|.done (some none,n))
  (q:∀n M O R a,1<=n->n<=nrem->zS κ YG P S n M O R a->(R=[]\/∃c z y F,M=c++[z]/\R=y::F/\κ.klt (key κ y) (key κ z))->wpS (model prog w) A E s (f (none,n)) Q a):wpS (model prog w) A E s (forIn [n:nrem] (none,n) g >>= f) Q zt:=by
 refine eS (λx m a=>x=m/\n<=m/\∃M O R,zS κ YG P S m M O R a) (λm a=>∃M O R,n<=m/\m<=nrem/\zS κ YG P S m M O R a/\(R=[]\/∃c z y F,M=c++[z]/\R=y::F/\κ.klt (key κ y) (key κ z))) (λ_ _=>False) ⟨rfl,R9 _,_,_,_,up⟩ ?_ ?_ nofun λm a ⟨M,O,R,m1,J,h,Y⟩=>q m M O R a (by lia) J h Y
 ·rintro _ x a X ⟨rfl,l,M,O,R,p,j,r,H,B,D,C⟩ Q q1 q2 N
  rw[e];cases R with
  |nil=>rw[j,SH,H]at I;lia
  |cons y R=>
  obtain⟨c,z,rfl⟩:=pj (show 1<=M.length by lia);have Z:kN κ z:=G z (by rw[j];exact SM _<|D.mem.mp<|Sg _<|SK _);have K:kN κ y:=G y (by rw[j];exact Sg _ SO);rw[R3]at r;have U:c.length+1=x:=r;refine kj T (C.kind.trans L) (by rw[p];exact vL<|by rw[R3];show _=_+(c.length+1);lia) (by rw[p];exact pJ<|by lia) K Z<|cS (λv=>?_) λv=>?_
  ·exact Si (q2 _ _ ⟨c++[z],O,y::R,l,Vo X,⟨p,j,by rw[R3];exact r,H,B,D,C⟩,.inr ⟨c,z,y,R,rfl,rfl,v⟩⟩)
  ·exact Si (N _ _ ⟨rfl,by lia,(c++[z])++[y],O++[y],R,by rw[p,R8 _ [y]];rfl,by rw[j,R8];rfl,by rw[R3,R3];show c.length+1+1=_;lia,by rw[R3];show O.length+1=_;lia,B.snoc<|B.Kr<|Td.mpr v,D.append<|cX.refl _,C⟩)
 ·rintro _ a ⟨rfl,l,M,O,R,h⟩
  have W:=h.s;rw[W,R3,h.o]at I;exact⟨M,O,R,l,by lia,h,.inl<|SX<|by lia⟩
def MC [Decidable c]{F:Unit->StateT SortSt Sem β}(R:SortSt->Prop)(h:∀a,R a->wpS (model prog w) A E s (F ()) Q a)(e:c->wpS (model prog w) A E s m (λ_ a=>R a) zt)(f:¬c->R zt):wpS (model prog w) A E s (if c then m >>= F else F ()) Q zt:=cS (λc=>SW<|wpS_mono (e c) λ_ a=>h a) λc=>h zt<|f c
def qA{lo:Nat}(I:kh prog w A E s κ kd)(F:kindOf zt=kd)(D:∀x∈S,kN κ x)(Zz:(arrOf zt).toList=P++S)(N:lo=P.length)(T:S.length=nrem)(h1:1<=nrem)
  (q:∀n l M O R,1<=n->n<=nrem->zS κ zt P S n M O R l->Q (some n) l):wpS (model prog w) A E s (zA lo nrem) Q zt:=by
 have a0:∃M O R,zS κ zt P S 1 M O R zt:=by
  cases S with
  |nil=>grind
  |cons x R=>exact⟨[x],[x],R,Zz,rfl,rfl,rfl,UB _ _,cX.refl _,wb.refl _⟩
 obtain⟨M,O,R,a0⟩:=a0;refine Ar I F D N T (R9 1) a0 (λ_ _=>rfl) λn M O R B X W h hR=>dN (λ_=>Si<|q n B M O R X W h) λc1=>?_
 extract_lets -underBinder+onlyGivenNames jp
 obtain rfl|⟨c,z,y,R,rfl,rfl,lt⟩:=hR
 ·exfalso
  rw[h.s,SH,h.o]at T;exact c1 T
 have hm:=h.m;rw[R3]at hm;have Y:c.length+1=n:=hm
 suffices hj:∀{C p},Ds κ zt P S (n+1) 0 C [y] (O++[y]) R p->wpS (model prog w) A E s (jp ()) Q p by
  have start:∀{C:Yb Keyed}{p:SortSt},wb zt p->(arrOf p).toList=P++(C++y::R)->C.reverse=c++[z]->(∀u∈c++[z],κ.kle (key κ z)<|key κ u)->Ds κ zt P S (n+1) 0 C [y] (O++[y]) R p:=λ{C p} cg e r al=>by
   have cl:C.length=n:=by rw[<-TM,r,R3];exact Y
   refine⟨by rw[e,R8];rfl,by rw[h.s,R8];rfl,by rw[R3,h.o];rfl,by rw[cl];rfl,rfl,by rw[r];exact h.sm,λa U b j=>?_,λa U b j=>?_,by rw[r];exact h.tm.append<|cX.refl _,cg⟩
   ·cases Sd.mp U
    exact UA lt (al b<|by grind)
   ·cases Sd.mp U
    cases Sd.mp j;exact UY _
  refine cS (λJ=>?_) λJ=>?_
  ·obtain⟨f,Z,rfl⟩:∃f Z,c=f::Z:=by
    cases c with
    |nil=>grind
    |cons f Z=>grind
   have H:=λu L=>D u (by rw[h.s];exact SM _<|h.tm.mem.mp L);exact kj I (h.cg.kind.trans F) (x:=f) (y:=z) (by rw[h.e];exact o8 N) (by rw[h.e];exact pJ<|by lia) (H f SO) (H z<|Sg _<|SK _) (cS (λj=>Si<|q n B _ _ _ X W h) λj=>SW<|pI h.e N (by grind) λp ai e2=>hj<|start (h.cg.trans ai) e2 (Wj _) λu L=>Vm (show κ.kle (key κ z) (key κ f) from Td.mpr j)<|dM.head h.sm f (SK _) u L)
  ·have c0:c=[]:=SX (by lia)
   subst c0;exact hj (start h.cg h.e rfl λu L=>by
    cases Sd.mp L;exact UY _)
 refine λ{C p} d0=>nH<|eS (λx t l=>x=t.1/\∃C G O R,Ds κ zt P S t.1 t.2 C G O R l) (λt l=>∃C G O R,Ds κ zt P S t.1 t.2 C G O R l) (λ_ _=>False) ⟨rfl,_,_,_,_,d0⟩ ?_ (λ_ _ h=>h.2) nofun ?_
 ·rintro t _ l hx ⟨rfl,C,G,O,R,d⟩ Q q1 q2 q3
  cases R with
  |nil=>rw[d.s,SH,d.o]at T;lia
  |cons y R=>
  have K:=d.g;have dm:=d.m;obtain⟨g,z,rfl⟩:=pj (show 1<=G.length by lia);have hz:z∈g++[z]:=Sg _<|SK _;have kz:kN κ z:=D z (by rw[d.s];exact SM _<|d.t.mem.mp<|Sg _ hz);have ky:kN κ y:=D y (by rw[d.s];exact Sg _ SO);rw[R3]at K dm;have aq:g.length+1=t.2+1:=K;have ar:C.length+(g.length+1)=t.1:=dm;have py:(arrOf l).toList[lo+t.1]? =some y:=by rw[d.e];exact vL (by rw[R3,R3];show _=_+(C.length+(g.length+1));lia)
  have pz:(arrOf l).toList[lo+t.1-1]? =some z:=by rw[d.e,<-R8 C];exact pJ (by rw[R3];lia)
  refine kj I (d.cg.kind.trans F) py pz ky kz<|cS (λj=>?_) λj=>kj I (d.cg.kind.trans F) pz py kz ky<|cS (λ_=>Si<|q2 _ _ ⟨_,_,_,_,d⟩) λaj=>Si<|q3 _ _ ⟨rfl,_,_,_,_,d.same hz (Td.mpr j)<|Td.mpr aj⟩;have u:Under κ [y] (g++[z]):=λa U b an=>by
   cases Sd.mp U;exact UA (show κ.klt _ _ from j)<|d.gg z hz b an
  refine cS (λJ=>?_) λJ=>?_
  ·exact SW (pI (P:=P++C) (G:=g++[z]) (R:=y::R) (d.e.trans wI) (by rw[R3];lia) (by rw[R3];show _=_+(g.length+1);lia) λv ad e3=>Si<|q3 _ _ ⟨rfl,_,_,_,_,d.less u (by rw[R3];show 1<=_+1;lia) ad e3⟩)
  ·have g0:g=[]:=SX (by lia)
   subst g0;exact Si<|q3 _ _ ⟨rfl,_,_,_,_,d.less u (R9 1) (wb.refl _)<|d.e.trans wI⟩
 ·rintro t v ⟨C,G,O,R,d⟩
  have K:=d.g;have dm:=d.m;refine MC (λi=>wb v i/\(arrOf i).toList=P++(C++G.reverse++R)) (λi h=>?_) (λJ=>pI (P:=P++C) (G:=G) (R:=R) (d.e.trans wI) (by rw[R3];lia) (by lia) λi ac e4=>⟨ac,e4.trans wI.symm⟩) λJ=>⟨wb.refl _,?_⟩
  ·exact SW (pI h.2 N (by rw[R3,TM];lia) λap am e5=>Ar I F D N T (by lia) (d.up (h.1.trans am)<|by rw[e5,Wn,Wj]) (λ_ _=>rfl) λn M O R ab X W h _=>Si<|q n ab M O R X W h)
  ·obtain⟨g,z,rfl⟩:=pj (show 1<=G.length by lia)
   rw[R3]at K;rw[SX (show g.length=0 by have:g.length+1=t.2+1:=K;lia)]at d ⊢;exact d.e
def tK:Nat->StateT SortSt Sem Bool:=sortPriv% PySem.Builtin.mergeAt
def dM.get{l:Yb Keyed}(h:dM κ l){i j:Nat}{x y:Keyed}(e:i<=j)(f:l[i]? =some x)(a:l[j]? =some y):κ.kle (key κ x) (key κ y):=by
 have:=dM.at (κ:=κ) (l:=l) (b:=0) (n:=l.length) (i:=i) (j:=j) (x:=x) (y:=y) (by rw[Ve,Tj];exact h) e (gI0.mp a).1 (by rw[Uq];exact f) (by rw[Uq];exact a);exact this
def zS.ins{n:SortSt}{P S M O R:Yb Keyed}{k l:Nat}{zt g:SortSt}{y:Keyed}(h:zS κ n P S k M O (y::R) zt)(b:Below κ (M.take l) [y])(u:Under κ [y] (M.drop l))(q:wb zt g)(e:(arrOf g).toList=(P++M.take l)++(y::M.drop l++R)):zS κ n P S (k+1) (M.take l++(y::M.drop l)) (O++[y]) R g:=by
 have v:=h.m;have j:=Tg l M;have f:=h.sm;rw[<-j]at f;refine⟨by rw[e,<-wI],by rw[h.s,R8];rfl,?_,by rw[R3,h.o];rfl,?_,?_,h.cg.trans q⟩
 ·grind
 ·refine f.left.append (List.pairwise_cons.mpr ⟨λz r=>KeyOrd.kle_of_klt<|u y (SK _) z r,f.right⟩) λa p c i=>?_
  obtain rfl|i:=SS.mp i
  ·exact b a p c<|SK _
  ·exact f.mid a p c i
 ·have t:cX κ (M.take l++(y::M.drop l)) (M++[y]):=by
   have:cX κ (M.take l++([y]++M.drop l)) (M.take l++(M.drop l++[y])):=(cX.refl _).append<|cX.swap u
   rwa [<-R8 (M.take l) (M.drop l),j]at this
  exact t.trans<|h.tm.append<|cX.refl _
def Qm{a b:Nat}(h:a<b):a<=(a+b) / 2/\(a+b) / 2<b:=by lia
def nV(Y:kh prog w A E s κ kd){lo n ok:Nat}{D zt:SortSt}{Q:Bool->SortSt->Prop}{P S M O R:Yb Keyed}(X:kindOf D=kd)(L:∀x∈S,kN κ x)(Zf:lo=P.length)(hn:n<=S.length)(h1:1<=ok)(ab:ok<=n)(h:zS κ D P S ok M O R zt)
  (q:∀g M O R,zS κ D P S n M O R g->Q true g):wpS (model prog w) A E s (uO lo n ok) Q zt:=by
 refine eS (λk _ g=>∃M O R,zS κ D P S k M O R g) (λ_ g=>∃M O R,zS κ D P S n M O R g) (λ_ _=>False) ⟨M,O,R,by rw[show max ok 1=ok by lia];exact h⟩ ?_ (λ_ g h=>by rwa [show max (max ok 1) n=n by lia]at h) nofun (by
  rintro _ g ⟨M,O,R,h⟩;exact Si<|q g M O R h)
 rintro _ k j W ⟨M,O,R,h⟩ Q q1 U F;cases R with
 |nil=>have e:=h.s;rw[SH]at e;rw[e,h.o]at hn;lia
 |cons y R=>
 have hM:=h.m;refine eS (λx t g=>j=g/\t.1<=t.2/\t.2<=k/\x+t.2<=k+t.1/\(∀i u,i<t.1->M[i]? =some u->κ.kle (key κ u) (key κ y))/\(∀i u,t.2<=i->M[i]? =some u->κ.klt (key κ y) (key κ u)))
  (λt g=>j=g/\t.1<=k/\(∀i u,i<t.1->M[i]? =some u->κ.kle (key κ u) (key κ y))/\(∀i u,t.1<=i->M[i]? =some u->κ.klt (key κ y) (key κ u))) (λ_ _=>False) ⟨rfl,Tq _,R9 _,Um<|Uq _,λi u f=>by lia,λi u f C=>by have:=(gI0.mp C).1;lia⟩ ?_ ?_ nofun ?_
 ·rintro t x _ hx ⟨rfl,T,H,rl,B,v⟩ Q q1 U F
  refine cS (λI=>Si<|U _ _ ⟨rfl,SF T H,B,λi u f=>v i u<|SF I f⟩) λI=>?_
  extract_lets -underBinder+onlyGivenNames m
  have N:t.1<=m/\m<t.2:=Qm<|V2 I
  clear_value m
  obtain⟨z,G⟩:∃z,M[m]? =some z:=⟨_,RY<|by lia⟩;exact kj Y (h.cg.kind.trans X) (x:=y) (y:=z) (by rw[h.e];exact vL<|by lia) (by rw[h.e,Sf<|by lia,Sr<|by lia,<-G];congr 1;lia) (L y<|by rw[h.s];exact Sg _ SO) (L z<|by rw[h.s];exact SM _<|h.tm.mem.mp<|R4 G) (cS (λp=>Si<|F _ _ ⟨rfl,N.1,by lia,by lia,B,λi u f C=>UA (show κ.klt _ _ from p)<|h.sm.get f G C⟩) λp=>Si<|F _ _ ⟨rfl,N.2,H,by lia,λi u f C=>Vm (h.sm.get (WK f) C G)<|show κ.kle _ _ from Td.mpr p,v⟩)
 ·rintro t _ ⟨rfl,T,H,rl,B,v⟩
  exact⟨rfl,by lia,B,λi u f=>v i u<|by lia⟩
 ·rintro⟨l,r⟩ _ ⟨rfl,lk,B,v⟩
  dsimp only at lk B v;have e1:(arrOf j).toList=(P++M.take l)++(M.drop l++y::R):=by rw[h.e,<-wI,Tg]
  have tl:(M.take l).length=l:=by rw[Tp];lia
  have dl:(M.drop l).length=k-l:=by rw[T3];lia
  refine SW (F3 e1 (by grind) (by grind) λYE J Z=>Si<|F _ _ ⟨_,_,_,h.ins (l:=l) (λa K b p=>?_) (λb p a K=>?_) J Z⟩)
  ·cases Sd.mp p
   obtain⟨i,f⟩:=So K;have il:=(gI0.mp f).1;rw[Uh<|by lia]at f;exact B i a (by lia) f
  ·cases Sd.mp p
   obtain⟨i,f⟩:=So K;rw[Va]at f;exact v (l+i) a (by lia) f
def B5{L P X Y:Yb Keyed}(e:L=P++(X++Y)){i m:Nat}(a:i=P.length)(hm:m<=X.length):(L.drop i).take m=X.take m:=by grind
def Mj{L P X Y:Yb Keyed}(e:L=P++(X++Y)){i k n:Nat}(a:i=P.length)(f:n=X.length)(g:k<=n):(L.drop<|i+k).take (n-k)=X.drop k:=by
 have:L=(P++X.take k)++(X.drop k++Y):=by rw[e,<-wI,Tg]
 rw[B5 this (by grind)<|by grind];exact TJ (by grind)
def CB{A1 A2 B1 B2 M:Yb Keyed}(g:dM κ (A1++A2))(j:dM κ (B1++B2))(m:Below κ A1 (B1++B2))(i:Below κ (A1++A2) B2)(n:dM κ M)(f:cX κ M (A2++B1)):dM κ (A1++(M++B2))/\cX κ (A1++(M++B2)) ((A1++A2)++(B1++B2)):=by
 have l:∀x∈M,x∈A2\/x∈B1:=λx e=>Sz.mp<|f.mem.mp e;refine⟨g.left.append (n.append j.right λx e y a=>?_) λx e y a=>?_,?_⟩
 ·exact(l x e).elim (λh=>i x (Sg _ h) y a) λh=>j.mid x h y a
 ·obtain a|a:=Sz.mp a
  ·exact(l y a).elim (λh=>g.mid x e y h) λh=>m x e y<|SM _ h
  ·exact i x (SM _ e) y a
 ·have:cX κ (A1++(M++B2)) (A1++((A2++B1)++B2)):=(cX.refl _).append (f.append<|cX.refl _)
  rw[R8 A1 A2,<-R8 A2 B1 B2];exact this
def Iw{l:Yb Keyed}(h:1<=l.length):∃x r,l=x::r:=by
 cases l with
 |nil=>cases h
 |cons x r=>grind
structure Mg(κ:KeyKind)(zt Yk:SortSt)(P X Y R:Yb Keyed)(pend:Array (Nat×Nat×Nat)):Prop where
 kind:kindOf Yk=kindOf zt
 failed:failedOf Yk=failedOf zt
 pend:pendingOf Yk=pend
 ex:∃M,(arrOf Yk).toList=P++(M++R)/\dM κ M/\cX κ M (X++Y)
def IH{σ:Type}{M:Model}{A:X9}{E:Yd}{s:X5}{a zt:σ}{Q:PUnit->σ->Prop}(h:Q ⟨⟩ a):wpS M A E s (set a:StateT σ Sem PUnit) Q zt:=by
 unfold wpS;rw[StateT.run_set];exact RZ ⟨rfl,h⟩
def Lx [Decidable c]{F:α->StateT SortSt Sem β}(R:α->SortSt->Prop)(h:∀r a,R r a->wpS (model prog w) A E s (F r) Q a)(e:wpS (model prog w) A E s m1 R zt)(f:wpS (model prog w) A E s m2 R zt):wpS (model prog w) A E s (if c then m1 >>= F else m2 >>= F) Q zt:=cS (λ_=>SW<|wpS_mono e h) λ_=>SW<|wpS_mono f h
def sj(N:kh prog w A E s κ kd){zt:SortSt}{Q:Bool->SortSt->Prop}{P X Y R:Yb Keyed}{i l na pa n nb pb:Nat}(L:kindOf zt=kd)(hf:failedOf zt=none)(K:∀x∈(arrOf zt).toList,kN κ x)(p1:(pendingOf zt)[i]? =some (l,na,pa))(p2:(pendingOf zt)[i+1]? =some (n,nb,pb))
  (e:(arrOf zt).toList=P++(X++(Y++R)))(S:l=P.length)(W:na=X.length)(hb:n=l+na)(hy:nb=Y.length)(x1:1<=na)(y1:1<=nb)(B:dM κ X)(v:dM κ Y)
  (q:∀M,Mg κ zt M P X Y R (((pendingOf zt).setIfInBounds i (l,na+nb,pa)).eraseIdxIfInBounds<|i+1)->Q true M):wpS (model prog w) A E s (tK i) Q zt:=by
 have sz:(arrOf zt).size=P.length+(X.length+(Y.length+R.length)):=by rw[<-Sm,e,R3,R3,R3]
 have G:(arrOf zt).toList=(P++X)++(Y++R):=by rw[e,R8]
 obtain⟨Z,Y',O⟩:=Iw (show 1<=Y.length by lia);obtain⟨c,z,F⟩:=pj (show 1<=X.length by lia);have cl:c.length+1=na:=by rw[W,F,R3];rfl
 have ey:(arrOf zt)[n]? =some Z:=by
  rw[<-Sx,G,O];exact o8 (by grind)
 have ez:∀k,k<=na->0<na-k->(arrOf zt)[l+k+(na-k)-1]? =some z:=λk h1 h2=>by
  rw[<-Sx,e,F];exact pJ (by lia)
 have kX:=λu y=>K u (by rw[e];exact Sg _<|SM _ y);have kY:=λu y=>K u (by rw[e];exact Sg _<|Sg _<|SM _ y);have I:Below κ [Z] Y:=by rw[O]at v ⊢;exact v.head
 have g:Below κ X [z]:=by rw[F]at B ⊢;exact B.Kr<|UY _
 refine SW<|Wv ?_;rw[p1,p2];refine SW (IH<|cY ey<|pO N L (kY Z<|by rw[O];exact SO) K (show l+na<=(arrOf zt).size by lia) (by rw[B5 e S<|by lia];exact B.take _) (by lia) λk o bl un=>?_);rw[B5 e S<|by lia]at bl;rw[Mj e S W o]at un;refine dN (λc1=>?_) λc1=>?_
 ·rw[TJ<|by lia]at bl
  exact Si (q _ ⟨rfl,rfl,rfl,X++Y,by rw[R8];exact e,B.append v<|Below.over bl I,cX.refl _⟩)
 refine cY (ez k o<|by lia) (qL N L (kX z<|by rw[F];exact Sg _<|SK _) K (show n+nb<=(arrOf zt).size by lia) (by rw[B5 G (by rw[R3];lia)<|by lia];exact v.take _) (by lia) λm hm ul j=>?_);rw[B5 G (by rw[R3];lia)<|by lia]at ul;rw[Mj G (by rw[R3];lia) hy hm]at j;refine dN (λc2=>?_) λc2=>?_
 ·rw[c2,Ve]at j
  exact Si (q _ ⟨rfl,rfl,rfl,X++Y,by rw[R8];exact e,B.append v<|Below.over g j,cX.refl _⟩)
 have f:((arrOf zt).extract (l+k) n).toList=X.drop k:=by
  rw[Vx];have:=Mj e S W o
  rwa [show na-k=n-(l+k) by lia]at this
 have a:((arrOf zt).extract n<|n+m).toList=Y.take m:=by
  rw[qa];exact B5 G (by grind) (by lia)
 extract_lets -underBinder+onlyGivenNames ax ay
 have f:ax.toList=_:=f;have a:ay.toList=_:=a
 clear_value ax ay
 have T:ax.size=na-k:=by rw[<-Sm,f,T3];lia
 have ab:ay.size=m:=by rw[<-Sm,a,Tp];lia
 have ka:=λu y=>kX u (Wi<|by rw[<-f];exact y);have kb:=λu y=>kY u (Ub<|by rw[<-a];exact y);have J:dM κ ax.toList:=by rw[f];exact B.drop k
 have H:dM κ ay.toList:=by rw[a];exact v.take m
 have u1:Under κ (ay.toList.take 1) ax.toList:=by
  rw[a,f,List.take_take,O,VJ<|by lia];exact un
 have u2:Under κ ay.toList (ax.toList.drop<|ax.size-1):=by
  rw[a,f,T,drop_drop,F,List.drop_left'<|by lia];exact ul
 have xp:1<=ax.size:=by lia
 have yp:1<=ay.size:=by lia
 refine Lx (λr h=>Kept _ h/\jN κ ax ay r) ?_ (xS N L ka kb J H xp yp u1 u2 λr M=>.intro) (wX N L ka kb J H xp yp u1 u2 λr M=>.intro);rintro r h ⟨C,U⟩;have rl:r.toList.length=(X.drop k++Y.take m).length:=by rw[<-f,<-a];exact U.2.perm.length_eq
 refine SW<|Wk<|SW<|Wv<|Si ?_;show Q (failedOf h).isNone _;rw[C.failed.trans hf];have D:=U.2;rw[f,a]at D;have p:=CB (A1:=X.take k) (A2:=X.drop k) (B1:=Y.take m) (B2:=Y.drop m) (by rw[Tg];exact B) (by rw[Tg];exact v) (by rw[Tg];exact Below.over bl I) (by rw[Tg];exact Below.over g j) U.1 D;rw[Tg,Tg]at p;refine q _ ⟨C.kind,C.failed,C.pend,_,?_,p.1,p.2⟩;refine(qp r.toList 0 (l+k) (arrOf h) (P++X.take k) (X.drop k++Y.take m) (Y.drop m++R) ?_ rl ?_).trans ?_
 ·rw[C.arr,<-wI,<-R8 (X.take k),Tg,R8 X,<-R8 (Y.take m),Tg]
  exact e
 ·rw[R3,Tp]
  lia
 ·rw[R8 P,R8<|X.take k,R8 r.toList]
def zE:StateT SortSt Sem Unit:=sortPriv% PySem.Builtin.sortRuns
def iH(κ:KeyKind):Nat->Yb (Nat×Nat×Nat)->Yb (Yb Keyed)->Prop
 |_,[],[]=>True
 |off,p::ps,r::rs=>p.1=off/\p.2.1=r.length/\1<=p.2.1/\dM κ r/\iH κ (off+p.2.1) ps rs
 |_,_,_=>False
theorem iH.merge:∀(i off:Nat) (ps:Yb (Nat×Nat×Nat)) (rs:Yb (Yb Keyed)),iH κ off ps rs->i+1<ps.length->
  ∃e X Y h g a j m f n,ps[i]? =some (g,a,j)/\ps[i+1]? =some (m,f,n)/\rs=e++(X::Y::h)/\g=off+e.flatten.length/\a=X.length/\m=g+a/\f=Y.length/\1<=a/\1<=f/\dM κ X/\dM κ Y/\
   ∀M,dM κ M->M.length=a+f->iH κ off ((ps.set i (g,a+f,j)).eraseIdx<|i+1) (e++(M::h))
 |0,off,[],_,_,l=>by cases l
 |0,off,[p],_,_,l=>by have:1<1:=l;lia
 |0,off,(g,a,j)::(m,f,n)::ps,[],t,_=>t.elim
 |0,off,(g,a,j)::(m,f,n)::ps,[X],t,_=>t.2.2.2.2.elim
 |0,off,(g,a,j)::(m,f,n)::ps,X::Y::rs,⟨h1,h2,h3,h4,h5,h6,h7,h8,h9⟩,_=>by
  subst h1;refine⟨[],X,Y,rs,g,a,j,m,f,n,rfl,rfl,rfl,rfl,h2,h5,h6,h3,h7,h4,h8,λM o s=>⟨rfl,s.symm,?_,o,?_⟩⟩
  ·grind
  ·grind
 |i+1,off,[],_,_,l=>by cases l
 |i+1,off,p::ps,[],t,_=>t.elim
 |i+1,off,p::ps,r::rs,⟨h1,h2,h3,h4,h5⟩,l=>by
  obtain⟨e,X,Y,h,g,a,j,m,f,n,C,z,E,F,D,x,A,B,y,w,q,v⟩:=iH.merge i _ ps rs h5<|Nat.lt_of_succ_lt_succ l;refine⟨r::e,X,Y,h,g,a,j,m,f,n,C,z,by rw[E];rfl,?_,D,x,A,B,y,w,q,λM o s=>⟨h1,h2,h3,h4,v M o s⟩⟩;rw[Ur,R3,<-h2];lia
theorem iH.push:∀{off:Nat}{ps:Yb (Nat×Nat×Nat)}{rs:Yb (Yb Keyed)}{M:Yb Keyed}{pw:Nat},iH κ off ps rs->dM κ M->1<=M.length->iH κ off (ps++[(off+rs.flatten.length,M.length,pw)]) (rs++[M])
 |off,[],[],M,pw,_,sm,ml=>⟨by rw[List.flatten_nil];rfl,rfl,ml,sm,trivial⟩
 |off,[],_::_,M,pw,t,_,_=>t.elim
 |off,_::_,[],M,pw,t,_,_=>t.elim
 |off,p::ps,r::rs,M,pw,⟨h1,h2,h3,h4,h5⟩,sm,ml=>by
  refine⟨h1,h2,h3,h4,?_⟩;have:=iH.push (pw:=pw) h5 sm ml;rw[Ur,R3,<-h2,<-Nat.add_assoc];exact this
theorem iH.power:∀(i:Nat){off:Nat}{ps:Yb (Nat×Nat×Nat)}{rs:Yb (Yb Keyed)}{pw:Nat},iH κ off ps rs->iH κ off (ps.modify i λp=>(p.1,p.2.1,pw)) rs
 |0,off,[],[],pw,_=>trivial
 |0,off,[],_::_,pw,t=>t.elim
 |0,off,_::_,[],pw,t=>t.elim
 |0,off,p::ps,r::rs,pw,t=>t
 |i+1,off,[],[],pw,_=>trivial
 |i+1,off,[],_::_,pw,t=>t.elim
 |i+1,off,_::_,[],pw,t=>t.elim
 |i+1,off,p::ps,r::rs,pw,⟨h1,h2,h3,h4,h5⟩=>⟨h1,h2,h3,h4,iH.power i h5⟩
theorem iH.len:∀{off:Nat}{ps:Yb (Nat×Nat×Nat)}{rs:Yb (Yb Keyed)},iH κ off ps rs->ps.length<=rs.flatten.length
 |off,[],[],_=>Tq _
 |off,[],_::_,t=>t.elim
 |off,_::_,[],t=>t.elim
 |off,p::ps,r::rs,⟨h1,h2,h3,h4,h5⟩=>by
  have:=iH.len h5;rw[Ur,R3,<-h2];show ps.length+1<=_;lia
def iH.one{ps:Yb (Nat×Nat×Nat)}{a:Yb (Yb Keyed)}{off:Nat}(t:iH κ off ps a)(h:ps.length<=1):dM κ a.flatten:=by
 cases ps with
 |nil=>
  cases a with
  |nil=>exact List.Pairwise.nil
  |cons r a=>exact t.elim
 |cons p ps=>
  cases ps with
  |cons f ps=>grind
  |nil=>
   cases a with
   |nil=>exact t.elim
   |cons r a=>
    cases a with
    |nil=>rw[Ur,List.flatten_nil,SH];exact t.2.2.2.1
    |cons e a=>exact t.2.2.2.2.elim
def Le{c:Prop} [Decidable c]{n:Nat}(h:1<n):(if c then n-2-1 else n-2)+1<n:=by grind
structure RI(κ:KeyKind)(kd:SortKind)(a₀:Yb Keyed)(lo:Nat)(S:Yb Keyed)(zt:SortSt):Prop where
 kind:kindOf zt=kd
 failed:failedOf zt=none
 stb:cX κ (arrOf zt).toList a₀
 ex:∃Rs,iH κ 0 (pendingOf zt).toList Rs/\(arrOf zt).toList=Rs.flatten++S/\Rs.flatten.length=lo
def RI.keys{a S:Yb Keyed}{lo:Nat}{zt:SortSt}(h:RI κ kd a lo S zt)(e:∀x∈a,kN κ x):∀x∈(arrOf zt).toList,kN κ x:=λx f=>e x<|h.stb.mem.mp f
def lx(P:kh prog w A E s κ kd){a S:Yb Keyed}{lo i:Nat}{zt:SortSt}{Q:Bool->SortSt->Prop}(K:∀x∈a,kN κ x)(h:RI κ kd a lo S zt)(G:i+1<(pendingOf zt).size)
  (q:∀f,RI κ kd a lo S f->(pendingOf f).size+1=(pendingOf zt).size->Q true f):wpS (model prog w) A E s (tK i) Q zt:=by
 obtain⟨Rs,t,e,l⟩:=h.ex;obtain⟨g,X,Y,j,U,B,W,sb,r,Z,T,L,rfl,C,H,I,z,R,J,p,n,o⟩:=t.merge i 0 _ _ (by rw[Sm];exact G);rw[Uq]at C;have y:(arrOf zt).toList=g.flatten++(X++(Y++(j.flatten++S))):=by
  rw[e,WE,Ur,Ur,R8,R8,R8]
 refine sj P h.kind h.failed (h.keys K) (by rw[<-Sx];exact T) (by rw[<-Sx];exact L) y C H I z R J p n λf m=>?_;obtain⟨M,D,O,F⟩:=m.ex;have N:M.length=B+r:=by rw[F.perm.length_eq,R3,H,z]
 have v:(pendingOf f).toList=((pendingOf zt).toList.set i (U,B+r,W)).eraseIdx (i+1):=by
  rw[m.pend,Array.toList_eraseIdxIfInBounds,W5]
 refine q f ⟨m.kind.trans h.kind,m.failed.trans h.failed,cX.trans ?_ h.stb,g++(M::j),by rw[v];exact o M O N,?_,?_⟩ ?_
 ·rw[D,y,<-R8 X]
  exact(cX.refl _).append (F.append<|cX.refl _)
 ·rw[D,WE,Ur,R8,R8]
 ·rw[<-l,WE,WE,Ur,Ur,Ur,R3,R3,R3,R3,R3]
  lia
 ·rw[<-Sm,v,List.length_eraseIdx,Sb<|by rw[List.length_set,Sm];exact G,List.length_set,Sm]
  lia
def RI.push{a M R:Yb Keyed}{lo n:Nat}{zt g:SortSt}(h:RI κ kd a lo (M++R) zt)(m:dM κ M)(i:M.length=n)(p:1<=n)(k:kindOf g=kindOf zt)(f:failedOf g=failedOf zt)(j:arrOf g=arrOf zt)(o:pendingOf g=(pendingOf zt).push (lo,n,0)):RI κ kd a (lo+n) R g:=by
 obtain⟨Rs,t,e,l⟩:=h.ex;refine⟨k.trans h.kind,f.trans h.failed,by rw[j];exact h.stb,Rs++[M],?_,?_,?_⟩
 ·rw[o,toList_push]
  have:=t.push (pw:=0) m (by lia)
  rwa [Uq,l,i]at this
 ·grind
 ·grind
def RI.power{a S:Yb Keyed}{lo i pw:Nat}{zt g:SortSt}(h:RI κ kd a lo S zt)(k:kindOf g=kindOf zt)(f:failedOf g=failedOf zt)(j:arrOf g=arrOf zt)(m:pendingOf g=(pendingOf zt).modify i λp=>(p.1,p.2.1,pw)):RI κ kd a lo S g:=by
 obtain⟨Rs,t,e,l⟩:=h.ex;exact⟨k.trans h.kind,f.trans h.failed,by rw[j];exact h.stb,Rs,by rw[m,Array.toList_modify];exact t.power i,by rw[j];exact e,l⟩
def RI.Jj{a M R:Yb Keyed}{lo n i pw:Nat}{zt e:SortSt}(h:RI κ kd a lo (M++R) zt)(m:dM κ M)(g:M.length=n)(l:1<=n)(k:kindOf e=kindOf zt)(f:failedOf e=failedOf zt)(j:arrOf e=arrOf zt)(o:pendingOf e=((pendingOf zt).modify i λp=>(p.1,p.2.1,pw)).push (lo,n,0)):RI κ kd a (lo+n) R e:=
 RI.push (zt:=setPending zt<|(pendingOf zt).modify i λp=>(p.1,p.2.1,pw)) (h.power rfl rfl rfl rfl) m g l k f j o
def RI.asc{a S M O R:Yb Keyed}{lo n:Nat}{zt f:SortSt}{Rs:Yb (Yb Keyed)}(h:RI κ kd a lo S zt)(t:iH κ 0 (pendingOf zt).toList Rs)(e:(arrOf zt).toList=Rs.flatten++S)(l:Rs.flatten.length=lo)(as:zS κ zt Rs.flatten S n M O R f):RI κ kd a lo (M++R) f:=by
 refine⟨as.cg.kind.trans h.kind,as.cg.failed.trans h.failed,cX.trans ?_ h.stb,Rs,by rw[as.cg.pend];exact t,as.e,l⟩;rw[as.e,e,as.s];exact(cX.refl _).append (as.tm.append<|cX.refl _)
def qZ(I:kh prog w A E s κ kd){zt:SortSt}{Q:Unit->SortSt->Prop}(hk:kindOf zt=kd)(hf:failedOf zt=none)(hp:pendingOf zt= #[])(J:∀x∈(arrOf zt).toList,kN κ x)
  (q:∀f,failedOf f=none->dM κ (arrOf f).toList->cX κ (arrOf f).toList (arrOf zt).toList->Q () f):wpS (model prog w) A E s zE Q zt:=by
 obtain⟨a,j⟩:∃a,a=(arrOf zt).toList:=⟨_,rfl⟩;rw[<-j]at J q;have r:∀{g S f},RI κ kd a g S f->g+S.length=(arrOf zt).size:=λ{g S f} h=>by
  obtain⟨Rs,t,e,l⟩:=h.ex;rw[<-Sm,<-j,<-h.stb.perm.length_eq,e,R3,l]
 refine SW (Wv<|eS (λx g f=>x<=g/\∃S,RI κ kd a g S f) (λg f=>RI κ kd a g [] f) (λ_ _=>False) ⟨R9 0,_,hk,hf,by rw[j];exact cX.refl _,[],by rw[hp];trivial,rfl,rfl⟩ ?_ ?_ nofun ?_)
 ·rintro g x F hx ⟨D,S,i⟩ Q q1 C B
  have Y:=r i;refine cS (λW=>?_) λW=>?_
  ·have P:S=[]:=SX (by grind)
   subst P;exact Si<|C _ _ i
  obtain⟨Rs,t,e,l⟩:=i.ex;have kS:∀u∈S,kN κ u:=λu hu=>i.keys J u (by grind);refine SW (qA I i.kind kS e l.symm (by grind) (VU<|V2 W) λn YE M O R z nn y=>?_);dsimp -zeta only
  extract_lets -underBinder+onlyGivenNames m jp
  suffices hj:∀n p M R,1<=n->RI κ kd a g (M++R) p->dM κ M->M.length=n->wpS (model prog w) A E s (jp () n) Q p by
   refine cS (λX=>nH ?_) λX=>hj _ _ _ _ z (i.asc t e l y) y.sm y.m;have H:n<=min ((arrOf zt).size-g) _:=Nat.le_min.mpr ⟨nn,Vo X⟩;exact SW (nV I i.kind kS l.symm (SF (WW _ _)<|by grind) z H y λp M O R y=>cS nofun λ_=>hj _ _ _ _ (SF z H) (i.asc t e l y) y.sm y.m)
  refine λn p M R z G U T=>SW<|Wv ?_;cases (pendingOf p).back? with
  |none=>exact SW<|Wk<|Si<|B _ _ ⟨Nat.add_le_add D z,R,G.push U T z rfl rfl rfl rfl⟩
  |some bk=>
  refine eS (λ_ _ f=>RI κ kd a g (M++R) f) (λ_ f=>RI κ kd a g (M++R) f) (λ_ _=>False) G (λ_ _ o _ v Q q1 C B=>SW<|Wv ?_) (λ_ _ h=>h) nofun λ_ o v=>SW<|Wk<|SW<|Wk<|Si<|B _ _ ⟨Nat.add_le_add D z,R,v.Jj U T z rfl rfl rfl rfl⟩;dsimp only;by_cases Z:(pendingOf o).size > 1
  ·rw[Sb Z,getElem?_pos (pendingOf o) ((pendingOf o).size-2)<|by lia]
   exact cS (λ_=>Si<|C _ _ v) λ_=>SW (lx I J v (show(pendingOf o).size-2+1<(pendingOf o).size by lia) λab K _=>Si<|B _ _ K)
  ·rw[R7 Z]
   exact Si<|C _ _ v
 ·rintro g f ⟨hx,S,i⟩
  have:=r i;have P:S=[]:=SX (by lia);subst P;exact i
 ·intro g F i
  have Y:g=(arrOf zt).size:=r i;have pl:(pendingOf F).size<=(arrOf zt).size:=by
   obtain⟨Rs,t,e,l⟩:=i.ex;rw[<-Y,<-l,<-Sm];exact t.len
  refine eS (λx _ f=>RI κ kd a g [] f/\(pendingOf f).size+x<=(arrOf zt).size) (λ_ f=>RI κ kd a g [] f/\(pendingOf f).size<=1) (λ_ _=>False) ⟨i,pl⟩ (λ_ x YE hx h Q q1 C B=>SW<|Wv<|cS (λL=>Si<|C _ _ ⟨h.1,L⟩) λL=>SW<|lx I J h.1 (Le<|V2 L) λac N h3=>Si<|B _ _ ⟨N,by have:=h.2;lia⟩) (λ_ f h=>⟨h.1,by have:=h.2;lia⟩) nofun λ_ f h=>?_;obtain⟨Rs,t,e,l⟩:=h.1.ex;rw[SH]at e;exact Si (q f h.1.failed (by rw[e];exact t.one<|by rw[Sm];exact h.2) h.1.stb)
def intKind:KeyKind where
 α:=Int
 blt a b:=decide<|a<b
 irrefl a:=by simp
 trans a b c h1 h2:=by
  rw[Sw]at *;lia
 negTrans a b c h:=by
  rw[Sw]at *;rw[Sw];lia
 total a b h1 h2:=by
  rw[V3]at *;lia
 keyOf v:=match v with
  |.int n _=>some n
  |_=>none
 dflt:=0
def DP:kh prog w A E s intKind oneType':=by
 rintro⟨x,p⟩ ⟨y,q⟩ zt Q hk ⟨a,ha⟩ ⟨b,hb⟩ h;cases x<;>cases ha;cases y<;>cases hb;rw[lt'_eq];refine SW<|Wv ?_;rw[hk,keyLt'_oneType];exact SW<|wpS_lift<|VL<|oneLt_int ⟨rfl,Si h⟩
theorem wpAny_forIn_list{M:Model}{α β:Type}{f:α->β->Sem (ForInStep β)}(I:Yb α->β->X5->Prop){Q:β->X5->Prop}(j:∀x r b s,I (x::r) b s->wpAny M A (f x b) (λz s'=>∃a,z=.yield a/\I r a s') E s)(i:∀b s,I [] b s->Q b s):∀(l:Yb α) (b:β) (s:X5),I l b s->wpAny M A (forIn l b f) Q E s
 |[],b,s,h=>by
  rw[List.forIn_nil];exact RZ<|i b s h
 |x::r,b,s,h=>by
  rw[forIn_cons];refine RX<|SJ (j x r b s h) (λz s' g=>?_) λ_ _ e=>e;obtain⟨a,rfl,g⟩:=g;exact wpAny_forIn_list I j i r a s' g
inductive KeysAre(R:X3->Int->Prop):Yb X3->Yb X3->Prop
 |nil:KeysAre R [] []
 |snoc {vs a:Yb X3}{v:X3}{i:Int}{t:Tok}(h:KeysAre R vs a)(r:R v i):KeysAre R (vs++[v]) (a++[.int i t])
def KeysAre.ints{R:X3->Int->Prop}{vs a:Yb X3}(h:KeysAre R vs a):∀k∈a,∃n t,k=.int n t:=by
 induction h with
 |nil=>grind
 |snoc h r e=>grind
def KeysAre.len(h:KeysAre R vs ks):ks.length=vs.length:=by
 induction h with
 |nil=>rfl
 |snoc h r a=>grind
def Ca:Array X3->Sem SortKind:=sortPriv% PySem.Builtin.keyKind
def zq{vs:Yb X3}(h:¬vs.length<2):∃a e rest,vs=a::e::rest:=by
 match vs,h with
 |[],h=>exact absurd (show 0<2 by decide) h
 |[_],h=>exact absurd (show 1<2 by decide) h
 |a::e::rest,_=>exact⟨a,e,rest,rfl⟩
def B6{l:Yb α}(h:l.length<2):l.Pairwise R:=by
 cases l with
 |nil=>exact .nil
 |cons a r=>
  cases r with
  |nil=>grind
  |cons b t=>grind
def rO {G:X5->Prop}{vs:Yb X3}{n:Nat}{P:Fin->X5->Prop}(O:s.heap.get? a=some (seqObj "list" vs.toArray n)) (vl:vs.length<=sizeLine)
  (g0:G { s with heap:=((s.heap.update a<|Obj.mapSeq λ_=> #[]).push<|seqObj "tuple" vs.toArray 0).push (seqObj "list" #[] 0) })
  (gu:∀s' g,G s'->G { s' with heap:=s'.heap.update (s.heap.objs.size+1) (Obj.mapSeq g) })
  (gc:∀x∈vs,∀s',G s'->wpAny (model prog w) A (call (.ref f) [x]) (λk F=>(∃i t,k=.int i t/\R x i)/\G F/\(∀b o,(b=a\/b=s.heap.objs.size+1)->s'.heap.get? b=some o->F.heap.get? b=some o)) (λ_ _=>False) s')
  (fin:∀s' (j:Yb X3) (arr:Array Keyed),G s'->(∃e,s'.heap.get? a=some (seqObj "list" #[] e))->KeysAre R vs j->dM intKind arr.toList->cX intKind arr.toList (j.zip vs)->P (.done<|.ret .none) { s' with heap:=(s'.heap.update (s.heap.objs.size+1)<|Obj.mapSeq λ_=> #[]).update a (Obj.mapSeq λ_=>arr.map (·.2)) }):
  wpAny (model prog w) A (Builtin.«list.sort» ⟨[.ref a],[(Str.ofString "key",.ref f)]⟩) P E s:=by
 unfold Builtin.«list.sort»;dsimp only[length_cons,length_nil];have l1:List.lookup (Str.ofString "key") [(Str.ofString "key",Value.ref f)]=some (.ref f):=by grind
 have l2:List.lookup (Str.ofString "reverse") [(Str.ofString "key",Value.ref f)]=none:=by
  rw[WB,show(Str.ofString "reverse" == Str.ofString "key")=false by decide+kernel];rfl
 have l3:(Value.ref f != Value.none)=true:=rfl;have l4:(Str.ofString "key" != Str.ofString "key")=false:=by decide+kernel
 rw[R7<|by decide,R7<|by decide,l1,l2];simp only[l3,if_true,forIn_cons,List.forIn_nil,l4,Bool.false_and,false_eq_true,if_false];have ha:=Sv O;refine RX<|RX<|RZ<|RZ ?_;refine RX<|RZ ?_;refine RX<|listItems_at O rfl ?_;refine RX<|V4 O rfl ?_;obtain⟨v,K⟩:∃v,(s.heap.update a<|Obj.mapSeq λ_=> #[]).get? a=some (seqObj "list" #[] v):=⟨_,get?_update_seq O λ_=> #[]⟩;refine RX<|seqEpoch_at K rfl ?_;refine RX<|wpAny_newTuple ?_;refine RX<|wpAny_newList ?_;refine Tf ?_;have hN:(s.heap.update a<|Obj.mapSeq λ_=> #[]).objs.size=s.heap.objs.size:=Xg _ _ _;have z:((s.heap.update a<|Obj.mapSeq λ_=> #[]).push<|seqObj "tuple" vs.toArray 0).objs.size=s.heap.objs.size+1:=by rw[size_push',hN]
 have C:(((s.heap.update a<|Obj.mapSeq λ_=> #[]).push<|seqObj "tuple" vs.toArray 0).push<|seqObj "list" #[] 0).get? a=some (seqObj "list" #[] v):=by
  rw[V8 _ _ _<|by rw[z];exact Ss<|V6 ha,V8 _ _ _<|by rw[hN];exact Ss ha];exact K
 have L:(((s.heap.update a<|Obj.mapSeq λ_=> #[]).push<|seqObj "tuple" vs.toArray 0).push<|seqObj "list" #[] 0).get? (s.heap.objs.size+1)=some (seqObj "list" #[] 0):=by
  rw[<-z];exact Sl _ rfl
 simp only[z];generalize ai:((s.heap.update a<|Obj.mapSeq λ_=> #[]).push<|seqObj "tuple" vs.toArray 0).push (seqObj "list" #[] 0)=q at g0 C L;have Y:s.heap.objs.size+1≠a:=VH<|V6 ha;have Yu:vs.toArray.size=vs.length:=SI;refine RX<|Ue ?_;rw[List.forIn_toArray];refine RX (SJ (wpAny_forIn_list (I:=λrest _ s'=>∃J j B,vs=J++rest/\KeysAre R J j/\G s'/\s'.heap.get? a=some (seqObj "list" #[] v)/\s'.heap.get? (s.heap.objs.size+1)=some (seqObj "list" j.toArray B))
  (Q:=λ_ s'=>∃j B,KeysAre R vs j/\G s'/\s'.heap.get? a=some (seqObj "list" #[] v)/\s'.heap.get? (s.heap.objs.size+1)=some (seqObj "list" j.toArray B)) ?step ?fin' vs _ _ ⟨[],[],0,rfl,.nil,g0,C,L⟩) ?post λ_ _ e=>e)
 case fin'=>
  rintro b s' ⟨J,j,B,e,k,g,q,y⟩;rw[SH]at e;subst e;exact⟨j,B,k,g,q,y⟩
 case step=>
  rintro x r b s' ⟨J,j,B,e,k,g,q,y⟩;have mx:x∈vs:=by rw[e];exact Sg _ SO
  have kl:j.length+1<=vs.length:=by rw[k.len,e,R3];show _<=_+(_+1);lia
  refine RX<|VL<|SJ (gc x mx s' g) (λkv X h=>?_) λ_ _ h=>False.elim h;obtain⟨⟨i,t,rfl,ri⟩,g2,kp⟩:=h;have D:=kp _ _ (.inr rfl) y;refine RX (V4 D rfl ?_ (by grind) (by grind));have M:=get?_update_seq D λx=>x.push<|.int i t;simp only[List.push_toArray]at M;refine RZ ⟨_,rfl,J++[x],j++[.int i t],_,by rw[e,R8];rfl,k.snoc ri,gu _ _ g2,?_,M⟩;exact(Us _ _ _ _ Y.symm).trans (kp _ _ (.inl rfl) q)
 case post=>
  rintro _ s' ⟨j,B,k,g,q,y⟩;have kl:=k.len;refine RX<|listItems_at y rfl ?_;simp only[false_eq_true,if_false];have k2:j.toArray.size=j.length:=SI;have al:∀{l:SortSt},cX intKind (arrOf l).toList (j.zip vs)->(arrOf l).size=vs.length:=λ{l} h=>by
   rw[<-Sm,h.perm.length_eq,WX,kl,Xy]
  by_cases H:vs.toArray.size<2
  ·rw[Sb H]
   refine RX<|RZ ?_;rw[Sb H,StateT.run_pure];refine RX<|RZ ?_;have N:(j.toArray.zip vs.toArray).toList=j.zip vs:=by rw[Array.toList_zip]
   have T:=fin s' j (j.toArray.zip vs.toArray) g ⟨v,q⟩ k (by
    rw[N];have ab:(j.zip vs).length<2:=by rw[WX,kl,Xy,<-Yu];exact H
    exact B6 ab) (by rw[N];exact cX.refl _)
   refine RX (V4 y rfl ?_ (by rw[SI];lia) (by show 0<=_;lia));refine RX<|Xm ?_;have m:(s'.heap.update (s.heap.objs.size+1)<|Obj.mapSeq λ_=> #[]).get? a=some (seqObj "list" #[] v):=(Us _ _ _ _ Y.symm).trans q;refine RX<|seqEpoch_at m rfl ?_;refine RX (V4 m rfl ?_ (by show 0<=_;lia) (by rw[Array.size_map,Array.size_zip,SI,SI];lia));simp only[bne_self_eq_false,false_eq_true,if_false];exact RZ T
  ·rw[R7 H]
   have S:Ca j.toArray=pure oneType':=by
    obtain⟨ac,ad,rest,e⟩:=zq (vs:=j) (by lia);have:=intsAre_map j k.ints;rw[e]at this ⊢;exact keyKind_ints this
   refine RX<|wpAny_of_eq S ?_;rw[R7 H];have N:(j.toArray.zip vs.toArray).toList=j.zip vs:=by rw[Array.toList_zip]
   refine RX (SJ (qZ (κ:=intKind) DP (zt:=SortSt.mk' oneType' (j.toArray.zip vs.toArray) #[] 7 none)
    (Q:=λ_ l=>failedOf l=none/\dM intKind (arrOf l).toList/\cX intKind (arrOf l).toList (j.zip vs)) rfl rfl rfl (λp hp=>?_) λl W f2 f3=>⟨W,f2,by rw[<-N];exact f3⟩) ?_ λ_ _ e=>e)
   ·have U:p∈j.zip vs:=by rw[<-N];exact hp
    obtain⟨n',t',e'⟩:=k.ints p.1 (XG<|show(p.1,p.2)∈j.zip vs from U).1;exact⟨n',by rw[e'];rfl⟩
   ·rintro⟨⟨⟩,l⟩ X ⟨rfl,W,f2,f3⟩
    have T:=fin X j (arrOf l) g ⟨v,q⟩ k f2 f3;refine RX (V4 y rfl ?_ (by lia) (by show 0<=_;lia));refine RX<|Xm ?_;have m:(X.heap.update (s.heap.objs.size+1)<|Obj.mapSeq λ_=> #[]).get? a=some (seqObj "list" #[] v):=(Us _ _ _ _ Y.symm).trans q;refine RX<|seqEpoch_at m rfl ?_;refine RX (V4 m rfl ?_ (by show 0<=_;lia) (by grind));have Z:(sortPriv% PySem.Builtin.SortState.failed) l=none:=W;rw[Z];simp only[bne_self_eq_false,false_eq_true,if_false];exact RZ T
end TS
namespace L2
def Un.over{fs ex:Yb X4}{H H1:Hp}{h i g:Heap}(u:Un fs ex H H1 h i)(k:∀b,b<h.objs.size->g.get? b=i.get? b):Un fs ex H H1 h g where
 keep:=λb o q n f a=>(k b<|Sv q).trans<|u.keep b o q n f a
 slot:=λb o q n f a=>by
  obtain⟨sl,e⟩:=u.slot b o q n f a;exact⟨sl,(k b<|Sv q).trans e⟩
 free:=u.free
 there:=λb o q a=>by
  obtain⟨j,e⟩:=u.there b o q a;exact⟨j,(k b<|Sv q).trans e⟩
 tups:=u.tups
 frzs:=u.frzs
 tbls:=u.tbls
def Un.xB{fs ex:Yb X4}{H:Hp}{h f:Heap}{a:X4}{o:HO}(u:Un fs ex H H h f)(g:h.objs.size<=a)(e:H a=none):Un fs ex H (upd H a o) h f where
 keep:=u.keep
 slot:=u.slot
 free:=λb i q n m=>by rw[cI<|Ss<|SA (Sv q) g];exact n
 there:=u.there
 tups:=λb j q=>by rw[cI<|cH q e];exact q
 frzs:=λb i j q=>by rw[cI<|cH q e];exact q
 tbls:=λb l q=>⟨#[],by rw[cI<|cH q e,q];simp⟩
def fM.over{P:X6}{w:X7}{H:Hp}{h0 h h':Heap}(x0:fM P w H h0)(x:fM P w H h)(k:∀b,b<h0.objs.size->h'.get? b=h.get? b):fM P w H h':=λa o e=>
 (x a o e).gD (λb u f q=>(k b<|f.elim (λz=>z ▸ x0.lt e) λz=>x0.lt z).trans q) (λ_ q=>q) λ_ _ q=>q
def fM.xB{P:X6}{w:X7}{H:Hp}{h:Heap}{a:X4}{o:HO}(x:fM P w H h)(g:H a=none)(new:cV P w (upd H a o) h a o):fM P w (upd H a o) h:=λb u e=>by
 by_cases f:b=a
 ·subst f
  rw[cG]at e;grind
 ·rw[cI f]at e
  exact(x b u e).gD (λc v _ q=>q) (λc q=>by rw[cI<|cH q g];exact q) λc i q=>by rw[cI<|cH q g];exact q
def o7(a v:X3):argsOk "sorted" ⟨[a],[(Str.ofString "key",v)]⟩:=by unfold argsOk;kernel_rfl
def qw(a v:X3):argsOk "list.sort" ⟨[a],[(Str.ofString "key",v)]⟩:=by unfold argsOk;kernel_rfl
def eE:X3->X4
 |.ref a=>a
 |_=>0
def FJ(g:X4->Int)(v:X3)(i:Int):Prop:=∃a,v=.ref a/\g a=i
def Co{g:X4->Int}{vs i:Yb X3}(h:TS.KeysAre (FJ g) vs i):∀p∈i.zip vs,TS.key TS.intKind p=g (eE p.2)/\p.2=.ref (eE p.2):=by
 induction h with
 |nil=>simp_all
 |snoc h r j=>
  intro p f;rw[List.zip_append h.len]at f;obtain f|f:=Sz.mp f
  ·exact j p f
  ·cases Sd.mp f
   obtain⟨a,rfl,e⟩:=r;exact⟨e.symm,rfl⟩
theorem AF:∀{as:Yb X4}{e:Yb X3},Vals (as.map V.ref) e->e=as.map Value.ref
 |[],[],_=>rfl
 |[],_::_,h=>by cases h
 |_::_,[],h=>by cases h
 |a::as,v::e,h=>by
  cases h with
  |cons r t=>
   cases r;rw[SV,AF t]
theorem tJ:∀(as:Yb X4),Vals (as.map V.ref) (as.map Value.ref)
 |[]=>.nil
 |a::as=>.cons rfl<|tJ as
inductive L5(K:Frag)(sp:Sp)(xs:Yb V)(H:Hp)(Q:VK):Prop
 |mk(p:X4)(as:Yb X4)(g:X4->Int)(e:xs=[.ref p])(s:cP K H p (as.map V.ref))(h:∀a∈as,∀f:VK,f (.int (g a)) H->sp [.ref a] H f E0)
   (q:∀(l:X4)(zs:Yb X4),H l=none->zs.Perm as->zs.Pairwise (λa b=>g a<=g b)->(∀i,zs.filter (λa=>decide (g a=i))=as.filter (λa=>decide (g a=i)))->Q (.ref l) (upd H l (.lst (zs.map V.ref))))
def zz{k:Nat}{f:X4}{fd:FuncData}{ps:Yb Yc}{sp:Sp}(F:dZ X.prog X.w X.K X.mg X.base mH k f fd ps sp)(hr:dB (k+2) X.A)(B:Binds X.K fd ps []){Yi:Yg}{s:X5}{σ:St}{H:Hp}{xs:Yb V}{us:Yb X3}{Q:VK}
  (I:Inv X Yi σ H s)(r:Vals xs us)(h:L5 X.K sp xs H Q):wpAny (model X.prog X.w) X.A (call (.builtin "sorted") us [(Str.ofString "key",.ref f)]) (EP X Yi σ Q) X.xe s:=by
 obtain⟨p,n,g,rfl,hq,hs,q⟩:=h;obtain⟨u,rfl,rx⟩:=vals1 r;cases rx;obtain⟨Yl,rv,pl,hz⟩:=I.list hq;obtain rfl:=AF rv;rw[R5]at hz;refine call_function_entry_kw kind_sorted plain_sorted entry_sorted (o7 _ _) ?_;unfold Builtin.«sorted»;refine RX<|RZ ?_;refine RX<|collect_list pl.isList ?_;refine RX<|wpAny_newList ?_;have Yu:((s.heap.push<|seqObj "list" #[] 0).update s.heap.objs.size<|Obj.mapSeq (· ++(n.map Value.ref).toArray)).objs.size=s.heap.objs.size+1:=by simp_all
 have N:(((s.heap.push<|seqObj "list" #[] 0).update s.heap.objs.size<|Obj.mapSeq (· ++(n.map Value.ref).toArray)).push<|seqObj "list" (n.map Value.ref).toArray 0).get? (s.heap.objs.size+1)=some (seqObj "list" (n.map Value.ref).toArray 0):=by
  rw[<-Yu];exact Sl _ rfl
 rw[Yu];have hold:∀b,b<s.heap.objs.size->(((s.heap.push<|seqObj "list" #[] 0).update s.heap.objs.size<|Obj.mapSeq (· ++(n.map Value.ref).toArray)).push<|seqObj "list" (n.map Value.ref).toArray 0).get? b=s.heap.get? b:=λb B=>by
  rw[V8 _ _ _<|by grind,Us _ _ _ _<|Ss B,V8 _ _ _<|Ss B]
 have E:(((s.heap.push<|seqObj "list" #[] 0).update s.heap.objs.size<|Obj.mapSeq (· ++(n.map Value.ref).toArray)).push<|seqObj "list" (n.map Value.ref).toArray 0).objs.size=s.heap.objs.size+2:=by rw[size_push',Yu]
 generalize ((s.heap.push<|seqObj "list" #[] 0).update s.heap.objs.size<|Obj.mapSeq (· ++(n.map Value.ref).toArray)).push (seqObj "list" (n.map Value.ref).toArray 0)=W at N hold E;have na:=I.hok.fresh<|VP _;have T:∀b,s.heap.objs.size<=b->b ∉ iD X.stack:=λb B hm=>by
  obtain⟨_,o,e,_⟩:=I.stack.mem hm;exact absurd (Sv e)<|Nat.not_lt.mpr B
 refine RX (Tf (wpAny_call_entry_kw slot_list_sort ⟨_,N,rfl⟩ entry_list_sort (TS.rO (R:=FJ g)
  (G:=λm=>m.os=s.os/\AllBare m.gens/\Un (iD X.stack) [] H H s.heap m.heap/\fM X.prog X.w H m.heap) N (by grind) ?g0 ?gu ?gc ?fin)<|qw _ _))
 case g0=>
  have k:∀b,b<s.heap.objs.size->(((W.update (s.heap.objs.size+1)<|Obj.mapSeq λ_=> #[]).push<|seqObj "tuple" (n.map Value.ref).toArray 0).push<|seqObj "list" #[] 0).get? b=s.heap.get? b:=λb B=>by
   rw[V8 _ _ _<|Ss<|by rw[size_push',Xg,E];lia,V8 _ _ _<|Ss<|by rw[Xg,E];lia,Us _ _ _ _<|Ss<|by lia,hold b B]
  exact⟨rfl,I.bare,Un.refl.over k,fM.over I.hok I.hok k⟩
 case gu=>
  rintro m gg ⟨O,bare,un,C⟩;have k:∀b,b<s.heap.objs.size->(m.heap.update (W.objs.size+1)<|Obj.mapSeq gg).get? b=m.heap.get? b:=λb B=>Us _ _ _ _ (Ss<|by rw[E];lia);exact⟨O,bare,un.over k,fM.over I.hok C k⟩
 case gc=>
  rintro v hv m ⟨O,bare,un,C⟩;obtain⟨a,ha,rfl⟩:=SQ.mp hv;have I':Inv X Yi σ H m:=I.tE O un C bare (λb z=>by cases z);have Z:=hs a ha (λv H'=>v=.int (g a)/\H'=H) ⟨rfl,rfl⟩;have hl:([Value.ref a]++([]:Yb X3)).length=ps.length:=F.len _ _ _ _ Z;refine WU<|UD (F.run X.A.in1.in1 X.stack m H ⟨[.ref a],[]⟩ [.ref a] [.ref a] _ E0 hr.in1.in1 I'.Iy.in1.in1 (B m [.ref a] I'.jm hl) (.cons rfl .nil) Z) λrr s2 U=>?_;cases rr with
  |error e=>exact False.elim U
  |ok fl=>
   cases fl with
   |next=>exact False.elim U
   |brk=>exact False.elim U
   |cont=>exact False.elim U
   |ret u=>
    obtain⟨v,H',Pp,M,J,S,ac,rfl,rfl⟩:=U;obtain⟨t,rfl⟩:=ac;refine⟨⟨_,t,rfl,a,rfl,rfl⟩,⟨Pp.trans O,M,un.trans J,S⟩,λb o B hg=>?_⟩;obtain rfl|rfl:=B
    ·exact J.keep _ _ hg na (T _<|VP _) (λz=>by cases z)
    ·exact J.keep _ _ hg (I.hok.fresh<|by rw[E];lia) (T _<|by rw[E];lia) (λz=>by cases z)
 case fin=>
  rintro m ks j ⟨O,bare,un,C⟩ ⟨e1,ap⟩ kk aq L;refine⟨_,rfl,RZ ⟨_,rfl,?_⟩⟩;have km:=Co kk;have am:∀p∈j.toList,TS.key TS.intKind p=g (eE p.2)/\p.2=.ref (eE p.2):=λp D=>km p<|L.mem.mp D;have P:(ks.zip<|n.map Value.ref).map (λp=>eE p.2)=n:=by
   have e1:(λp:Keyed=>eE p.2)=eE ∘ Prod.snd:=rfl;rw[e1,<-Ut,List.map_snd_zip<|by rw[kk.len];exact R9 _,Ut];exact List.map_id _
  have ad:(j.map (·.2)).toList=(j.toList.map λp=>eE p.2).map Value.ref:=by
   rw[Array.toList_map,Ut];exact X1 λp D=>(am p D).2
  have perm:(j.toList.map λp=>eE p.2).Perm n:=by
   have:=L.perm.map λp:Keyed=>eE p.2;grind
  have pw:(j.toList.map λp=>eE p.2).Pairwise (λa b=>g a<=g b):=by
   rw[WL];refine Xh (λ{x y} hx hy aj=>?_) aq;have h':TS.intKind.blt (TS.key TS.intKind y) (TS.key TS.intKind x)=false:=aj;rw[(am x hx).1,(am y hy).1]at h';have ar:decide (g (eE y.2)<g (eE x.2))=false:=h';grind
  have ab:∀(l:Yb Keyed),(∀p∈l,TS.key TS.intKind p=g (eE p.2))->∀i:Int,(l.map λp=>eE p.2).filter (λa=>decide<|g a=i)=(TS.fk TS.intKind i l).map λp=>eE p.2:=λl hl i=>by
   rw[List.filter_map]
   congr 1
   refine List.filter_congr λp D=>?_;show decide (g (eE p.2)=i)=(!TS.intKind.blt (TS.key TS.intKind p) i && !TS.intKind.blt i (TS.key TS.intKind p));rw[hl p D];show decide (g (eE p.2)=i)=(!decide (g (eE p.2)<i) && !decide (i<g (eE p.2)));grind
  have fl:∀i:Int,(j.toList.map λp=>eE p.2).filter (λa=>decide<|g a=i)=n.filter (λa=>decide<|g a=i):=λi=>by
   have e2:=ab (ks.zip<|n.map Value.ref) (λp D=>(km p D).1) i;rw[P]at e2;rw[ab j.toList (λp D=>(am p D).1) i,e2,L i]
  have Y:(m.heap.update (W.objs.size+1)<|Obj.mapSeq λ_=> #[]).get? (s.heap.objs.size+1)=some (seqObj "list" #[] e1):=(Us _ _ _ _<|Ss<|by rw[E];lia).trans ap;have Zp:=get?_update_seq Y λ_=>j.map (·.2);have k:∀b,b<s.heap.objs.size->((m.heap.update (W.objs.size+1)<|Obj.mapSeq λ_=> #[]).update (s.heap.objs.size+1)<|Obj.mapSeq λ_=>j.map (·.2)).get? b=m.heap.get? b:=λb B=>by
   rw[Us _ _ _ _<|Ss<|by lia,Us _ _ _ _<|Ss<|by rw[E];lia]
  refine⟨.ref<|s.heap.objs.size+1,_,I.tE (ch:=[]) O ((un.over k).xB (VP _) na) ((fM.over I.hok C k).xB na ?_) bare (λb z=>by cases z),rfl,q _ _ na perm pw fl⟩;have ai:=perm.length_eq;have an:j.map (·.2)=((j.toList.map λp=>eE p.2).map Value.ref).toArray:=by rw[<-ad]
  obtain⟨e3,al⟩:∃e3,((m.heap.update (W.objs.size+1)<|Obj.mapSeq λ_=> #[]).update (s.heap.objs.size+1)<|Obj.mapSeq λ_=>j.map (·.2)).get? (s.heap.objs.size+1)=some (seqObj "list" (j.map (·.2)) e3):=⟨_,Zp⟩;refine⟨by rw[R5,ai];exact hz,(j.toList.map λp=>eE p.2).map Value.ref,e3,tJ _,al.trans ?_⟩;rw[an]
structure L6(X:Cx)(x:Yc)(sp:Sp):Prop where
 ex:∃(k:Nat) (f:X4) (fd:FuncData) (ps:Yb Yc),dZ X.prog X.w X.K X.mg X.base mH k f fd ps sp/\dB (k+2) X.A/\X.mg x=some (.ref f)/\Binds X.K fd ps []
 gl:Gl X x
 db:(x==("__debug__" :Yc))=false
def Here.PN {P:X6}{w:X7}{K:Frag}{a:Yh}{base:Heap}{sc:Scope}{N:Yb Yc}{k j:Nat}{x:Yc}{sp:Sp}(h:Here X P w K a base sc N k) (G:Gd P w K a base j x sp) (o:sc.names.lookup x=some .globalImplicit) (i:j+2<=k) (db:(x==("__debug__" :Yc))=false):L6 X x sp:=by
 obtain⟨f,e,g,n,l,p,m⟩:=G.ex;obtain⟨rfl,rfl,rfl,rfl,rfl⟩:=And.intro h.pr<|And.intro h.wd<|And.intro h.fK<|And.intro h.gm h.bs;exact⟨⟨j,f,e,g,n,h.room.mono i,l,m⟩,h.gl o,db⟩
def Fh {x:Yc}{sp:Sp}{e:Expr}{t:TA}{p l a pos:Pos}(B:Bt X "sorted") (C:L6 X x sp) (v:PA X [e] t) (he:starEach [e] X.env=[(false,eval e X.env)]):
  PE X (.Call (.Name "sorted" p) [e] [⟨some "key",.Name x l,a⟩] pos) (λσ H Q=>t σ H λxs H1=>L5 X.K sp xs H1 Q):=by
 intro o s σ H Q I h;obtain⟨k,f,w,y,F,hr,j,m⟩:=C.ex;have n:backTo pos (starEach [e] X.env)=(false,eval e X.env)::backTo pos (starEach [] X.env):=by
  rw[he];rfl
 refine T6<|jj I B.gl B.nm BO ?_ B.hn B.db;refine callWith_kw (c9 (v pos o s σ H _ I h) λD A g=>?_) (by rw[he];rfl) (by rw[he];rfl);obtain⟨z,H1,i,r,q⟩:=g;exact kws_cons<|kT i C.gl j (kws_nil<|zz F hr m i r q) C.db
end L2
namespace J
def Nx {X:Cx}{x:Yc}{sp:Sp}{e:Expr}{t:TA}{p g a pos:Pos}(B:Bt X "sorted") (C:L6 X x sp) (f:JA X [e] t) (h:notStar e=true:=by rfl):
  JE X (.Call (.Name "sorted" p) [e] [⟨some "key",.Name x g,a⟩] pos) (λσ H Q=>t σ H λxs H1=>L5 X.K sp xs H1 Q):=⟨Fh B C f.out<|cT h⟩
end J
namespace L2
section
variable {X:Cx}
def jg{A:X9}{k:Nat}(hr:dB k A):A.units+3<cLine:=by
 have:=hr.un;omega
end
structure RM(P:X6)(w:X7)(outer:Yb Env)(H H':Hp)(s:X5)(ea:X4)(cls:X3)(B:Heap)(s':X5):Prop where
 os:s'.os=s.os
 bare:AllBare s'.gens
 un:Un (iD outer) [] H H' s.heap s'.heap
 hok:fM P w H' s'.heap
 tr:∀b o,H' b≠none->s'.heap.get? b=some o->B.get? b=some o
 kp:∀b o,s.heap.get? b=some o->H b=none->b ∉ iD outer->B.get? b=some o
 th:∀b o,s.heap.get? b=some o->b ∉ iD outer->∃o',B.get? b=some o'
 fl:∃a0,Heap.FlyingW B outer ea cls a0 s'.heap
def cV.there(x:cV P w H h a o):∃g,h.get? a=some g:=by
 cases o with
 |lst i=>obtain⟨_,_,_,_,e⟩:=x;exact⟨_,e⟩
 |tup i=>obtain⟨_,_,_,g,e,_⟩:=x;exact⟨_,e⟩
 |dK j=>obtain⟨_,_,_,_,o,_,_,e,_⟩:=x;exact⟨_,e⟩
 |dT j=>obtain⟨_,_,_,_,o,_,_,e,_⟩:=x;exact⟨_,e⟩
 |set S n=>obtain⟨o,_,_,_,e,_⟩:=x;exact⟨_,e⟩
 |ins C m fs=>obtain⟨_,_,_,e,_⟩:=x;exact⟨_,e⟩
 |own y=>exact x
 |xd fs=>obtain⟨_,⟨_,_,_,e,_⟩,_⟩:=x;exact⟨_,e⟩
 |rng p q=>obtain⟨_,_,_,e⟩:=x;exact⟨_,e⟩
 |frz g u=>exact⟨_,x.1⟩
 |tbl l=>exact⟨_,show h.get? a=some _ from x⟩
 |met f y=>exact⟨_,show h.get? a=some _ from x⟩
 |ext φ=>exact x.2.1
def qN:Yb Yc:=["__init__","__getattribute__","__getattr__","__class__"]
def oG:Yb X3:=[.type "ValueError",.type "Exception",.type "BaseException",.type "object"]
structure gJ(K:Frag)(C:X4)(bm:Yb X3):Prop where
 ex:∃(nm q:Yc) (N:X4) (bs:Yb X3) (hdct:Bool) (sn:Yb Yc) (sub:Yb X3) (ab:Bool) (col:X8 Bool) (dd:X8 X4) (k0 k1 k2 k3 k5:X8 X3),
  K.lookup C=some (excClassObj nm q C N bs bm hdct sn sub ab col dd k0 k1 k2 k3 k5 "ValueError.__new__")/\nsOkIn K N=true/\(∀n∈qN,nsIn K N n=some none)/\tailIn K oG bm=true
def Gy{K:Frag}{N:X4}{m:Yh}(X:K.In h)(i:K.In h')(ok:nsOkIn K N=true)(n:h.Ns N m):h'.Ns N m:=by
 unfold nsOkIn at ok;split at ok
 ·rename_i a
  obtain⟨o,g,f,e,r⟩:=n;have:=X _ _ a;rw[e]at this;cases this;exact⟨_,g,f,i _ _ a,r⟩
 ·cases ok
section
variable {X:Cx}
def FI{a:Expr}{rest:Yb Expr}{t:TA}{np i pos:Pos}(J:PE X (.Name x np) (tC<|.ref C))(O:gJ X.K C bm)(T:X.calm=true)(R:PA X (a::rest) t)(p:Hp->Prop)
  (xe:∀f σ H s,Inv X f σ H s->p H->∀h' j args,Heap.MadeExcOf s.heap h' j (.ref C) args->X.xe (.ref j) { s with heap:=h' })
  (he:starEach (a::rest) X.env=(false,eval a X.env)::starEach rest X.env:=by rfl)(E:(backTo i<|starEach rest X.env).any (·.1)=false:=by rfl):
  PS X (.Raise (some<|.Call (.Name x np) (a::rest) [] i) none pos) (λ_ σ H=>t σ H λvs H1=>vs.length<=sizeLine/\p H1):=by
 intro f s σ H D I h;obtain⟨nm,q,N,bs,hdct,sn,sub,ab,col,dd,k0,k1,k2,k3,k5,w,e,m,o⟩:=O.ex;have l:s.heap.Ns N (s.heap.nsMap N):=.of_isNs<|isNs_of_in I.jm e;refine wpAny_Raise_call_subT (C:=C) (nm:=nm) (q:=q) (N:=N) (bs:=bs) (bm:=bm) (hdct:=hdct) (sn:=sn) (sub:=sub) (ab:=ab) (col:=col) (dd:=dd) (k0:=k0) (k1:=k1) (k2:=k2) (k3:=k3) (k5:=k5)
  W6 (mN:=s.heap.nsMap N) ((tail_of_in I.jm o).hasType W6.hasBase) (I.ok.hd T) (by rw[he];show(false||(backTo i<|starEach rest X.env).any (·.1))=false;rw[E];rfl) (Xz I.jm e<|m _<|.head _)
  (c9 (J f s σ H (λv H1=>v=.ref C/\H1=H) I ⟨rfl,rfl⟩) λu G ⟨v,H1,z,r,Q,F⟩=>?_)
 subst Q F;cases r;refine⟨rfl,?_⟩;have n:=R i f G σ H1 _ z h;rw[he]at n ⊢;exact UT (SJ n (λU A ⟨vs,P,g,L,S,B⟩=>⟨rfl,by rw[<-L.length];exact S,g.jm _ _ w,Gy I.jm g.jm e l,tail_of_in g.jm o,λh' j M=>xe f σ P A g B h' j _ M⟩) λ_ _ y=>y)
end
def tD{X:Cx}{Yi:Yg}{σ:Yb (X8 V)}{H:Hp}{s:X5}{M:Model}{A:X9}{E:Yd}{i:Nat}{x:Yc}{v:V}{Q:Ye}(I:Inv X Yi σ H s)(hN:X.N.Nodup)(R:X.N[i]? =some x)(O:X.env.kindOf x=some .local)(hv:σ[i]? =some (some v))
  (h:∀s',Inv X Yi (σ.set i none) H s'->Q () s'):wpAny M A (unbindName X.env x) Q E s:=by
 obtain⟨m,hn,Z⟩:=id I.loc;have C:(X.env.scope.kind==.class||(X.env.scope.kind==.module&&X.env.locals != X.env.globals))=false:=by rw[I.ok.kind];rfl
 have B:i<σ.length:=by rw[I.len];exact(gI0.mp R).1
 have Eg:=I.Eg;have tracked:∀{a:X4}{F:Heap},(∃o,s.heap.get? a=some o/\H a=none)->Heap.SameBut a s.heap F->fM X.prog X.w H F:=λ{a F} ha g b ob e=>by
  obtain⟨_,_,f⟩:=ha;refine(I.hok b ob e).gD (λc U J q=>(g.2 c ?_).trans q) (λ_ q=>q) λ_ _ q=>q;rintro rfl;obtain rfl|J:=J
  ·rw[f]at e;cases e
  ·rw[f]at J;cases J
 obtain⟨u,r,q⟩:=Z i x v R hv<|.inl O;obtain⟨mv,L⟩:∃mv,m x=some mv:=by
  obtain ⟨_,e⟩|⟨k,_⟩:=q
  ·exact⟨_,e⟩
  ·rw[O]at k
   rcases k with k|k<;>cases k
 refine wpAny_unbindName_local O hn L C λF Y P g=>?_;obtain⟨oL,_,_,T,_⟩:=id hn;refine h _ ⟨I.ok,I.os,I.bare,⟨λb o e n K D=>?_,λb o e n K D=>?_,I.base.free,λb o e D=>?_,I.base.tups,I.base.frzs,I.base.tbls⟩,⟨_,P,λj y v' l G e3=>?_⟩,λy c e=>?_,I.free,I.freeC,λp hp=>?_,tracked ⟨oL,T,I.free⟩ g,by simpa using I.len⟩
 ·exact(g.2 b<|Ss<|SA (Sv e) I.ok.above).trans (I.base.keep b o e n K D)
 ·obtain⟨sl,l⟩:=I.base.slot b o e n K D
  exact⟨sl,(g.2 b<|Ss<|SA (Sv e) I.ok.above).trans l⟩
 ·obtain⟨o',l⟩:=I.base.there b o e D
  exact⟨o',(g.2 b<|Ss<|SA (Sv e) I.ok.above).trans l⟩
 ·by_cases S:j=i
  ·subst S
   rw[Vr B]at G;cases G
  ·rw[We<|Ui S]at G
   obtain⟨Y,r',q⟩:=Z j y v' l G e3;refine⟨Y,r',?_⟩;obtain ⟨k,e⟩|⟨k,c,e,z⟩:=q
   ·refine .inl ⟨k,?_⟩
    have:y≠x:=λe=>S<|qi hN l<|e ▸ R;simp[this,e]
   ·exact .inr ⟨k,c,e,z.sameBut g<|Eg y c e⟩
 ·obtain⟨U,z⟩:=I.cell y c e
  exact⟨U,z.sameBut g<|Eg y c e⟩
 ·obtain⟨e,n,W,nf,d⟩:=I.pin p hp
  exact⟨(g.2 p.1 W).trans e,n,W,nf,d⟩
def Cr{g:Array GenState}{d:Drawn}{t:Nat}{os:OsState}{e C D:X4}{y:Obj}{Q:Bool->X5->Prop}
  {nm q:Yc}{N:X4}{bs bm:Yb X3}{hdct:Bool}{sn:Yb Yc}{sub:Yb X3}{ab:Bool}{col:X8 Bool}{dd:X8 X4}{k0 k1 k2 k3 k5:X8 X3}{z:String}
  {v H:Yc}{K:X4}{s a:Yb X3}{J:Bool}{p:Yb Yc}{I:Yb X3}{o:Bool}{O:X8 Bool}{P:X8 X4}{r n l m j:X8 X3}{L:String}
  (w:h.get? C=some (excClassObj nm q C N bs bm hdct sn sub ab col dd k0 k1 k2 k3 k5 z)) (x:h.get? D=some (excClassObj v H D K s a J p I o O P r n l m j L)) (he:h.get? e=some y) (i:y.cls=.ref C)
  (G:(Value.ref D::a).contains (.type "BaseException")=true) (B:(Value.ref C::bm).contains (.ref D)=true) (F:Q true ⟨h,g,d,t,os⟩):wpAny M A (excMatches (.ref e)<|.ref D) Q E ⟨h,g,d,t,os⟩:=by
 have f:=tc_notTuple;unfold excMatches
 repeat (first| (with_reducible refine Uc he ?_;rw[i])|with_reducible refine Uc x ?_|with_reducible refine Uc w ?_| (with_reducible refine VW x ?_;rw[G])| (with_reducible refine VW w ?_;rw[B])|wp_step)
 exact F
def PS.nh{st:Stmt}{t:TS}(h:PS X.nh st t):PS X st t:=λe s σ H D I a=>
 SJ (h e s σ H D (I.lh _) a) (λ_ _ q=>q.fe) λ_ _ z=>False.elim z
def PA.nh(h:PA X.nh es t):PA X es t:=λa i s σ H Q I e=>
 SJ (h a i s σ H Q (I.lh _) e) (λ_ _ ⟨v,g,f,r,q⟩=>⟨v,g,f.fe,r,q⟩) λ_ _ z=>False.elim z
def F5(e C:X4):Heap->Prop:=λh=>∃a,h.get? e=some a/\a.cls=.ref C
inductive XP(X:Cx)(f:Yg)(σ:St)(E:XK)(e:X3)(s':X5):Prop
 |mk(H H':Hp)(s:X5)(a:X4)(cls:X3)(B:Heap)(I:Inv X f σ H s)(he:e=.ref a)(F:RM X.prog X.w X.stack H H' s a cls B s')(q:E cls none H')
section
variable {X:Cx}
def xP{st:Stmt}{A:X9}{E:Yd}{s:X5}{env:Env}(h:wpAny M A (exec st env) Q E s):wpAny M A (execs [st] env) Q E s:=by
 refine Xd<|c9 h λf a q=>?_;cases f with
 |next=>exact Vc q
 |ret v=>exact q
 |brk=>exact q
 |cont=>exact q
abbrev Cx.mk'(X:Cx)(e:X3):Cx:={ X with A:=X.A.mark (some e),calm:=false,xe:=λ_ _=>False }
def Inv.mark(I:Inv X Yi σ H s)(e:X3):Inv (X.mk' e) Yi σ H s:=
 ⟨⟨I.ok.mod,I.ok.kind,I.ok.glob,I.ok.blt,I.ok.above,I.ok.inj,I.ok.has,I.ok.cab,(λz=>nomatch z),I.ok.frames,I.ok.stk,I.ok.exf,I.ok.bs,I.ok.bsz,I.ok.noex,I.ok.exfs,I.ok.mX,I.ok.frf⟩,I.os,I.bare,I.base,I.loc,I.cell,I.free,I.freeC,I.pin,I.hok,I.len⟩
def Inv.unmark(I:Inv (X.mk' e) Yi σ H s)(ok:X.Ok):Inv X Yi σ H s:=⟨ok,I.os,I.bare,I.base,I.loc,I.cell,I.free,I.freeC,I.pin,I.hok,I.len⟩
end
section
variable {prog:X6}{w:X7}{A:X9}{E:Yd}{h:Heap}{g:Array GenState}{d:Drawn}{t:Nat}{os:OsState}{a:X4}{o:Obj}{vs:Array X3}
structure Ly(h:Heap)(C Kc:X4):Prop where
 ex:∃(nm q:Yc) (N:X4) (bs:Yb X3) (hdct:Bool) (sn:Yb Yc) (sub:Yb X3) (ab:Bool) (col:X8 Bool) (dd:X8 X4) (k0 k1 k2 k3 k5:X8 X3) (YA:String) (mN:Yh),
  h.get? C=some (excClassObj nm q C N bs (.ref Kc::oG) hdct sn sub ab col dd k0 k1 k2 k3 k5 YA)/\h.Ns N mN/\∀n∈qN,mN n=none
 ek:∃(nm q:Yc) (N:X4) (bs:Yb X3) (hdct:Bool) (sn:Yb Yc) (sub:Yb X3) (ab:Bool) (col:X8 Bool) (dd:X8 X4) (k0 k1 k2 k3 k5:X8 X3) (YA:String) (mN:Yh),
  h.get? Kc=some (excClassObj nm q Kc N bs oG hdct sn sub ab col dd k0 k1 k2 k3 k5 YA)/\h.Ns N mN/\∀n∈qN,mN n=none
def lZ (T:Ly h C Kc) (o:n∈qN) (J:typeLookup (.type "ValueError") n=pure y) (w:Q y ⟨h,g,d,t,os⟩):wpAny M A (typeLookup (.ref C) n) Q E ⟨h,g,d,t,os⟩:=by
 obtain⟨P,q,N,bs,m,sn,D,X,K,dd,U,O,k2,R,W,S,mN,l,L,x⟩:=T.ex;obtain⟨v,q',N',I,Z,F,Y,B,Y9,YQ,G,z,r,s,p,Ze,H,i,e,j⟩:=T.ek;have a:lookupAlong oG n=pure y:=by
  have f:=J
  rwa [typeLookup_eq,W6.mroIs]at f
 rw[typeLookup_eq];refine RX<|wpAny_mroOf_exc l ?_;rw[lookupAlong_cons];refine RX<|wpAny_classOwn_exc l L ?_;rw[x n o];dsimp only;rw[lookupAlong_cons];refine RX<|wpAny_classOwn_exc i e ?_;rw[j n o];dsimp only;rw[a];exact RZ w
end
section
open PySem.F
variable {prog:X6}{w:X7}{A:X9}{E:Yd}{h:Heap}{g:Array GenState}{d:Drawn}{t:Nat}{os:OsState}{a C Kc:X4}{o:Obj}
def yh:typeLookup (.type "ValueError") "__class__" =pure (some<|.builtin "object.__class__"):=by rw[Wr,VE];kernel_rfl
def KH(T:Ly h C Kc)(i:h.get? a=some o)(j:o.cls=.ref C)(s:R (.ok<|.ret<|.ref C) ⟨h,g,d,t,os⟩):
  codeAny (model prog w) A (.call (.builtin "getset_descriptor.__get__") ⟨[.builtin "object.__class__",.ref a,.ref C],[]⟩) R ⟨h,g,d,t,os⟩:=by
 obtain⟨r,q,N,bs,f,F,m,B,n,G,y,p,H,v,z,x,E,l,I,D⟩:=T.ex;have e:(Value.ref C::Value.ref Kc::oG).contains (.type<|".".intercalate ("object.__class__".cutAt '.').dropLast)=true:=by
  rw[owner_object_class];unfold oG;simp
 refine WI slot_gs_get.plain entry_gs_get<|slot_gs_get.check _ _ _ _ _ _ _ _ typeOf_object_class (args_gs_get _ _ _) ?_
 repeat (any_goals (first|assumption| (with_reducible refine Uc i ?_;rw[j])| (with_reducible refine VW l ?_;rw[e])|wp_step))
 refine⟨Code.quiet_builtin _<|by decide+kernel,Vd entry_object_class ?_⟩;unfold Builtin.«object.__class__»
 repeat (any_goals (first|assumption| (with_reducible refine Uc i ?_;rw[j])|wp_step))
def DG(T:Ly h C Kc)(i:h.get? a=some o)(f:o.cls=.ref C)(m:Q (.done<|.ret<|.ref C) ⟨h,g,d,t,os⟩):
  wpAny (model prog w) A (Builtin.«object.__getattribute__» ⟨[.ref a,.str "__class__" tk],[]⟩) Q E ⟨h,g,d,t,os⟩:=by
 have j:=typeOf_object_class;have n:=slot_gs_get.lookup;have l:=slot_gs_set.lookup;have e:("__class__" :Yc)∈qN:=.tail _<|.tail _<|.tail _<|.head _
 repeat (any_goals (first|assumption| (with_reducible refine Uc i ?_;rw[f])|with_reducible refine lZ T e yh ?_|wp_step))
 refine KH T i f ?_
 repeat (any_goals (first|assumption|wp_step))
def FE(T:Ly h C Kc)(p:h.get? a=some o)(s:o.cls=.ref C)(m:Q () ⟨h,g,d,t,os⟩):wpAny M A (checkBuiltinCall "BaseException.__getattribute__" ⟨[.ref a,wW],[]⟩) Q E ⟨h,g,d,t,os⟩:=by
 obtain⟨w,q,N,bs,i,H,n,D,r,I,z,v,J,x,B,y,G,j,K,F⟩:=T.ex;have l:builtinKind "BaseException.__getattribute__" =some .slot:=by decide+kernel
 have e:splitId "BaseException.__getattribute__" =some ("BaseException","__getattribute__"):=by decide+kernel
 have f:(Value.ref C::Value.ref Kc::oG).contains (.type "BaseException")=true:=by
  unfold oG;simp
 simp only[checkBuiltinCall,l,e];refine RX ?_
 ·unfold isInstance
  repeat (first| (with_reducible refine Uc p ?_;rw[s])| (with_reducible refine VW j ?_;rw[f])|wp_step)
  exact m
def OY(T:Ly h C Kc)(l:h.get? a=some o)(f:o.cls=.ref C)(n:Q (.ref C) ⟨h,g,d,t,os⟩):
  wpAny (model prog w) A (getAttrBy (.ref a) (.str "__class__" tk) false) Q E ⟨h,g,d,t,os⟩:=by
 have p:=VZ.ga.bind<|.ref a;have e:(Value.builtin "BaseException.__getattribute__" == Value.builtin "object.__getattribute__")=false:=by decide+kernel
 have m:(onTheHeap (Value.ref C)&&Value.builtin "BaseException.__getattribute__" == Value.builtin "object.__getattribute__")=false:=by rw[e];rfl
 have i:("__getattribute__" :Yc)∈qN:=.tail _<|.head _;have j:("__getattr__" :Yc)∈qN:=.tail _<|.tail _<|.head _
 repeat (any_goals (first|assumption| (with_reducible refine Uc l ?_;rw[f])|with_reducible refine lZ T i VZ.ga.lookup ?_|with_reducible refine lZ T j VZ.noGetattr ?_|wp_step))
 refine WI VZ.ga.plain entry_bexc_ga<|FE T l f<|DG T l f ?_
 repeat (any_goals (first|assumption|wp_step))
def Iz(T:Ly h C Kc)(f:h.get? a=some o)(e:o.cls=.ref C)(i:Q (some<|.ref C) ⟨h,g,d,t+1,os⟩):wpAny (model prog w) A (getAttr? (.ref a) "__class__") Q E ⟨h,g,d,t,os⟩:=by
 unfold getAttr? getAttrBy?
 repeat (any_goals (first|assumption|with_reducible apply OY T f e|wp_step))
end
def zq{K:Frag}(X:K.In h)(P:gJ K C (.ref Kc::oG))(I:gJ K Kc oG):Ly h C Kc:=by
 obtain⟨E,q,N,bs,e,R,s,L,A,S,H,D,U,G,J,F,f,w,Z⟩:=P.ex;obtain⟨m,W,B,z,O,x,M,r,T,Y,y,p,j,l,i,o,a,g,Q⟩:=I.ex;exact⟨⟨E,q,N,bs,e,R,s,L,A,S,H,D,U,G,J,_,h.nsMap N,X _ _ F,.of_isNs<|isNs_of_in X f,λn v=>Xz X f<|w n v⟩,
  ⟨m,W,B,z,O,x,M,r,T,Y,y,p,j,l,i,_,h.nsMap B,X _ _ o,.of_isNs<|isNs_of_in X a,λn v=>Xz X a<|g n v⟩⟩
def wU{K:Frag}{o C x:X4}(i:gJ K C (.ref x::oG))(G:gJ K x oG):PySem.W.KitX K (.ref o) (.ref C) (F5 o C) where
 ty:=λM h _ ⟨v,j,r⟩=>by
  rw[<-r];exact(show Looks M h (typeOf<|.ref o) v.cls from (Looks.ld j).andThen .now)
 it:=λM h X _=>by
  obtain⟨z,q,N,bs,a,J,l,I,p,L,F,y,O,D,H,f,_⟩:=i.ex;intro T Q' R P k q;unfold isType loadHead;exact RX<|wpAny_loadPart (k _ _<|X _ _ f)<|RZ q
 ne:=λh Y L Z n sl X m=>by
  obtain⟨z,q,N,bs,a,J,l,I,p,YQ,F,y,O,D,H,f,_⟩:=i.ex;refine Td.mpr λq=>?_;have e:=Value.ref.inj<|UJ.mp q;subst e;have B:=SY Obj.data<|Sy<|(X _ _ f).symm.trans m;cases B
 ca:=λ{prog w A E Q s} X ⟨v,j,r⟩ k=>by
  obtain⟨U,g,d,t,S⟩:=s;exact Iz (zq X i G) j r k
inductive Pn(K:Frag)(xs:Yb V)(H:Hp)(Q:VK):Prop
 |own (a C f D:X4)(b:Bool)(e:xs=[.ref a,.ref D])(h:H a=some (.ext (F5 a C)))(i:gJ K C (.ref f::oG))(g:gJ K f oG)(k:kitOne K (.ref C) (.ref D)=some b)(q:Q (.bl b) H)
 |ty (a C f:X4)(n:String)(b:Bool)(e:xs=[.ref a,.ty n])(h:H a=some (.ext (F5 a C)))(i:gJ K C (.ref f::oG))(g:gJ K f oG)(k:kitOne K (.ref C) (.type n)=some b)(q:Q (.bl b) H)
def DL:eW X (.builtin "isinstance") (λxs H Q=>Pn X.K xs H Q):=by
 intro o s σ H xs p Q I r h;cases h with
 |own l C m D b e h f a k q=>
  subst e;obtain⟨u,c,rfl,g,i⟩:=vals2 r;cases g;cases i;exact VC (wU f a) I.jm (I.hok _ _ h).1 k (λz=>nomatch z) λj=>⟨.bl b,H,I.tok _,rfl,q⟩
 |ty l C m n b e h f a k q=>
  subst e;obtain⟨u,c,rfl,g,i⟩:=vals2 r;cases g;obtain rfl:c=Value.type n:=i;exact VC (wU f a) I.jm (I.hok _ _ h).1 k (λz=>nomatch z) λj=>⟨.bl b,H,I.tok _,rfl,q⟩
end L2
namespace J
def _root_.bU:JF X (.builtin "isinstance") (λxs H Q=>Pn X.K xs H Q):=⟨DL⟩
section
variable {P:X6}{w:X7}{K:Frag}{mg:Yh}{base:Heap}{x Ym m:Yc}{st:Stmt}{f C:X4}{fd:FuncData}{N ps:Yb Yc}{k j:Nat}{sp:Sp}
def Ht(D:Df K mg x st ps f fd)(S:cL N ps (cK st))(len:∀vs H Q E,sp vs H Q E->vs.length=ps.length)
  (a:∀(X:Cx)(H:Hp)(vs:Yb V)(Q:VK)(E:XK),Here X P w K mg base (cK st) N k->(X.stack=X.env::X.outer/\X.env.frame=some X.env.locals)->(∀{es t},JA X es t->PA X.nh es t)->(∀{e t},JT X e t->PT X.nh e t)->sp vs H Q E->∃t,wc X (df st) t/\t { nx:=λ_ H'=>Q .non H',rt:=Q } (L2.start N vs) H):Gd P w K mg base (k+1) x sp:=by
 refine⟨f,fd,ps,J.Kg D.fn S len λX i A outer s H vs Q E g hr h=>?_,D.nm,D.fn.kp,D.bi⟩;subst g;exact a _ H vs Q E ⟨rfl,rfl,rfl,rfl,rfl,rfl,Xu,rfl,rfl,S.nd,hr,λ_=>rfl⟩ ⟨rfl,rfl⟩ (λh=>h.out) (λh=>h.out) h
end
def JH:dR (.UnaryOp op e p):=⟨λ_ _=>rfl⟩
end J
namespace L2
inductive RK(h B:Heap)(e:X4)(cls:X3)(i:X8 X4)(fl:X3):Prop
 |mk(a:Obj)(vs:Array X3)(T:X4)(g:Obj)(f:Array X3)(he:h.get? e=some a)(p:a.cls=cls)(q:a.dict=i)(hd:a.data=.fields vs)(n:vs[1]? =some (.ref T))(l:B.get? T=none)(ne:T≠e)(m:h.get? T=some g)(j:g.data=.fields f)(o:f[3]? =some fl)
structure mD(B:Heap)(l:Yb Env)(e:X4)(cls:X3)(dx:X8 X4)(fl:X3)(h:Heap):Prop where
 st:B.StaysIn h
 nw:B.get? e=none
 ff:h.FunFrames B l
 tr:RK h B e cls dx fl
def qB(f:Array X3->Array X3)(o:Obj):(Obj.mapFields f o).dict=o.dict:=by
 obtain⟨c,d,x,sl⟩:=o;cases x<;>rfl
section
variable {M:Model}{A:X9}{E:Yd}{s:X5}{B:Heap}{env:Env}{outer l:Yb Env}{L e:X4}{dx:X8 X4}{cls:X3}
def xQ{p:Obj}{vs:Array X3}{head:X3}{O:Bool}{Q:Ye}(fr:A.frames=some (env::outer))(l:s.heap.FunFrames B (env::outer))(lf:env.frame=some L)(H:s.heap.get? e=some p)(st:B.StaysIn s.heap)(nw:B.get? e=none)(fd:p.data=.fields vs)(N:p.dict=dx)(sz:1<vs.size)
  (k:∀h',mD B (env::outer) e p.cls dx (rawInt L) h'->s.heap.UpToSlots h'->Q () { s with heap:=h' }):
  wpAny M A (do let a <-frameOf env;let pl <-entryPlaceOf L O;let b <-EntryCells.newEntry head a .none (rawInt L) .none pl;setField (.ref e) 1 b) Q E s:=by
 have K:e ∉ (env::outer).filterMap (·.frame):=λm=>by
  obtain⟨_,o,D,n⟩:=l.mem m;rw[H]at D;cases D;exact n vs fd
 refine RX<|wpAny_frameOf_fun fr l lf λf r=>RX<|wpAny_entryPlaceOf λpl y=>?_;unfold EntryCells.newEntry newFields;refine RX<|T1 ?_ (y.sizeOk5 _ _ _ _ _);have I:=(r.2.1 e K).trans H;have i:B.StaysIn f:=λb o q=>(r.2.1 b λm=>by rw[(l.mem m).1]at q;cases q).trans<|st b o q;generalize v:({ cls:=.type "traceback",dict:=none,data:=.fields ([head,.ref L,.none,rawInt L,.none]++(if pl.isEmpty then List.replicate 6 Value.none else pl)).toArray }:Obj)=j;have C:=R6 (h:=f) j I;refine Vy C fd sz<|k _ ?_ ?_
 all_goals
  have F:=VH<|Sv I;have x:=Vh fd (·.setIfInBounds 1 (Value.ref f.objs.size));have P:=UE (Obj.mapFields (·.setIfInBounds 1 (Value.ref f.objs.size))) C<|VF x;have g:j.data=.fields ([head,.ref L,.none,rawInt L,.none]++(if pl.isEmpty then List.replicate 6 Value.none else pl)).toArray:=by rw[<-v]
  have J:=(U5 (f.push j) (Obj.mapFields (·.setIfInBounds 1 (Value.ref f.objs.size)))<|Ui F).trans<|Sl f<|VF g;have keep:∀b o,b≠e->f.get? b=some o->((f.push j).update e<|Obj.mapFields (·.setIfInBounds 1 (Value.ref f.objs.size))).get? b=some o:=λb o n q=>by
   rw[U5 _ _<|Ui n];exact R6 _ q
  have G:∀b o,s.heap.get? b=some o->(∀vs,o.data≠.fields vs)->b≠e:=λb o q n z=>by grind
 ·refine⟨λb o q=>keep b o (λz=>by rw[z,nw]at q;cases q)<|i b o q,nw,l.of_keeps λb o q n=>?_,⟨_,_,f.objs.size,j,_,P,Obj.cls_mapFields _ _,(qB _ _).trans N,x,by simp[sz],i.fresh,F,J,g,by first| (simp;done)| (rcases y with rfl|⟨_,_,_,_,_,_,_,rfl⟩<;>simp)⟩⟩
  obtain⟨sl,w⟩:=r.2.2 b o q;exact⟨_,keep b _ (G b o q n) w,rfl⟩
 ·intro b o q n
  obtain⟨sl,w⟩:=r.2.2 b o q;exact⟨sl,keep b _ (G b o q n) w⟩
def zo{a:Obj}{vs:Array X3}{Q:Ye}(fr:A.frames=some (env::outer))(g:s.heap.FunFrames B (env::outer))(lf:env.frame=some L)(f:s.heap.get? e=some a)(st:B.StaysIn s.heap)(nw:B.get? e=none)(fd:a.data=.fields vs)(h:a.dict=dx)(v1:vs[1]? =some .none)
  (k:∀h',mD B (env::outer) e a.cls dx (rawInt L) h'->s.heap.UpToSlots h'->Q () { s with heap:=h' }):wpAny M A (noteFrame (.ref e) env) Q E s:=by
 unfold noteFrame;simp only[lf];refine RX<|Vn f fd v1 ?_;rw[R7<|by decide];exact xQ fr g lf f st nw fd h (TY.mp v1).1 k
def tG{Q:Ye}(fr:A.frames=some (env::outer))(lf:env.frame=some L)(F:mD B (env::outer) e cls dx .none s.heap)(k:∀h',mD B (env::outer) e cls dx (rawInt L) h'->s.heap.UpToSlots h'->Q () { s with heap:=h' }):wpAny M A (noteFrame (.ref e) env) Q E s:=by
 obtain⟨D,y,x,I,j,T,H,G,r,rfl,C,i,l,v,w,g,h,p⟩:=F;unfold noteFrame;simp only[lf];refine RX<|Vn r i l ?_;rw[Sb<|show(Value.ref T != Value.none)=true from by simp];refine RX<|Vn g h p ?_;rw[R7<|show ¬((Value.none==rawInt L)=true) from by simp[rawInt]];refine RX<|Vy g h (TY.mp p).1 ?_;have a:∀b,b≠T->(s.heap.update T<|Obj.mapFields (·.setIfInBounds 3 Value.none)).get? b=s.heap.get? b:=λb n=>U5 _ _<|Ui n;have m:∀b o,s.heap.get? b=some o->(∀j,o.data≠.fields j)->b≠T:=λb o q n z=>by
  rw[z,g]at q;cases q;exact n G h
 refine xQ fr (x.of_keeps λb o q n=>⟨o,(a b<|m b o q n).trans q,rfl⟩) lf ((a e<|Ui w).trans r) (λb o q=>(a b λz=>by rw[z,v]at q;cases q).trans<|D b o q) y i C (TY.mp l).1 λh' f u=>k h' f λb o q n=>u b o ((a b<|m b o q n).trans q) n
def gR{fl:X3}{Q:Ye}(F:mD B l e cls dx fl s.heap)(k:∀h',mD B l e cls dx .none h'->s.heap.UpToSlots h'->Q () { s with heap:=h' }):wpAny M A (setFlight (.ref e) none) Q E s:=by
 obtain⟨I,D,y,C,g,T,K,L,x,J,H,i,r,j,m,p,h,G⟩:=F;have w:=(TY.mp G).1;have a:∀b,b≠T->(s.heap.update T<|Obj.mapFields (·.setIfInBounds 3 ((none:X8 X4).elim Value.none λf=>rawInt f))).get? b=s.heap.get? b:=λb n=>U5 _ _<|Ui n;have v:∀b o,s.heap.get? b=some o->(∀g,o.data≠.fields g)->b≠T:=λb o q n z=>by grind
 unfold setFlight;refine RX<|Vn x i r ?_;rw[Sb<|show(Value.ref T != Value.none)=true from by simp];refine Vy p h w (k _ ⟨λb o q=>(a b λz=>by rw[z,j]at q;cases q).trans<|I b o q,D,y.of_keeps λb o q n=>⟨o,(a b<|v b o q n).trans q,rfl⟩,⟨C,g,T,_,_,(a e<|Ui m).trans x,J,H,i,r,j,m,UE _ p<|VF<|Vh h _,Vh h _,by simp[w]⟩⟩ λb o q n=>⟨o.slots,(a b<|v b o q n).trans q⟩)
def mD.pop{fl:X3}{h:Heap}(F:mD B (env::outer) e cls dx fl h):mD B outer e cls dx fl h:=by
 obtain⟨g,a,⟨_,_,f⟩,tr⟩:=F;exact⟨g,a,f,tr⟩
def yx{a:Obj}{vs:Array X3}{Q:Ye}(fr:A.frames=some (env::outer))(m:s.heap.FunFrames B (env::outer))(lf:env.frame=some L)(i:s.heap.get? e=some a)(st:B.StaysIn s.heap)(nw:B.get? e=none)(fd:a.data=.fields vs)(l:a.dict=dx)(v1:vs[1]? =some .none)
  (k:∀h',mD B outer e a.cls dx .none h'->s.heap.UpToSlots h'->Q () { s with heap:=h' }):wpAny M A (leaving env<|.ref e) Q E s:=by
 unfold leaving;exact RX<|zo fr m lf i st nw fd l v1 λh' f u=>gR f λh g j=>k h g.pop<|u.trans j
def za{Q:Ye}(fr:A.frames=some (env::outer))(lf:env.frame=some L)(F:mD B (env::outer) e cls dx .none s.heap)(k:∀h',mD B outer e cls dx .none h'->s.heap.UpToSlots h'->Q () { s with heap:=h' }):wpAny M A (leaving env<|.ref e) Q E s:=by
 unfold leaving;exact RX<|tG fr lf F λh' f u=>gR f λg a h=>k g a.pop<|u.trans h
end
def Pq(f C:X4):Heap->Prop:=λh=>∃a e,h.get? f=some a/\a.cls=.ref C/\a.data=.fields e/\e[1]? =some .none/\a.dict=none
def IG{P:X6}{w:X7}{H:Hp}{h:Heap}{f C:X4}(x:Pq f C h):cV P w H h f (.ext<|Pq f C):=⟨x,let ⟨a,_,e,_⟩:=x;⟨a,e⟩,λ_ _ ⟨a,g,e,r⟩ k=>⟨a,g,k _ e,r⟩⟩
structure xZ(P:X6)(w:X7)(outer:Yb Env)(H H':Hp)(s:X5)(ea:X4)(cls:X3)(dx:X8 X4)(B:Heap)(s':X5):Prop where
 os:s'.os=s.os
 bare:AllBare s'.gens
 un:Un (iD outer) [] H H' s.heap s'.heap
 hok:fM P w H' s'.heap
 tr:∀b o,H' b≠none->s'.heap.get? b=some o->B.get? b=some o
 kp:∀b o,s.heap.get? b=some o->H b=none->b ∉ iD outer->B.get? b=some o
 th:∀b o,s.heap.get? b=some o->b ∉ iD outer->∃o',B.get? b=some o'
 fl:mD B outer ea cls dx .none s'.heap
def vX(P:X6)(w:X7):Jt:=λouter H s E e i=>∃f a h B g,e=.ref f/\xZ P w outer H g s f a h B i/\E a h g
def oX(H:Hp)(a:X4):Hp:=λb=>if b=a then none else H b
def jq{H:Hp}{a b:X4}(h:b≠a):oX H a b=H b:=R7 h
def nC{H:Hp}{a:X4}:oX H a a=none:=Sb rfl
section
variable {P:X6}{w:X7}{outer:Yb Env}{H H':Hp}{s s':X5}{ea:X4}{cls:X3}{dx:X8 X4}{B:Heap}
def xZ.new(F:xZ P w outer H H' s ea cls dx B s'):H' ea=none:=by
 cases q:H' ea with
 |none=>rfl
 |some o=>
  exfalso
  obtain⟨_,n,_,e,_,_,_,_,a,_⟩:=F.fl;have:=F.tr ea e (by grind) a;rw[n]at this;cases this
def xZ.on(F:xZ P w outer H H' s ea cls dx B s'){h':Heap}(st:B.StaysIn h')(up:s'.heap.UpToSlots h')(fr:∀b o,s.heap.get? b=some o->b∈iD outer->H b=none->∀vs,o.data≠.fields vs)(j:∀b∈iD outer,H b=none):Un (iD outer) [] H H' s.heap h'/\fM P w H' h':=by
 have slot:∀b o,s.heap.get? b=some o->H b=none->b∈iD outer->∃sl,h'.get? b=some { o with slots:=sl }:=λb o e n m=>by
  obtain⟨sl,l⟩:=F.un.slot b o e n m (by simp);obtain⟨f,i⟩:=up b _ l<|fr b o e m n;exact⟨f,i⟩
 refine⟨⟨λb o e n m _=>st _ _<|F.kp b o e n m,λb o e n m _=>slot b o e n m,F.un.free,λb o e _=>?_,F.un.tups,F.un.frzs,F.un.tbls⟩,λa o e=>?_⟩
 ·by_cases m:b∈iD outer
  ·grind
  ·obtain⟨p,h⟩:=F.th b o e m
   exact⟨p,st _ _ h⟩
 ·refine(F.hok a o e).gD (λb u g q=>st _ _<|F.tr b u ?_ q) (λ_ q=>q) λ_ _ q=>q
  obtain rfl|g:=g
  ·grind
  ·grind
end
def fM.oX{P:X6}{w:X7}{H:Hp}{h:Heap}{a:X4}{φ:Heap->Prop}(x:fM P w H h)(f:H a=some (.ext φ)):fM P w (oX H a) h:=λb u e=>by
 by_cases g:b=a
 ·rw[g,nC]at e
  cases e
 ·rw[jq g]at e
  refine(x b u e).gD (λc v _ q=>q) (λc q=>?_) λc i q=>?_
  ·rw[jq λz=>by rw[z,f]at q;cases q]
   exact q
  ·rw[jq λz=>by rw[z,f]at q;cases q]
   exact q
section
variable {P:X6}{w:X7}{K:Frag}{mg:Yh}{base:Heap}{N:Yb Yc}{Ym:Yc}{scope:Scope}{f:X4}{cd:X3}{A:X9}{outer:Yb Env}{s s1:X5}{H H1:Hp}{E:XK}{Yi:Yg}{σ:St}{ea:X4}
def DN{h:Yc}{scope:Scope}{n f:X4}{cd:X3}{outer:Yb Env}{b:X4}(m:b∈iD outer):b∈iD (envOfC h scope n f cd::outer):=by
 obtain⟨a,e,g⟩:=UI.mp m;exact UI.mpr ⟨a,.tail _ e,g⟩
def ux{h:Heap}{j:Yc}{scope:Scope}{f:X4}{cd:X3}{outer:Yb Env}{b:X4}{o:Obj}(e:h.get? b=some o)(n:b ∉ iD outer):b ∉ iD (envOfC j scope h.objs.size f cd::outer):=λm=>by
 obtain⟨a,g,i⟩:=UI.mp m
 obtain rfl|g:=SS.mp g
 ·have:=Sv e
  rw[<-Sy i]at this;exact VA _ this
 ·exact n<|UI.mpr ⟨a,g,i⟩
end
inductive RS(X:Cx)(g:Yg)(σ:St)(E:XK)(e:X3)(s':X5):Prop
 |mk(H H':Hp)(s:X5)(a:X4)(cls:X3)(f:X8 X4)(B:Heap)(I:Inv X g σ H s)(he:e=.ref a)(F:xZ X.prog X.w X.stack H H' s a cls f B s')(q:E cls f H')
def CZ(X:Cx)(st:Yb Stmt)(t:XK->TS):Prop:=∀(a:Yg) (s:X5) (σ:St) (H:Hp) (D:Ends) (E:XK),Inv X a σ H s->t E D σ H->wpAny (model X.prog X.w) X.A (execs st X.env) (SP X a D) (RS X a σ E) s
structure Of(P:X6)(w:X7)(K:Frag)(mg:Yh)(base:Heap)(k:Nat)(x:Yc)(C:X4)(sp:Sp):Prop where
 ex:∃(f:X4) (fd:FuncData) (ps:Yb Yc),dZ P w K mg base (vX P w) k f fd ps sp/\Mk K C f/\Binds K fd ps []
 nm:mg x=some (.ref C)
section
variable {X:Cx}
def Slot.mk'{i:Nat}{x:Yc}(S:Slot X i x)(e:X3):Slot (X.mk' e) i x:=⟨S.hN,S.lc,S.fn,S.db,S.cd⟩
def Bt.mk'{x:Yc}(B:Bt X x)(e:X3):Bt (X.mk' e) x:=⟨B.gl,B.nm,B.hn,B.db⟩
end
end L2
namespace J
section
variable {P:X6}{w:X7}{K:Frag}{mg:Yh}{base:Heap}{x Ym m:Yc}{st:Stmt}{f C Ce Kc fI:X4}{fd fdI:FuncData}{N ps:Yb Yc}{k kI j:Nat}{sp:Sp}{xr:Yc}
def _root_.bY {X:Cx}{sc:Scope}{v:V}{p:Pos}(a:Here X P w K mg base sc N k) (hm:∃u,mg x=some u/\RelV v u) (h:sc.names.lookup x=some .globalImplicit) (db:(x==("__debug__" :Yc))=false) (e:X3):JE (X.mk' e) (.Name x p) (tC v):=by
 obtain⟨u,g,f⟩:=hm;exact J.kO (X:=X.mk' e) (a.gl h) (show X.mg x=some u by rw[a.gm];exact g) f db
structure Ea(X:Cx)(st:Yb Stmt)(t:XK->TS):Prop where
 out:CZ X st t
end
end J
namespace L2
section
variable {w:X7}{K:Frag}{mg:Yh}{base:Heap}{N:Yb Yc}{Ym:Yc}{scope:Scope}{f:X4}{cd:X3}{A:X9}{outer:Yb Env}{s:X5}{H:Hp}{E:XK}
def E1:Passes (vX P w) (kZ (vX P w) P w K mg base N Ym scope f cd A outer s H E) E:=by
 intro X σ H1 S e L I Q;obtain⟨U,j,W,B,x,rfl,F,R⟩:=Q;have a:Un (iD outer) [] H H1 s.heap S.heap:=I.base;refine za I.ok.frames rfl F.fl λy fl up=>?_;have G:=fl.st;obtain⟨u,r⟩:=F.on G up (λb o e m n=>by
  obtain⟨_,Y,C,J⟩:=I.stack.mem m;rw[e]at C;cases C;exact J) I.kr
 have l:∀b,x b≠none->∃o,L.heap.get? b=some o:=λb n=>by
  cases q:x b with
  |none=>grind
  |some v=>exact(F.hok b v q).there
 refine⟨U,j,W,B,x,rfl,⟨F.os.trans I.os,F.bare,⟨λb o e n m _=>?_,λb o e n m _=>?_,λb o e n _=>?_,λb o e _=>?_,λb D e=>u.tups b D<|a.tups b D e,λb o v e=>u.frzs b o v<|a.frzs b o v e,λb O e=>?_⟩,r,λb o n e=>?_,λb o e n m=>?_,λb o e m=>?_,fl⟩,R⟩
 ·exact u.keep b o (a.keep b o e n m<|by simp) (a.free b o e n<|by simp) (ux e m) (by simp)
 ·obtain⟨sl,g⟩:=a.slot b o e n m (by simp)
  obtain⟨p,i⟩:=u.slot b _ g (a.free b o e n<|by simp) (DN m) (by simp);exact⟨p,i⟩
 ·obtain⟨h,g⟩:=a.there b o e (by simp)
  exact u.free b h g (a.free b o e n<|by simp) (by simp)
 ·obtain⟨h,g⟩:=a.there b o e (by simp)
  exact u.there b h g (by simp)
 ·obtain⟨T,g⟩:=a.tbls b O e
  obtain⟨M,y⟩:=u.tbls b _ g;exact⟨T++M,by rw[<-Wt];exact y⟩
 ·obtain⟨h,g⟩:=l b n
  have i:=F.tr b h n g;have z:=e;rw[G _ _ i]at z;cases z;exact i
 ·exact F.kp b o (a.keep b o e n m<|by simp) (a.free b o e n<|by simp)<|ux e m
 ·obtain⟨h,g⟩:=a.there b o e (by simp)
  exact F.th b h g<|ux e m
end
section
variable {K:Frag}{mg:Yh}{base:Heap}{N:Yb Yc}{Ym:Yc}{scope:Scope}{f:X4}{cd:X3}{A:X9}{outer:Yb Env}{s:X5}{s1:X5}{H:Hp}{H1:Hp}{E:XK}{Yi:Yg}{σ:St}{ea:X4}
def uD(I:Inv (kZ (vX P w) P w K mg base N Ym scope f cd A outer s H E) Yi σ H1 s1)(j:H1 g=some (.ext φ))(L:∀b o,s.heap.get? b=some o->b≠g)(eo:s1.heap.get? g=some ob)(hc:ob.cls=.ref C)(fd:ob.data=.fields vs)(v1:vs[1]? =some .none)(xd:ob.dict=dx)(hE:E (.ref C) dx (oX H1 g)):
  (kZ (vX P w) P w K mg base N Ym scope f cd A outer s H E).xe (.ref g) s1:=by
 have x:=I.stack;have D:=I.kr;have ab:g ∉ iD (envOfC Ym scope s.heap.objs.size f cd::outer):=λm=>by
  have:=D g m;rw[j]at this;cases this
 have i:∀b o,s1.heap.get? b=some o->b ∉ g::iD (envOfC Ym scope s.heap.objs.size f cd::outer)->(hideAll s1.heap (g::iD (envOfC Ym scope s.heap.objs.size f cd::outer))).get? b=some o:=λb o e n=>XX _ e n;refine yx (B:=hideAll s1.heap (g::iD (envOfC Ym scope s.heap.objs.size f cd::outer))) I.ok.frames (PySem.W.funFrames_hide x λO he a hf=>.tail _<|UI.mpr ⟨O,he,hf⟩) rfl eo (λb o e=>of_hideAll _ e) (XO _<|.head _) fd xd v1 λT fl up=>?_;rw[hc]at fl;generalize hideAll s1.heap (g::iD (envOfC Ym scope s.heap.objs.size f cd::outer))=B at fl i;have J:=fl.st;have l:Un (iD outer) [] H H1 s.heap s1.heap:=I.base;have y:∀b o,s.heap.get? b=some o->b ∉ iD outer->b ∉ g::iD (envOfC Ym scope s.heap.objs.size f cd::outer):=λb o e n m=>by
  obtain z|m:=SS.mp m
  ·grind
  ·exact ux e n m
 have slot:∀b o,s.heap.get? b=some o->H b=none->b∈iD outer->∃sl,T.get? b=some { o with slots:=sl }:=λb o e n m=>by
  obtain⟨sl,p⟩:=l.slot b o e n m (by simp);obtain⟨_,of,G,Z⟩:=x.mem<|DN m;rw[p]at G;cases G;obtain⟨R,h3⟩:=up b _ p Z;exact⟨R,h3⟩
 have S:=λb o e n m=>i b o (l.keep b o e n m<|by simp)<|y b o e m;have X:∀b o,s.heap.get? b=some o->b ∉ iD outer->∃v,B.get? b=some v:=λb o e m=>by
  obtain⟨v,p⟩:=l.there b o e (by simp);exact⟨v,i b v p<|y b o e m⟩
 have r:∀b o,oX H1 g b≠none->s1.heap.get? b=some o->B.get? b=some o:=λb o n e=>i b o e λm=>by
  obtain z|m:=SS.mp m
  ·rw[z,nC]at n
   exact n rfl
  ·by_cases z:b=g
   ·grind
   ·rw[jq z]at n
    exact n<|D b m
 have F:=I.hok.oX j;have M:∀b,oX H1 g b≠none->∃o,s1.heap.get? b=some o:=λb n=>by
  cases q:oX H1 g b with
  |none=>grind
  |some u=>exact(F b u q).there
 have kept:∀b u,H1 b=some u->(∀φ,u≠.ext φ)->oX H1 g b=some u:=λb u e n=>by
  rw[jq λz=>by rw[z,j]at e;cases e;exact n _ rfl];exact e
 refine⟨g,.ref C,dx,B,oX H1 g,rfl,⟨I.os,I.bare,⟨λb o e n m _=>J _ _<|S b o e n m,λb o e n m _=>slot b o e n m,λb o e n hx=>?_,λb o e _=>?_,λb xs e=>kept b _ (l.tups b xs e) (λφ z=>by cases z),λb o u e=>kept b _ (l.frzs b o u e) (λφ z=>by cases z),λb ps e=>?_⟩,λa o e=>?_,λb o n e=>?_,S,X,fl⟩,hE⟩
 ·rw[jq<|L b o e]
  exact l.free b o e n hx
 ·by_cases m:b∈iD outer
  ·obtain⟨sl,h⟩:=slot b o e (I.ok.frf b m) m
   exact⟨_,h⟩
  ·obtain⟨v,h⟩:=X b o e m
   exact⟨v,J _ _ h⟩
 ·obtain⟨m,h⟩:=l.tbls b ps e
  exact⟨m,kept b _ h λφ z=>by cases z⟩
 ·refine(F a o e).gD (λb u U q=>J _ _<|r b u ?_ q) (λ_ q=>q) λ_ _ q=>q
  obtain rfl|U:=U
  ·grind
  ·grind
 ·obtain⟨o1,p⟩:=M b n
  have Q:=J _ _<|r b o1 n p;have Y:T.get? b=some o:=e;rw[Q]at Y;cases Y;exact r b _ n p
def xi(I:Inv (kZ (vX P w) P w K mg base N Ym scope f cd A outer s H E) Yi σ H1 s1)(a:Heap.MadeExcOf s1.heap h' ea (.ref C) args)(p:E (.ref C) none H1):(kZ (vX P w) P w K mg base N Ym scope f cd A outer s H E).xe (.ref ea) { s1 with heap:=h' }:=by
 have i:H1 ea=none:=by
  cases q:H1 ea with
  |none=>rfl
  |some u=>
   exfalso
   obtain⟨o,h⟩:=(I.hok ea u q).there;rw[a.new]at h;cases h
 obtain⟨y,g,_,_⟩:=a.there;have l:∀b o,s1.heap.get? b=some o->b≠ea:=λb o e z=>by
  rw[z,a.new]at e;cases e
 have m:Inv (kZ (vX P w) P w K mg base N Ym scope f cd A outer s H E) Yi σ (upd H1 ea<|.ext<|Pq ea C) { s1 with heap:=h' }:=I.tE (ch:=[]) rfl ⟨λb o e _ _ _=>a.keeps b o e,λb o e _ _ _=>⟨o.slots,a.keeps b o e⟩,λb o e n _=>by rw[cI<|l b o e];exact n,λb o e _=>⟨o,a.keeps b o e⟩,λb x e=>by rw[cI<|cH e i];exact e,λb o u e=>by rw[cI<|cH e i];exact e,λb r e=>⟨#[],by rw[cI<|cH e i,Array.append_empty];exact e⟩⟩ (fM.xB (λb u e=>(I.hok b u e).gD (λc o _ q=>a.keeps c o q) (λ_ q=>q) λ_ _ q=>q) i<|IG ⟨_,_,g,rfl,rfl,rfl,rfl⟩) I.bare (λb z=>by cases z);refine uD m cG (λb o e z=>?_) g rfl rfl rfl rfl ?_
 ·obtain⟨B,v⟩:=I.base.there b o e (by show b ∉ [];simp)
  grind
 ·have e:oX (upd H1 ea<|.ext<|Pq ea C) ea=H1:=funext λb=>by
   by_cases j:b=ea
   ·rw[j,nC,i]
   ·rw[jq j,cI j]
  rw[e];exact p
end
structure PD(P:X6)(w:X7)(K:Frag)(mg:Yh)(base:Heap)(k:Nat)(C:X4)(m:Yc)(sp:Sp):Prop where
 ex:∃(f:X4) (fd:FuncData) (ps:Yb Yc),dZ P w K mg base (vX P w) k f fd ps sp/\Meth K C m f/\Binds K fd ps []
 cl:vm K C
structure Az(P:X6)(w:X7)(K:Frag)(mg:Yh)(base:Heap)(k:Nat)(x:Yc)(sp:Sp):Prop where
 ex:∃(f:X4) (fd:FuncData) (ps:Yb Yc),dZ P w K mg base (vX P w) k f fd ps sp/\mg x=some (.ref f)/\keepIn K (.ref f)=true/\Binds K fd ps []
end L2
namespace J
structure Rc(X Y:Cx)(P:X6)(w:X7)(K:Frag)(mg:Yh)(base:Heap)(sc:Scope)(N:Yb Yc)(k:Nat)(E:XK):Prop where
 here:Here X P w K mg base sc N k
 js:∀{st t},JS X st t->JS Y st t
 jt:∀{e t},JT X e t->JT Y e t
 rz:∀{xr:Yc}{Ce:X4}{bA:Yb X3}{e₀:Expr}{t:TA}{np Yn pos:Pos},gJ K Ce bA->mg xr=some (.ref Ce)->sc.names.lookup xr=some .globalImplicit->(xr==("__debug__" :Yc))=false->JA X [e₀] t->notStar e₀=true->
  JS Y (.Raise (some (.Call (.Name xr np) [e₀] [] Yn)) none pos) (λ_ σ H=>t σ H λvs H1=>vs.length<=sizeLine/\E (.ref Ce) none H1)
 rmk:∀{x:Yc}{C:X4}{j:Nat}{sp:Sp}{e:Expr}{es:Yb Expr}{t:TA}{p pos YY:Pos},Of P w K mg base j x C sp->JA X (e::es) t->sc.names.lookup x=some .globalImplicit->j+1<=k->(x==("__debug__" :Yc))=false->notStar e=true->es.all notStar=true->
  JS Y (.Return (some (.Call (.Name x p) (e::es) [] pos)) YY) (zm (Fs C sp [] E t))
 rmt:∀{m:Yc}{C:X4}{j:Nat}{sp:Sp}{o e:Expr}{es:Yb Expr}{ta:TE}{t:TA}{Yo pos YY:Pos}{pl:Env->Sem Bool},PD P w K mg base j C m sp->JE X o ta->JA X (e::es) t->j<=k->(∀env:Env,eval (.Call (.Attribute o m Yo) (e::es) [] pos) env=(do
   let ov <-eval o env
   standAt Yo.atName
   let (f,first) <-holding [ov] (getMethod ov m (pl env))
   callWith pos f first (backTo pos (starEach (e::es) env)) (backToKw pos (keywordEach [] env))))->notStar e=true->es.all notStar=true->
  JS Y (.Return (some (.Call (.Attribute o m Yo) (e::es) [] pos)) YY) (zm (AE C m sp [] E ta t))
section
variable {K:Frag}{mg:Yh}{base:Heap}{x:Yc}{Ym:Yc}{m:Yc}{st:Stmt}{f:X4}{C:X4}{fd:FuncData}{N:Yb Yc}{ps:Yb Yc}{k:Nat}{j:Nat}{sp:Sp}
def Ov{l:X3}{A:X9}{outer:Yb Env}{s:X5}{H:Hp}{E:XK}(S:cL N ps (cK st))(hr:dB k (A.deeper<|envOfC Ym (cK st) s.heap.objs.size f l)):
  Rc (kZ (vX P w) P w K mg base N Ym (cK st) f l A outer s H E).nh (kZ (vX P w) P w K mg base N Ym (cK st) f l A outer s H E) P w K mg base (cK st) N k E where
 here:=⟨rfl,rfl,rfl,rfl,rfl,rfl,Xu,rfl,rfl,S.nd,hr,λ_=>rfl⟩
 js:=λh=>⟨h.out.nh⟩
 jt:=λh=>⟨h.out.nh⟩
 rz:=λ{xr Ce bA D t np Yn g} O Q a y i Y=>⟨FI (L2.kO (X:=kZ (vX P w) P w K mg base N Ym (cK st) f l A outer s H E) a Q rfl y) O rfl i.out.nh _ (λYi σ H1 s1 I R h' ea args Z=>xi I Z R) (cT Y) rfl⟩
 rmk:=λ{x C j J e W t p g YY} G i a B y r n=>by
  obtain⟨U,q,z,F,M,v⟩:=G.ex;exact⟨lH<|AV M F (hr.mono B) a G.nm v .nil E1 i.out.nh y (cT r)<|d4 n⟩
 rmt:=λ{m C j J o e W ta t Yo g YY pl} G T i B L r n=>by
  obtain⟨U,q,z,F,M,v⟩:=G.ex;exact⟨lH<|GY T.out.nh G.cl M F (hr.mono B) v .nil E1 i.out.nh (cT r) (d4 n)<|L _⟩
def wC(G:Az P w K mg base k x sp):Gd P w K mg base k x (λvs H Q _=>sp vs H Q E0):=by
 obtain⟨f,i,m,F,n,j,p⟩:=G.ex;refine⟨f,i,m,⟨λvs H Q E h=>F.len vs H Q E0 h,λA outer s H args q vs Q E hr g l r h=>?_⟩,n,j,p⟩;refine UD (F.run A outer s H args q vs Q E0 hr g l r h) λo v a=>?_;cases o with
 |ok fl=>cases fl<;>exact a
 |error e=>
  obtain⟨_,_,_,_,_,_,_,z⟩:=a;exact z.elim
end
end J
namespace L2
def xZ.AN{fl:X3}(I:Inv X Yi σ H s)(F:xZ X.prog X.w X.stack H H' s ea cls dx B s'){h':Heap}(f:mD B X.stack ea cls dx fl h')(up:s'.heap.UpToSlots h')(x:∀h,(∃l v,h.get? ea=some l/\l.cls=cls/\l.data=.fields v/\l.dict=dx)->cV X.prog X.w (upd H' ea<|.ext φ) h ea (.ext φ)):
  Inv X Yi σ H' { s' with heap:=h' }/\Inv X Yi σ (upd H' ea<|.ext φ) { s' with heap:=h' }:=by
 obtain⟨un,g⟩:=F.on f.st up (λb o e m n=>by
  obtain⟨_,C,a,r⟩:=I.stack.mem m;rw[e]at a;cases a;exact r) I.kr
 have p:=F.new;obtain⟨G,v,_,_,_,A,K,y,i,_⟩:=id f.tr;have D:s.heap.get? ea=none:=by
  cases q:s.heap.get? ea with
  |none=>rfl
  |some o=>
   exfalso
   by_cases m:ea∈iD X.stack
   ·obtain⟨_,C,a,r⟩:=I.stack.mem m
    rw[q]at a;cases a;obtain⟨sl,j⟩:=un.slot ea o q (I.kr ea m) m (by simp);rw[j]at A;cases A;exact r _ i
   ·obtain⟨C,j⟩:=F.th ea o q m
    rw[f.nw]at j;cases j
 refine⟨I.tE F.os un g F.bare (λb z=>by cases z),I.tE F.os ⟨un.keep,un.slot,λb o q n y=>?_,un.there,λb J q=>?_,λb o u q=>?_,λb E q=>?_⟩ (fM.xB g p<|x _ ⟨G,v,A,K,i,y⟩) F.bare λb z=>by cases z⟩
 ·rw[cI λz=>by rw[z,D]at q;cases q]
  exact un.free b o q n y
 ·have:=un.tups b J q
  rw[cI<|cH this p];exact this
 ·have:=un.frzs b o u q
  rw[cI<|cH this p];exact this
 ·obtain⟨m,this⟩:=un.tbls b E q
  exact⟨m,by rw[cI<|cH this p];exact this⟩
structure OO(K:Frag)(C Ck:X4):Prop where
 c:∃(nm q:Yc) (N:X4) (bs:Yb X3) (hdct:Bool) (sn:Yb Yc) (sub:Yb X3) (ab:Bool) (col:X8 Bool) (dd:X8 X4) (k0 k1 k2 k3 k5:X8 X3) (YA:String),K.lookup C=some (excClassObj nm q C N bs (.ref Ck::oG) hdct sn sub ab col dd k0 k1 k2 k3 k5 YA)
 k:∃(nm q:Yc) (N:X4) (bs:Yb X3) (hdct:Bool) (sn:Yb Yc) (sub:Yb X3) (ab:Bool) (col:X8 Bool) (dd:X8 X4) (k0 k1 k2 k3 k5:X8 X3) (YA:String),K.lookup Ck=some (excClassObj nm q Ck N bs oG hdct sn sub ab col dd k0 k1 k2 k3 k5 YA)
def gJ.err{K:Frag}(O:gJ K C (.ref Ck::oG))(A:gJ K Ck oG):OO K C Ck:=by
 obtain⟨w,q,N,bs,s,F,l,D,r,I,z,v,J,y,B,x,_⟩:=O.ex;obtain⟨g,L,G,o,p,m,E,j,H,M,n,i,e,f,a,h,_⟩:=A.ex;exact⟨⟨w,q,N,bs,s,F,l,D,r,I,z,v,J,y,B,_,x⟩,⟨g,L,G,o,p,m,E,j,H,M,n,i,e,f,a,_,h⟩⟩
def Jd(x:F5 ea C h):cV P w H h ea (.ext<|F5 ea C):=⟨x,let ⟨a,e,_⟩:=x;⟨a,e⟩,λ_ _ ⟨a,e,r⟩ k=>⟨a,k _ e,r⟩⟩
inductive BA(X:Cx)(l:X4)(i:Nat)(m:X3->TS)(D:Ends)(σ:St)(cls:X3)(n:X8 X4)(H':Hp):Prop
 |mk(C:X4)(φ:X4->Heap->Prop)(e:cls=.ref C)(r:OO X.K C l)(p:∀P w H a h,(∃f o,h.get? a=some f/\f.cls=.ref C/\f.data=.fields o/\f.dict=n)->cV P w H h a (.ext (φ a)))(q:∀a,H' a=none->m (.ref a) { nx:=λg j=>D.nx (g.set i none) j,rt:=D.rt } (σ.set i (some (.ref a))) (upd H' a (.ext (φ a))))
def BA.pl(O:gJ X.K C (.ref Ck::oG))(h:gJ X.K Ck oG)(q:∀a,H' a=none->th (.ref a) { nx:=λe f=>D.nx (e.set i none) f,rt:=D.rt } (σ.set i<|some<|.ref a) (upd H' a<|.ext<|F5 a C)):BA X Ck i th D σ (.ref C) none H':=
 ⟨C,λa=>F5 a C,rfl,O.err h,λ_ _ _ _ _ ⟨j,o,g,l,m,n⟩=>Jd ⟨j,g,l⟩,q⟩
def Hn(hb:CZ X body tb)(hh:∀e,yG (X.mk' e) (G::Yr)<|th e)(g:X.stack=X.env::X.outer/\X.env.frame=some X.env.locals)(hg:Gl X xk)(hm:X.mg xk=some (.ref Ck))(nd:X.N.Nodup)
  (a:Slot X i n) (hl:X.env.scope.names.lookup n=some .local) (YN:(xk==("__debug__" :Yc))=false):
  PS X (.Try body [.ExceptHandler (some<|.Name xk kp) (some n) (G::Yr) hpos] [] [] pos) (λD σ H=>tb (λcls dx H'=>BA X Ck i th D σ cls dx H') D σ H):=by
 intro Yi s σ H D I h;refine wpAny_Try_except<|SJ (hb Yi s σ H D _ I h) (λf s1 q=>?_) λe s1 q=>?_
 ·cases f with
  |next=>exact Vc q
  |ret v=>exact q
  |brk=>exact q
  |cont=>exact q
 obtain⟨H1,H',s0,l,cls,dx,B,w,rfl,F,C,φ,rfl,Z,A,q⟩:=q;have y:=F.fl;rw[g.1]at y;refine tG (w.ok.frames.trans<|SY some g.1) g.2 y λh4 f4 L=>?_;refine gR f4 λh5 K O=>?_;have j:=L.trans O;rw[<-g.1]at K;obtain⟨S,_⟩:=F.AN w K j λh x=>A _ _ _ l h x;obtain⟨a1,qC,NC,am,as,ap,ad,al,ai,ay,c0,c1,c2,c3,c5,aq,U⟩:=Z.c;obtain⟨a0,qK,NK,aj,a2,ar,ab,ax,ac,av,d0,d1,d2,d3,d5,an,mR⟩:=Z.k;obtain⟨oe,ws,_,_,_,T,W,_⟩:=id K.tr;have Y:(Value.ref Ck::oG).contains (.type "BaseException")=true:=by
  unfold oG;simp
 refine wpAny_handleBy_cons (codeAny_handlers_test<|kT (S.mark<|.ref l) hg hm ?_ YN) (by intro q;cases q);refine Cr (S.jm _ _ U) (S.jm _ _ mR) T W Y (by simp)<|codeAny_handlers_suite_as ?_;refine gR K λh6 f6 Q=>?_;obtain⟨_,I6⟩:=F.AN w f6 (j.trans Q) λh x=>A _ _ _ l h x;refine j5 (X:=X.mk'<|.ref l) (I6.mark<|.ref l) nd a.hN a.lc (v:=.ref l) rfl (λs7 I7=>?_) a.fn;have il:i<σ.length:=by rw[w.len];exact(gI0.mp a.hN).1
 refine SJ (hh (.ref l) Yi s7 _ _ _ I7<|q l F.new) (λf s8 J=>?_) λ_ _ z=>False.elim z;cases f with
 |next=>
  obtain⟨r,H2,E,P⟩:=J;have o:=E.unmark w.ok;have p:i<r.length:=by rw[E.len];exact(gI0.mp a.hN).1
  refine RX<|wpAny_bindName<|j5 o nd a.hN a.lc (v:=.non) rfl (λs9 R=>?_) a.fn;refine wpAny_onRaise<|tD R nd a.hN hl (v:=.non) (Vr p) λM m=>?_;refine⟨_,_,m,?_⟩;rw[List.set_set];exact P
 |ret v=>
  obtain⟨v',r,H2,E,r8,P⟩:=J;have o:=E.unmark w.ok;have p:i<r.length:=by rw[E.len];exact(gI0.mp a.hN).1
  refine RX<|wpAny_bindName<|j5 o nd a.hN a.lc (v:=.non) rfl (λs9 R=>?_) a.fn;refine wpAny_onRaise<|tD R nd a.hN hl (v:=.non) (Vr p) λM m=>?_;exact⟨v',_,_,m,r8,P⟩
 |brk=>
  obtain⟨_,_,_,z⟩:=J;exact z.elim
 |cont=>
  obtain⟨_,_,_,z⟩:=J;exact z.elim
end L2
namespace J
section
variable {K:Frag}{mg:Yh}{base:Heap}{x:Yc}{N:Yb Yc}{k:Nat}{j:Nat}{sp:Sp}
def Ql(a:Here X P w K mg base sc N k)(g:X.stack=X.env::X.outer/\X.env.frame=some X.env.locals)(o:Ea X body tb)(j:∀e,wc (X.mk' e) (f::hb)<|th e)(hm:mg xk=some (.ref Ck))
  (l:L2.Slot X i n) (p:sc.names.lookup xk=some .globalImplicit) (h:sc.names.lookup n=some .local) (m:(xk==("__debug__" :Yc))=false):
  JS X (.Try body [.ExceptHandler (some<|.Name xk kp) (some n) (f::hb) hpos] [] [] pos) (λD σ H=>tb (λcls q H'=>BA X Ck i th D σ cls q H') D σ H):=by
 obtain⟨rfl,rfl,rfl,rfl,rfl⟩:=And.intro a.pr<|And.intro a.wd<|And.intro a.fK<|And.intro a.gm a.bs;exact⟨Hn o.out (λe=>(j e).out) g (a.gl p) hm a.nd l (by rw[a.hsc];exact h) m⟩
end
end J
namespace NK
structure gO(P:X6)(w:X7)(κ:Type) [DecidableEq κ] where
 is:Heap->κ->X3->Prop
 hash:κ->Int
 draws:κ->Nat
 room:X9->Prop
 inj:∀{h:Heap}{u:X3}{x y:κ},is h x u->is h y u->x=y
 eqv:∀{A:X9}{E:Yd}{s:X5}{x y:κ}{u v:X3}{Q:Bool->X5->Prop},room A->is s.heap x u->is s.heap y v->Q (decide (x=y)) s->wpAny (model P w) A (eqBool u v) Q E s
 hashes:∀{A:X9}{E:Yd}{s:X5}{x:κ}{u:X3}{Q:Int->X5->Prop},room A->is s.heap x u->Q (hash x) { s with toks:=s.toks+draws x }->wpAny (model P w) A (pyHash u) Q E s
 qd:Nat
 quiet:∀{A:X9}{E:Yd}{s:X5}{x:κ}{u:X3}{n:Nat}{Q:Bool->X5->Prop},qd<=n->is s.heap x u->Q true s->wpAny (model P w) A (eqIsQuiet n u) Q E s
 keep:∀{h h':Heap}{x:κ}{u:X3},(∀b o,h.get? b=some o->h'.get? b=some o)->is h x u->is h' x u
 txs:∀{h:Heap}{x y:κ}{z:Yc}{t:Tok}{u:X3},is h x (.str z t)->is h y u->u.isStr z=decide (y=x)
section
variable [DecidableEq κ] (k:gO P w κ)
def ent(e:κ×X3×X3):DictEntry:=⟨k.hash e.1,e.2.1,e.2.2⟩
end
section
variable [DecidableEq κ]{k:gO P w κ}{A:X9}{E:Yd}{s:X5}
def Dc(a:k.qd<=8)(j:k.is s.heap x u)(i:∀v∈zt,∃y,k.is s.heap y v)(q:Q false s):wpAny (model P w) A (tableMayTell u zt) Q E s:=by
 unfold tableMayTell;split
 ·exact RZ q
 refine RX<|k.quiet a j ?_;rw[R7<|by decide];refine RX<|wpAny_forIn_list _ (λr b e=>e=s/\b=(none,())/\∀v∈r,∃y,k.is s.heap y v) _ ?_ ?_ _ _ ⟨rfl,rfl,i⟩
 ·rintro v r b h ⟨rfl,rfl,hr⟩
  obtain⟨y,g⟩:=hr v<|.head _;refine RX<|k.quiet a g ?_;rw[R7<|by decide];exact RZ ⟨rfl,rfl,λv f=>hr v<|.tail _ f⟩
 ·rintro b h ⟨rfl,rfl,_⟩
  exact RZ q
def Sh(u:X3):Prop:=(∃z t,u=.str z t)\/∃a,u=.ref a
def iR{xs:Yb (κ×X3×X3)}(nd:(xs.map (·.1)).Nodup){x:κ}{i:Nat}{e:κ×X3×X3}(g:xs[i]? =some e)(ex:e.1=x):(xs.findIdx? λe=>decide<|e.1=x)=some i:=by
 obtain⟨f,rfl⟩:=gI0.mp g;refine U9.mpr ⟨f,dT0 ex,λj h=>?_⟩;intro q;have a:=Sj q;have:j=i:=(Uy (h₀:=by rw[R5];lia) (h₁:=by rw[R5];lia) nd).mp (by rw[Vi,Vi,a,ex]);lia
def qQ(q8:k.qd<=8){d:X4}{o:Obj}{es:Array DictEntry}{ep:Nat}{xs:Yb (κ×X3×X3)}{x:κ}{u:X3}{Q:X8 Nat->X5->Prop}(sh:Sh u)(hu:k.room A)(R:k.is s.heap x u)(O:s.heap.get? d=some o)(hd:o.data=.dict es ep)(K:es.toList=xs.map (ent k))(J:∀e∈xs,k.is s.heap e.1 e.2.1)(nd:(xs.map (·.1)).Nodup)(q:Q (xs.findIdx? λe=>decide<|e.1=x) s):
  wpAny (model P w) A (dictFind d u<|k.hash x) Q E s:=by
 have look:∀i,es[i]? =(xs[i]?).map (ent k):=λi=>by rw[<-Sx,K,Sk]
 have sz:es.size=xs.length:=by rw[<-Sm,K,R5]
 have U:(placesWithHash es.size (λi=>es[i]?.map (·.hash))<|k.hash x).Nodup:=List.nodup_range.filter _;have l:∀i∈placesWithHash es.size (λi=>es[i]?.map (·.hash)) (k.hash x),∃e,xs[i]? =some e:=λi h=>by
  have H:=TU.mp (Su.mp h).1;rw[sz]at H;exact⟨_,RY H⟩
 have D:∀(i:Nat) (e:κ×X3×X3),xs[i]? =some e->e.1=x->i∈placesWithHash es.size (λi=>es[i]?.map (·.hash)) (k.hash x):=λi e h f=>by
  refine Su.mpr ⟨TU.mpr<|by rw[sz];exact(gI0.mp h).1,?_⟩;show(es[i]?.map (·.hash)==some (k.hash x))=true;rw[look,h];show(some (k.hash e.1)==some (k.hash x))=true;rw[f];exact Tz _
 have W:∀v∈(placesWithHash es.size (λi=>es[i]?.map (·.hash))<|k.hash x).filterMap λi=>es[i]?.map (·.key),∃y,k.is s.heap y v:=λv hv=>by
  obtain⟨i,C,e⟩:=UI.mp hv;obtain⟨B,n⟩:=l i C;rw[look,n]at e;cases e;exact⟨_,J _<|R4 n⟩
 have none_of:(∀(i:Nat) (e:κ×X3×X3),xs[i]? =some e->e.1≠x)->(xs.findIdx? λe=>decide<|e.1=x)=none:=λh=>VR.mpr λe K=>by
  obtain⟨i,J⟩:=List.mem_iff_getElem?.mp K;exact Se<|h i e J
 unfold dictFind;refine Tf<|RX<|T2 O hd ?_;generalize placesWithHash es.size (λi=>es[i]?.map (·.hash)) (k.hash x)=pl at U l D W ⊢;have ab:wpAny (model P w) A (dictWalkPlain d u (k.hash x) es pl) Q E s:=by
  unfold dictWalkPlain;refine RX<|wpAny_forIn_list _ (λr b s'=>s'=s/\b=(none,())/\(∀i∈r,∃e,xs[i]? =some e)/\∀(i:Nat) (e:κ×X3×X3),xs[i]? =some e->e.1=x->i∈r) _ ?_ ?_ _ _ ⟨rfl,rfl,l,D⟩
  ·rintro i r b s1 ⟨rfl,rfl,C,I⟩
   obtain⟨e,p⟩:=C i<|.head _;have keep:e.1≠x->∀(j:Nat) (B:κ×X3×X3),xs[j]? =some B->B.1=x->j∈r:=λN j B n f=>by
    obtain z|z:=SS.mp (I j B n f)
    ·rw[z,p]at n
     cases n;exact absurd f N
    ·exact z
   rw[show es[i]? =some (ent k e) by rw[look,p];rfl];refine SR (λ_=>RX<|TF O hd<|RX<|k.eqv hu (J e<|R4 p) R<|RX<|TF O hd<|SR (λh=>absurd h<|by simp) λ_=>SR (λf=>?_) λf=>RX<|Ue<|RZ ⟨rfl,rfl,λj g=>C j<|.tail _ g,keep λe=>f<|dT0 e⟩) λN=>RZ ⟨rfl,rfl,λj g=>C j<|.tail _ g,keep λf=>N<|f ▸ Tz _⟩;rw[iR nd p<|Sj f]at q;exact RX<|Ue<|RZ<|RZ q
  ·rintro b s1 ⟨rfl,rfl,C,I⟩
   rw[none_of λi e h f=>nomatch I i e h f]at q;exact RZ q
 have ac:∀z t,u=.str z t->wpAny (model P w) A (foundByValue d u es z) Q E s:=λz t eu=>by
  have same:∀e∈xs,(ent k e).key.isStr z=decide (e.1=x):=λe K=>by
   rw[eu]at R;exact k.txs R<|J e K
  unfold foundByValue;cases Y:xs.findIdx? (λe=>decide<|e.1=x) with
  |none=>
   rw[Y]at q;have:es.findIdx? (·.key.isStr z)=none:=Array.findIdx?_eq_none_iff.mpr λe ad=>by
    have m:e∈xs.map (ent k):=by rw[<-K];exact Wf.mpr ad
    obtain⟨B,n,rfl⟩:=SQ.mp m;rw[same B n];exact VR.mp Y B n
   rw[this];exact RZ q
  |some i=>
   rw[Y]at q;obtain⟨H,p,h2⟩:=U9.mp Y;have Z:i<es.size:=by rw[sz];exact H
   have L:∀j (g:j<es.size) (Zb:j<xs.length),es[j]=ent k xs[j]:=λj g Zb=>by
    have:=look j;rw[Uo g,RY Zb]at this;exact Sy this
   have:es.findIdx? (·.key.isStr z)=some i:=Array.findIdx?_eq_some_iff_getElem.mpr ⟨Z,by rw[L i Z H,same _<|UN H];exact p,λj g=>by
    rw[L j (by lia)<|by lia,same _<|UN<|by lia];exact h2 j g⟩
   rw[this];dsimp only;rw[Uo Z,L i Z H];dsimp only;refine RX<|TF O hd<|RX<|k.eqv hu (J _<|UN H) R<|RX<|TF O hd ?_;rw[R7<|by simp,p,Sb rfl];exact RX<|Ue<|RZ q
 have X:¬(es.any λe=>e.key==u&&e.hash != k.hash x)=true:=λh=>by
  rw[<-Array.any_toList,K,any_map,V7]at h;obtain⟨e,C,hb⟩:=h;have T:(e.2.1==u&&k.hash e.1 != k.hash x)=true:=hb;rw[Uj,UJ,bne_iff_ne]at T;have h3:=J e C;rw[T.1]at h3;exact T.2 (by rw[k.inj h3 R])
 extract_lets -underBinder+onlyGivenNames jp
 suffices g:wpAny (model P w) A (jp ()) Q E s by
  clear_value jp
  obtain ⟨z,t,rfl⟩|⟨a,rfl⟩:=sh
  ·exact SR (λ_=>ac z t rfl) λ_=>g
  ·exact g
 refine SR (λ_=>ab) λ_=>?_
 extract_lets -underBinder+onlyGivenNames jp
 suffices g:wpAny (model P w) A (jp ()) Q E s by
  clear_value jp
  obtain ⟨z,t,rfl⟩|⟨a,rfl⟩:=sh
  ·exact g
  ·exact SR (λh=>absurd h X) λ_=>g
 dsimp -zeta only[jp]
 extract_lets -underBinder+onlyGivenNames jp
 suffices g:wpAny (model P w) A (jp false) Q E s from SR (λ_=>RX<|RZ g) λ_=>RX<|Dc q8 R W g
 refine SR nofun λ_=>RX<|wpAny_forIn_list _ (λr b s'=>s'=s/\∃G:X8 Nat,b=(none,G)/\(∀i∈r,∃e,xs[i]? =some e)/\r.Nodup/\((G=none/\∀(i:Nat) (e:κ×X3×X3),xs[i]? =some e->e.1=x->i∈r)\/∃(j:Nat) (e:κ×X3×X3),G=some j/\xs[j]? =some e/\e.1=x/\j ∉ r)) _ ?_ ?_ _ _ ⟨rfl,none,rfl,l,U,.inl ⟨rfl,D⟩⟩
 ·rintro i r b s1 ⟨rfl,G,rfl,C,rn,hH⟩
  obtain⟨e,p⟩:=C i<|.head _;have F:=Uz.mp rn;have M:∀j∈r,∃e,xs[j]? =some e:=λj g=>C j<|.tail _ g;have keep:e.1≠x->((G=none/\∀(i:Nat) (e:κ×X3×X3),xs[i]? =some e->e.1=x->i∈r)\/∃(j:Nat) (e:κ×X3×X3),G=some j/\xs[j]? =some e/\e.1=x/\j ∉ r):=λN=>by
   obtain ⟨h0,I⟩|⟨j,B,h0,g,S,nj⟩:=hH
   ·refine .inl ⟨h0,λj B n f=>?_⟩
    obtain z|z:=SS.mp (I j B n f)
    ·rw[z,p]at n
     cases n;exact absurd f N
    ·exact z
   ·exact .inr ⟨j,B,h0,g,S,λz=>nj<|.tail _ z⟩
  rw[show es[i]? =some (ent k e) by rw[look,p];rfl];refine SR (λ_=>RX<|TF O hd<|RX<|k.eqv hu (J e<|R4 p) R<|RX<|TF O hd<|SR (λh=>absurd h<|by simp) λ_=>SR (λf=>?_) λf=>RX<|Ue<|SR nofun λ_=>RZ ⟨rfl,G,rfl,M,F.2,keep λe=>f<|dT0 e⟩) λN=>RZ ⟨rfl,G,rfl,M,F.2,keep λf=>N<|f ▸ Tz _⟩;have pq:=iR nd p<|Sj f;obtain ⟨rfl,I⟩|⟨j,B,rfl,g,S,nj⟩:=hH
  ·rw[pq]at q
   exact SR nofun λ_=>RX<|Ue<|SR (λ_=>RZ<|RZ q) λ_=>RZ ⟨rfl,some i,rfl,M,F.2,.inr ⟨i,e,rfl,p,Sj f,F.1⟩⟩
  ·cases (iR nd g S).symm.trans pq
   exact absurd (List.Mem.head _) nj
 ·rintro b s1 ⟨rfl,G,rfl,C,_,hH⟩
  obtain ⟨rfl,I⟩|⟨j,e,rfl,g,f,_⟩:=hH
  ·rw[none_of λi e h f=>nomatch I i e h f]at q
   exact RZ q
  ·rw[iR nd g f]at q
   exact RZ q
def AA(k:gO P w κ)(h:Heap)(d:X4)(xs:Yb (κ×X3×X3)):Prop:=∃o a e,h.get? d=some o/\o.ExactDict/\o.data=.dict a e/\a.toList=xs.map (ent k)
def vH(xs:Yb (κ×X3×X3))(x:κ):X8 (κ×X3×X3):=xs.find? λe=>decide<|e.1=x
def je(xs:Yb (κ×X3×X3))(x:κ)(u v:X3):Yb (κ×X3×X3):=if(vH xs x).isSome then xs.map (λe=>if e.1=x then(e.1,e.2.1,v) else e) else xs++[(x,u,v)]
def w4{x:κ}(h:vH xs x=none):je xs x u v=xs++[(x,u,v)]:=by
 unfold je;rw[h];rfl
def xm{e:κ×X3×X3}(h:vH xs x=some e):je xs x u v=xs.map (λe=>if e.1=x then(e.1,e.2.1,v) else e):=by
 unfold je;rw[h];rfl
def vy{xs:Yb (κ×X3×X3)}{x:κ}{i:Nat}(h:(xs.findIdx? λe=>decide<|e.1=x)=some i):∃e,xs[i]? =some e/\vH xs x=some e/\e.1=x:=by
 obtain⟨a,f,l⟩:=U9.mp h;refine⟨xs[i],RY a,List.find?_eq_some_iff_getElem.mpr ⟨f,i,a,rfl,λj g=>?_⟩,Sj f⟩;have:=l j g
 simpa using this
def uz{x:κ}(h:(xs.findIdx? λe=>decide<|e.1=x)=none):vH xs x=none/\∀e∈xs,e.1≠x:=by
 have f:=VR.mp h;exact⟨Wy.mpr λe a q=>(by rw[f e a]at q;cases q),λe a q=>(by
  have:=f e a;rw[dT0 q]at this;cases this)⟩
def uw(p:k.qd<=8){x:κ}(sh:Sh u)(j:k.room A)(l:k.is s.heap x u)(a:AA k s.heap d xs)(v:∀e∈xs,k.is s.heap e.1 e.2.1)(nd:(xs.map (·.1)).Nodup)(q:Q ((vH xs x).map (·.2.2)) { s with toks:=s.toks+k.draws x }):wpAny (model P w) A (dictGet d u) Q E s:=by
 obtain⟨o,r,y,g,_,a,h⟩:=a;unfold dictGet;refine Tf<|RX<|k.hashes j l<|RX<|qQ p sh j l g a h v nd ?_;cases f:xs.findIdx? (λe=>decide<|e.1=x) with
 |none=>
  rw[(uz f).1]at q;exact RZ q
 |some i=>
  obtain⟨e,n,m,_⟩:=vy f;rw[m]at q;refine RX<|T2 g a ?_;rw[show r[i]? =some (ent k e) by rw[<-Sx,h,Sk,n];rfl];exact RZ q
def zI{xs:Yb (κ×X3×X3)}(nd:(xs.map (·.1)).Nodup)(h:xs[i]? =some e)(ex:e.1=x):((xs.map<|ent k).modify i λe=>{ e with val:=v })=(xs.map λe=>if e.1=x then(e.1,e.2.1,v) else e).map (ent k):=by
 refine W2 λj=>?_;rw[List.getElem?_modify,Sk,Sk,Sk];cases a:xs[j]? with
 |none=>rfl
 |some f=>
  show some (if i=j then _ else ent k f)=some (ent k<|if f.1=x then _ else f);by_cases g:i=j
  ·subst g
   rw[h]at a;cases a;rw[Sb rfl,Sb ex];rfl
  ·have:f.1≠x:=λl=>by
    have:=(iR nd a l).symm.trans<|iR nd h ex;grind
   rw[R7 g,R7 this]
def Bg(C:k.qd<=8){d:X4}{xs:Yb (κ×X3×X3)}{u v:X3}{Q:Ye}(sh:Sh u)(j:k.room A)(l:k.is s.heap x u)(a:AA k s.heap d xs)(B:∀e∈xs,k.is s.heap e.1 e.2.1)(nd:(xs.map (·.1)).Nodup)(sz:xs.length<=sizeLine)
  (q:∀h',AA k h' d (je xs x u v)->Heap.SameBut d s.heap h'->Q () { s with heap:=h',toks:=s.toks+k.draws x }):wpAny (model P w) A (dictSet d u v) Q E s:=by
 obtain⟨o,z,m,f,n,a,g⟩:=a;have D:z.size=xs.length:=by rw[<-Sm,g,R5]
 unfold dictSet;refine Tf<|RX<|k.hashes j l ?_;unfold dictSetHashed;refine Tf<|RX<|qQ C sh j l f a g B nd ?_;cases h:xs.findIdx? (λe=>decide<|e.1=x) with
 |none=>
  refine RX<|Ue<|wpAny_updateDictKeys f a<|q _ ⟨_,_,m+1,UE _ f<|WQ<|VO a _,n.mapDictKeys _,VO a _,?_⟩<|Uv ..;rw[w4 (uz h).1,TQ,<-g];simp[ent]
 |some i=>
  obtain⟨e,y,r,p⟩:=vy h;refine RX<|Ue<|RX<|wpAny_updateDict f a<|wpAny_point<|q _ ⟨_,_,m,UE _ f<|WQ<|Obj.data_mapDict a _,n.mapDict _,Obj.data_mapDict a _,?_⟩<|Uv ..;rw[xm r,<-zI nd y p,<-g];grind
def FQ(y:k.qd<=8){x:κ}(sh:Sh u)(l:k.room A)(m:k.is s.heap x u)(a:AA k s.heap d xs)(q:∀e∈xs,k.is s.heap e.1 e.2.1)(nd:(xs.map (·.1)).Nodup)(sz:xs.length<=sizeLine)
  (q1:∀e,vH xs x=some e->Q e.2.2 { s with toks:=s.toks+k.draws x })(B:vH xs x=none->∀h',AA k h' d (xs++[(x,u,v)])->Heap.SameBut d s.heap h'->Q v { s with heap:=h',toks:=s.toks+k.draws x }):wpAny (model P w) A (dictSetDefault d u v) Q E s:=by
 obtain⟨o,j,r,f,z,a,g⟩:=a;have C:j.size=xs.length:=by rw[<-Sm,g,R5]
 unfold dictSetDefault;refine Tf<|RX<|k.hashes l m<|RX<|qQ y sh l m f a g q nd ?_;cases h:xs.findIdx? (λe=>decide<|e.1=x) with
 |none=>
  refine RX<|Ue<|RX<|wpAny_updateDictKeys f a<|RZ<|B (uz h).1 _ ⟨_,_,r+1,UE _ f<|WQ<|VO a _,z.mapDictKeys _,VO a _,?_⟩<|Uv ..;rw[TQ,<-g];simp[ent]
 |some i=>
  obtain⟨e,p,n,_⟩:=vy h;refine RX<|T2 f a ?_;rw[show j[i]? =some (ent k e) by rw[<-Sx,g,Sk,p];rfl];exact RX<|Ue<|RZ<|q1 e n
end
def jx(P:X6)(w:X7):gO P w Key where
 is:=λ_ x u=>(cO P w).is x u=true
 hash:=(cO P w).hash
 draws:=λ_=>1
 room:=λ_=>True
 inj:=λa b=>(cO P w).inj _ _ _ a b
 eqv:=λ_ a b q=>(cO P w).eqBool a b q
 hashes:=λ_ a q=>(cO P w).pyHash a q
 qd:=0
 quiet:=λ_ a q=>by
  rw[eqIsQuiet_byValue _<|(cO P w).byValue _ _ a];exact RZ q
 keep:=λ_ a=>a
 txs:=λ{h x y z t u} a b=>by
  rw[<-(cO P w).strs x z t u a,KeyKind.is_eq_decide b x];exact WR.mpr ⟨Eq.symm,Eq.symm⟩
section
variable [DecidableEq κ] (k:gO P w κ)
inductive rG(h:Heap):Yb κ->Yb X3->Prop
 |nil:rG h [] []
 |cons {x:κ}{u:X3}{xs:Yb κ}{us:Yb X3}(a:k.is h x u)(b:rG h xs us):rG h (x::xs) (u::us)
def iL(h:Heap)(xs:Yb κ)(u:X3):Prop:=∃a items,u=.ref a/\h.IsTuple a items/\rG k h xs items.toList
end
section
variable [DecidableEq κ]{k:gO P w κ}{A:X9}{E:Yd}{s:X5}
theorem rG.inj{h:Heap}:∀{xs ys:Yb κ}{us:Yb X3},rG k h xs us->rG k h ys us->xs=ys
 |_,_,_,.nil,.nil=>rfl
 |_,_,_,.cons a b,.cons c d=>by rw[k.inj a c,rG.inj b d]
def iL.inj(a:iL k h xs u)(b:iL k h ys u):xs=ys:=by
 obtain⟨a,j,rfl,⟨o,e,_,n,d⟩,i⟩:=a;obtain⟨b,m,q,⟨r,g,_,p,f⟩,l⟩:=b;cases q;rw[e]at g;cases g;rw[d]at f;cases f;exact i.inj l
theorem rG.keep{h h':Heap}(e:∀b o,h.get? b=some o->h'.get? b=some o):∀{xs:Yb κ}{us:Yb X3},rG k h xs us->rG k h' xs us
 |_,_,.nil=>.nil
 |_,_,.cons a b=>.cons (k.keep e a)<|rG.keep e b
def iL.keep(f:∀b o,h.get? b=some o->h'.get? b=some o)(a:iL k h xs u):iL k h' xs u:=by
 obtain⟨a,is,e,⟨o,g,c⟩,i⟩:=a;exact⟨a,is,e,⟨o,f _ _ g,c⟩,i.keep f⟩
def pL(k:gO P w κ)(xs:Yb κ):Int:=reduceHash<|Builtin.Tuple.tupleHashOf<|xs.map k.hash
def jT(k:gO P w κ):Yb κ->Nat
 |[]=>0
 |x::xs=>k.draws x+jT k xs
def iL.ty(h:iL k s.heap xs (.ref a)):s.TypeIs (.ref a) "tuple" :=by
 obtain⟨_,_,q,⟨o,e,c,_⟩,_⟩:=h;cases q;exact⟨o,e,c⟩
def yf(G:A.units<cLine)(hr:k.room A.in1)(h:iL k s.heap xs u)(q:Q (pL k xs) { s with toks:=s.toks+(jT k xs+1) }):wpAny (model P w) A (pyHash u) Q E s:=by
 obtain⟨a,items,rfl,C,I⟩:=id h;have j:=h.ty;obtain⟨o,D,_,n,z⟩:=C;unfold pyHash pyHashByItsType;refine RX<|wpAny_cRoomFor_or (.inr G)<|RX<|UK j V9.lookup ?_;rw[R7<|by grind];refine RX<|UK j V9.lookup<|RX<|wpAny_callSpecialIfBoundUnlessNone?_slot j V9<|Tb V9 j F.entry_tuple_hash ?_ (F.args_tuple_hash_1 _);show wpAny _ _ (Builtin.Tuple.tupleItemsOf (.ref a) >>= _) _ _ s;refine RX<|WY D z<|RX ?_;rw[<-Array.forIn_toList];refine wpAny_forIn_list _ (λr (b:Array Int) B=>∃f i m,xs=f++i/\rG k s.heap i r/\b.toList=f.map k.hash/\m+jT k i=jT k xs/\B={ s with toks:=s.toks+m }) _ ?_ ?_ _ _ ⟨[],xs,0,rfl,I,rfl,Uq _,rfl⟩
 ·rintro v r b H ⟨f,i,m,rfl,p,l,y,rfl⟩
  cases p with
  | @cons x _ lf' _ a1 a2=>
   refine RX<|k.hashes hr a1 ?_;have e:jT k (x::lf')=k.draws x+jT k lf':=rfl;exact RZ ⟨f++[x],lf',m+k.draws x,by simp,a2,by simp[l],by lia,by simp[Nat.add_assoc]⟩
 ·rintro b H ⟨f,i,m,rfl,p,l,y,rfl⟩
  cases p;have g:=y;rw[SH]at q g;show wpAny _ _ (retInt<|Builtin.Tuple.tupleHashOf b.toList) _ _ _;rw[l];refine wpAny_ret_mkInt ?_;subst g;unfold pL reduceHash at q;show wpAny _ _ (if(decide (-(2:Int)^63<=Builtin.Tuple.tupleHashOf (f.map k.hash))&&decide (Builtin.Tuple.tupleHashOf (f.map k.hash)<2^63))=true then _ else _) Q E _;split at q
  ·rename_i c
   rw[Sb c];exact RZ (by lia)
  ·rename_i c
   rw[R7 c];exact RX (Ue<|RZ<|by lia)
def Fj(hr:k.room A)(H:iL k s.heap xs (.ref a))(m:iL k s.heap ys (.ref b))(q:R (.done<|.ret<|.bool<|decide<|xs=ys) s):wpAny (model P w) A (Builtin.«tuple.__eq__» ⟨[.ref a,.ref b],[]⟩) R E s:=by
 have B:=m.ty;obtain⟨_,j,J,⟨L,C,_,M,D⟩,I⟩:=H;obtain⟨_,i,F,⟨K,p,_,N,n⟩,x⟩:=m;cases J;cases F;show wpAny _ _ (isInstance (.ref b) (.type "tuple") >>= _) _ _ s;refine RX<|VI B isSubtype_tuple_tuple ?_;rw[R7<|by decide];refine RX<|WY C D<|RX<|WY p n<|RX ?_;refine wpAny_forIn_list _ (λr z o=>z.1=none/\o=s/\∃f g h e,r=List.zip h e/\rG k s.heap f h/\rG k s.heap g e/\(decide (f=g)=decide (xs=ys))/\(h.length==e.length)=(j.size==i.size)) _ ?_ ?_ _ _ ⟨rfl,rfl,xs,ys,j.toList,i.toList,rfl,I,x,rfl,by simp⟩
 ·rintro⟨u,v⟩ r z s1 ⟨hz,rfl,f,g,h,e,hr',j1,j2,hdec,Yv⟩
  cases j1 with
  |nil=>simp at hr'
  | @cons x1 u1 xs1 us1 a1 b1=>
   cases j2 with
   |nil=>simp at hr'
   | @cons y1 v1 ys1 vs1 a2 b2=>
    simp only[List.zip_cons_cons,List.cons.injEq,Prod.mk.injEq]at hr';obtain⟨⟨rfl,rfl⟩,rfl⟩:=hr';refine RX<|k.eqv hr a1 a2 ?_;by_cases l:x1=y1
    ·subst l
     rw[dT0 rfl,R7<|by decide];refine RZ ⟨rfl,rfl,xs1,ys1,us1,vs1,rfl,b1,b2,?_,by simpa using Yv⟩;grind
    ·rw[Se l,Sb<|by decide]
     have G:decide (xs=ys)=false:=by grind
     rw[G]at q;exact RX<|RZ<|RZ<|RZ q
 ·rintro⟨z1,z2⟩ s1 ⟨hz,rfl,f,g,h,e,hr',j1,j2,hdec,Yv⟩
  cases (show z1=none from hz);refine RZ ?_;have y:(j.size==i.size)=decide (xs=ys):=by
   rw[<-hdec,<-Yv];cases j1 with
   |nil=>cases j2 with
    |nil=>simp
    |cons _ _=>simp
   |cons _ _=>cases j2 with
    |nil=>simp
    |cons _ _=>simp at hr'
  show R (.done<|.ret<|.bool<|j.size==i.size) _;grind
def EV(h:A.units<cLine)(hr:k.room A.in1)(f:iL k s.heap xs u)(g:iL k s.heap ys v)(q:Q (decide<|xs=ys) s):wpAny (model P w) A (eqBool u v) Q E s:=by
 obtain⟨a,_,rfl,_⟩:=id f;obtain⟨b,_,rfl,_⟩:=id g;unfold eqBool;refine Tf ?_;by_cases e:(Value.ref a==Value.ref b)=true
 ·rw[Sb e]
  cases UJ.mp e;cases f.inj g;exact RX (Ue<|RZ<|by simpa using q)
 ·rw[R7 e]
  exact RX<|wpAny_richCompare_same_room f.ty g.ty XA (Tb XA f.ty F.entry_tuple_eq (Fj hr f g ⟨_,rfl,(λz=>nomatch z),Tc q⟩)<|F.args_tuple_eq_2 _ _) h
def tF(C:k.qd<=n)(h:iL k s.heap xs u)(q:Q true s):wpAny (model P w) A (eqIsQuiet (n+1) u) Q E s:=by
 obtain⟨a,items,rfl,l,y⟩:=id h;have e:=h.ty;obtain⟨o,p,_,m,g⟩:=l;unfold eqIsQuiet;refine RX<|UK e XA.lookup ?_;refine RX<|VI e isSubtype_tuple_tuple ?_;rw[R7<|by decide];refine RX<|XS p g<|RX ?_;rw[<-Array.forIn_toList];refine wpAny_forIn_list _ (λr z i=>z.1=none/\i=s/\∃xs,rG k s.heap xs r) _ ?_ ?_ _ _ ⟨rfl,rfl,xs,y⟩
 ·rintro v r z x ⟨f,rfl,xs,B⟩
  cases B with
  |cons D j=>
   refine RX<|k.quiet C D ?_;rw[R7<|by decide];exact RZ ⟨rfl,rfl,_,j⟩
 ·rintro⟨z1,z2⟩ x ⟨f,rfl,_⟩
  cases (show z1=none from f);exact RZ q
def P0(k:gO P w κ):gO P w (Yb κ) where
 is:=iL k
 hash:=pL k
 draws:=λh=>jT k h+1
 room:=λA=>A.units<cLine/\k.room A.in1
 inj:=λa b=>a.inj b
 eqv:=λhr a b q=>EV hr.1 hr.2 a b q
 hashes:=λhr a q=>yf hr.1 hr.2 a q
 qd:=k.qd+1
 quiet:=λ{A E s x u n Q} f a q=>by
  cases n with
  |zero=>exact absurd f<|XW _
  |succ n=>exact tF (Nat.le_of_succ_le_succ f) a q
 keep:=λg a=>a.keep g
 txs:=λa _=>by
  obtain⟨_,_,e,_⟩:=a;cases e
end
section
variable {A:X9}{E:Yd}{s:X5}
abbrev Pl:=Key ⊕ Yb Key
def lE(h:(cO P w).is x u=true):(∃i t,x=.inl i/\u=.int i t)\/∃z t,x=.inr z/\u=.str z t:=dG h
def NF(P:X6)(w:X7)(h:Heap):Pl->X3->Prop
 |.inl x,u=>(cO P w).is x u=true
 |.inr xs,u=>iL (jx P w) h xs u
def jD(e:A.units<cLine)(h:(cO P w).is x u=true)(g:iL (jx P w) s.heap xs v)(q:Q false s):wpAny (model P w) A (eqBool u v) Q E s/\wpAny (model P w) A (eqBool v u) Q E s:=by
 obtain⟨a,items,rfl,f,_⟩:=g;obtain ⟨i,t,_,rfl⟩|⟨z,t,_,rfl⟩:=lE h
 ·exact⟨SeqAt.EqAt.int_tuple i t f e P w E Q q,SeqAt.EqAt.tuple_int i t f e P w E Q q⟩
 ·exact⟨SeqAt.EqAt.str_tuple z t f e P w E Q q,SeqAt.EqAt.tuple_str z t f e P w E Q q⟩
def Bl(g:(cO P w).is x u=true)(f:iL (jx P w) h xs u):False:=by
 obtain⟨a,items,rfl,_⟩:=f;rcases lE g with ⟨i,t,_,e⟩|⟨z,t,_,e⟩<;>cases e
def Qx(P:X6)(w:X7):gO P w Pl where
 is:=NF P w
 hash:=λx=>match x with
  |.inl x=>(cO P w).hash x
  |.inr g=>pL (jx P w) g
 draws:=λx=>match x with
  |.inl _=>1
  |.inr g=>jT (jx P w) g+1
 room:=λA=>A.units<cLine
 inj:=λ{h u x y} a b=>by
  cases x<;>cases y
  ·exact SY _<|(cO P w).inj _ _ _ a b
  ·exact(Bl a b).elim
  ·exact(Bl b a).elim
  ·exact SY _<|iL.inj a b
 eqv:=λ{A E s x y u v Q} f a b q=>by
  cases x<;>cases y
  ·exact(cO P w).eqBool a b (by simpa using q)
  ·exact(jD f a b<|by simpa using q).1
  ·exact(jD f b a<|by simpa using q).2
  ·exact EV (k:=jx P w) f True.intro a b (by simpa using q)
 hashes:=λ{A E s x u Q} f a q=>by
  cases x
  ·exact(cO P w).pyHash a q
  ·exact yf (k:=jx P w) f True.intro a q
 qd:=1
 quiet:=λ{A E s x u n Q} j a q=>by
  cases x
  ·exact(jx P w).quiet (Tq _) a q
  ·cases n with
   |zero=>exact absurd j<|XW _
   |succ n=>exact tF (k:=jx P w) (Tq _) a q
 keep:=λ{h l x u} i a=>by
  cases x
  ·exact a
  ·exact iL.keep (k:=jx P w) i a
 txs:=λ{h x y z t u} a b=>by
  cases x
  ·cases y
   ·rw[(jx P w).txs (h:=h) a b]
    exact WR.mpr ⟨λe=>SY _ e,λe=>by injection e⟩
   ·obtain⟨_,_,rfl,_⟩:=b
    exact(Se λe=>by cases e).symm
  ·obtain⟨_,_,e,_⟩:=a
   cases e
end
section
variable {P:X6}{w:X7}{κ:Type} [DecidableEq κ]{k:gO P w κ}{A:X9}{E:Yd}{s:X5}{d:X4}{xs:Yb (κ×X3×X3)}{x:κ}{u:X3}{v:X3}
def AA.ty(h:AA k s.heap d xs):s.TypeIs (.ref d) "dict" :=by
 obtain⟨o,_,_,e,c,_⟩:=h;exact⟨o,e,c.1⟩
structure Lk(k:gO P w κ)(A:X9)(s:X5)(d:X4)(xs:Yb (κ×X3×X3))(x:κ)(u:X3):Prop where
 q8:k.qd<=8
 sh:Sh u
 hu:k.room A.in1
 hx:k.is s.heap x u
 hd:AA k s.heap d xs
 hi:∀e∈xs,k.is s.heap e.1 e.2.1
 nd:(xs.map (·.1)).Nodup
def D8(L:Lk k A s d xs x u)(h:vH xs x=some e)(q:Q e.2.2 { s with toks:=s.toks+k.draws x }):wpAny (model P w) A (getItem (.ref d) u) Q E s:=by
 unfold getItem;refine Tf (RX<|wpAny_sequenceKey L.hd.ty (by decide)<|RX<|Ud L.hd.ty slot_dict_getitem<|Tb slot_dict_getitem L.hd.ty entry_dict_getitem ?_ (args_dict_getitem _ _));show wpAny _ _ (dictGet d u >>= _) _ _ s;refine RX<|uw L.q8 L.sh L.hu L.hx L.hd L.hi L.nd ?_;rw[h];exact RZ ⟨_,rfl,RZ q⟩
def has_any(L:Lk k A s d xs x u)(e:(d==sysModules)=false)(q:Q (vH xs x).isSome { s with toks:=s.toks+k.draws x }):wpAny (model P w) A (contains (.ref d) u) Q E s:=by
 unfold contains;refine Tf<|RX<|UK L.hd.ty slot_dict_contains.lookup ?_;rw[R7<|by grind];refine RX<|wpAny_callSpecialUnlessNone?_slot L.hd.ty slot_dict_contains<|Tb slot_dict_contains L.hd.ty entry_dict_contains ?_ (args_dict_contains _ _);show wpAny _ _ (dictGet d u >>= _) _ _ s;refine RX<|uw L.q8 L.sh L.hu L.hx L.hd L.hi L.nd ?_;cases a:vH xs x with
 |some p=>
  rw[a]at q;exact RZ ⟨_,rfl,Tc q⟩
 |none=>
  rw[a]at q;exact RX<|wpAny_pendingKey_other e<|RZ ⟨_,rfl,Tc q⟩
def Ir(L:Lk k A s d xs x u)(sz:xs.length<=sizeLine)(q:∀h',AA k h' d (je xs x u v)->Heap.SameBut d s.heap h'->Q () { s with heap:=h',toks:=s.toks+k.draws x }):wpAny (model P w) A (setItem (.ref d) u v) Q E s:=by
 unfold setItem;refine Tf (RX<|wpAny_sequenceKey L.hd.ty (by decide)<|RX<|Ud L.hd.ty slot_dict_setitem<|Tb slot_dict_setitem L.hd.ty entry_dict_setitem ?_ (args_dict_setitem _ _ _));refine RX<|UL L.hd.ty ?_;show wpAny _ _ (dictSet d u v >>= _) _ _ s;exact RX<|Bg L.q8 L.sh L.hu L.hx L.hd L.hi L.nd sz λh' e a=>RZ ⟨.none,rfl,RZ<|q h' e a⟩
def FY(L:Lk k A s d xs x u)(e:(d==sysModules)=false)(q:Q (((vH xs x).map (·.2.2)).getD v) { s with toks:=s.toks+k.draws x }):wpAny (model P w) A (call (.builtin "dict.get") [.ref d,u,v]) Q E s:=by
 refine Tb Wa L.hd.ty Wm ?_ (Wg _ _ _);show wpAny _ _ (dictGet d u >>= _) _ _ s;refine RX<|uw L.q8 L.sh L.hu L.hx L.hd L.hi L.nd ?_;cases a:(vH xs x).map (·.2.2) with
 |some p=>
  rw[a]at q;exact RZ ⟨_,rfl,q⟩
 |none=>
  rw[a]at q;exact RX<|wpAny_missed_other e<|RZ ⟨_,rfl,q⟩
def sr(L:Lk k A s d xs x u)(g:(d==sysModules)=false)(sz:xs.length<=sizeLine)(q1:∀e,vH xs x=some e->Q e.2.2 { s with toks:=s.toks+k.draws x })(h:vH xs x=none->∀h',AA k h' d (xs++[(x,u,v)])->Heap.SameBut d s.heap h'->Q v { s with heap:=h',toks:=s.toks+k.draws x }):wpAny (model P w) A (call (.builtin "dict.setdefault") [.ref d,u,v]) Q E s:=by
 refine Tb XB L.hd.ty F.entry_dict_setdefault ?_ (F.args_dict_setdefault_3 _ _ _);unfold Builtin.«dict.setdefault»;refine RX ?_;unfold Builtin.Dict.keyAndDefault;refine RX<|UL L.hd.ty ?_;refine RZ ?_;show wpAny _ _ (if(d==sysModules)=true then _ else(dictSetDefault d u v >>= _)) _ _ s;rw[R7<|by rw[g];decide];exact RX<|FQ L.q8 L.sh L.hu L.hx L.hd L.hi L.nd sz (λe a=>RZ ⟨_,rfl,q1 e a⟩) λi h' j f=>RZ ⟨v,rfl,h i h' j f⟩
end
def xM(f:(d==sysModules)=false)(e:s.heap.get? d=some o)(g:o.ExactDict)(hd:o.data=.dict es ep)
  (q:Q (.ref s.heap.objs.size) { s with heap:=s.heap.push { cls:=.type "dict_keyiterator",data:=.fields #[.ref d,.int 0 0,.int es.size 0,.int ep 0] } }):wpAny (model P w) A (pyIter<|.ref d) Q E s:=by
 have a:s.TypeIs (.ref d) "dict" :=⟨o,e,g.1⟩;refine W7 a F.slot_dict_iter<|Tb F.slot_dict_iter a F.entry_dict_iter ?_ (F.args_dict_iter_1 _);unfold Builtin.«dict.__iter__» Builtin.Dict.dictSlotNone;refine RX<|RX<|UL a ?_;refine RZ ?_;show wpAny _ _ (Builtin.Dict.showsAll d >>= _) _ _ s;unfold Builtin.Dict.showsAll;rw[R7<|by rw[f];decide];refine RX<|RZ<|RX<|T2 e hd<|RX<|TF e hd<|RX<|T1<|RZ ⟨_,rfl,"dict_keyiterator",_,⟨_,Sl _ rfl,rfl⟩,Ug.lookup,?_⟩
 simpa [rawInt] using q
def yd(f:s.heap.IsKeyIter it d i es.size ep)(j:s.heap.get? d=some o)(hd:o.data=.dict es ep)(l:i<es.size)
  (q:∀h',h'.IsKeyIter it d (i+1) es.size ep->Heap.SameBut it s.heap h'->Q (some es[i].key) { s with heap:=h' }):wpAny (model P w) A (pyNext<|.ref it) Q E s:=by
 obtain⟨m,e,h,a⟩:=id f;unfold pyNext;refine RX<|VL<|Ud f.typeIs Ug<|Tb Ug f.typeIs Xo ?_ (Xi _);refine RX<|RZ<|RX<|RX ?_
 first|refine RX (UC f.typeIs<|RZ<|RX<|Uw e a ?_)|refine RX<|Vb f.typeIs<|RZ<|RX<|Uw e a ?_
 simp only[show Builtin.Dict_items.ownsTuple "dict_keyiterator" =false by decide,false_eq_true,if_false];show wpAny _ _ (if(Value.ref d==Value.none)=true then _ else _) _ _ s;rw[R7<|show ¬((Value.ref d==Value.none)=true) from bF0];refine RX<|RZ<|RX<|T2 j hd ?_;rw[R7<|by simp];refine RX<|RZ<|RX<|TF j hd ?_;rw[R7<|by simp];refine RZ ?_;simp only[show ¬((i:Int)<0) from by lia,if_false,Int.toNat_natCast,Array.getElem?_eq_getElem l];refine RX ?_
 first|refine RX (UC f.typeIs<|RZ<|RX<|Wz f.typeIs ?_)|refine RX<|Vb f.typeIs<|RZ<|RX<|Wz f.typeIs ?_
 show wpAny _ _ (setField (.ref it) 1 (rawInt<|(i:Int)+1) >>= _) _ _ s;refine RX (Vy e a (by simp) ?_);have g:(s.heap.update it<|Obj.mapFields (·.setIfInBounds 1 (rawInt<|(i:Int)+1))).IsKeyIter it d (i+1) es.size ep:=⟨_,UE _ e<|VF<|Vh a _,(Obj.cls_mapFields ..).trans h,by rw[Vh a];simp[rawInt]⟩;refine RX<|Tf<|RX<|Wz g.typeIs ?_;exact RZ<|RZ ⟨_,rfl,RZ<|q _ g<|Uv ..⟩
def wQ(h:A.handled=none)(f:s.heap.IsKeyIter it d i es.size ep)(g:s.heap.get? d=some o)(hd:o.data=.dict es ep)(l:es.size<=i)(q:∀h',Heap.ExtBut it s.heap h'->Q none { s with heap:=h' }):wpAny (model P w) A (pyNext<|.ref it) Q E s:=by
 obtain⟨m,e,j,a⟩:=id f;unfold pyNext;refine RX<|VL<|Ud f.typeIs Ug<|Tb Ug f.typeIs Xo ?_ (Xi _);refine RX<|RZ<|RX<|RX ?_
 first|refine RX (UC f.typeIs<|RZ<|RX<|Uw e a ?_)|refine RX<|Vb f.typeIs<|RZ<|RX<|Uw e a ?_
 simp only[show Builtin.Dict_items.ownsTuple "dict_keyiterator" =false by decide,false_eq_true,if_false];show wpAny _ _ (if(Value.ref d==Value.none)=true then _ else _) _ _ s;rw[R7<|show ¬((Value.ref d==Value.none)=true) from bF0];refine RX<|RZ<|RX<|T2 g hd ?_;rw[R7<|by simp];refine RX<|RZ<|RX<|TF g hd ?_;rw[R7<|by simp];refine RZ ?_;simp only[show ¬((i:Int)<0) from by lia,if_false,Int.toNat_natCast,Array.getElem?_eq_none l];refine RX ?_
 first|refine RX (UC f.typeIs<|RZ ?_)|refine RX<|Vb f.typeIs<|RZ ?_
 show wpAny _ _ (setField (.ref it) 0 .none >>= _) _ _ s;refine RX (Vy e a (by simp) ?_);refine RX ?_;simp only[newExc,newTuple];refine RX (T1 ?_ (by size_fits));refine RX (wpAny_of_eq (by first|rfl| (simp only[firstArgMember];rfl))<|T1 ?_ (by size_fits));simp only[raiseNew];refine RX<|wpAny_handled ?_;rw[show A.in1.handled=none from h];refine RX<|RZ<|wpAny_throw ?_;refine RX<|VI ⟨_,Sl _ rfl,rfl⟩ isSubtype_stop ?_;exact RZ<|q _<|((Uv ..).extBut.push _).push _
def EC:entryFor table "dict_itemiterator.__iter__" =some Builtin.«dict_keyiterator.__iter__» :=entryFor_alias (id':= "dict_keyiterator.__iter__") (by kernel_rfl) rfl (by decide+kernel) (by kernel_rfl)
def Ew (e:(d==sysModules)=false) (g:s.heap.get? d=some o) (f:o.ExactDict) (q:Q (.ref s.heap.objs.size) { s with heap:=s.heap.push { cls:=.type "dict_items",data:=.fields #[.ref d] } }):wpAny (model P w) A (call (.builtin "dict.items") [.ref d]) Q E s:=by
 have a:s.TypeIs (.ref d) "dict" :=⟨o,g,f.1⟩;refine Tb F.slot_dict_items a F.entry_dict_items ?_ (F.args_dict_items_1 _);unfold Builtin.«dict.items» Builtin.Dict.noArgs;refine RX<|RX<|UL a ?_;refine RZ ?_;unfold Builtin.Dict.showsAll;rw[R7<|by rw[e];decide];exact RX<|RZ<|RX<|T1<|RZ ⟨_,rfl,q⟩
def BW(a:s.heap.IsItemsView v d)(g:s.heap.get? d=some o)(hd:o.data=.dict es ep)
  (q:Q (.ref s.heap.objs.size) { s with heap:=s.heap.push { cls:=.type "dict_itemiterator",data:=.fields #[.none,.bool false,.ref d,.int 0 0,.int es.size 0,.int ep 0,.none,.none] } }):wpAny (model P w) A (pyIter<|.ref v) Q E s:=by
 obtain⟨i,f,h,e⟩:=id a;refine W7 a.typeIs F.slot_dict_items_iter<|Tb F.slot_dict_items_iter a.typeIs F.entry_dict_items_iter ?_ (F.args_dict_items_iter_1 _);unfold Builtin.«dict_items.__iter__»;refine RX<|RZ<|RX ?_;unfold Builtin.Dict_items.dictOf;refine RX<|Vn f e rfl<|RZ<|RX ?_;unfold Builtin.Dict_items.newIterator;refine RX<|T2 g hd<|RX<|TF g hd ?_;simp only[show Builtin.Dict_items.ownsTuple "dict_itemiterator" =true by decide,if_true];refine T1 (RZ ⟨_,rfl,"dict_itemiterator",_,⟨_,Sl _ rfl,rfl⟩,TH.lookup,?_⟩) (by simp only[sizeOk,Builtin.Dict_items.ownedTupleFields,size_toArray,length_append,length_cons,length_nil,sizeLine_eq];lia)
 simpa [rawInt,Builtin.Dict_items.ownedTupleFields] using q
def Cq(p:IsItemIter s.heap it d i es.size ep ok ov)(S:s.heap.get? d=some o)(hd:o.data=.dict es ep)(X:i<es.size)
  (q:∀h',IsItemIterOut h' it d (i+1) es.size ep es[i].key es[i].val s.heap.objs.size->h'.get? s.heap.objs.size=some { cls:=.type "tuple",data:=.seq #[es[i].key,es[i].val] }->h'.objs.size=s.heap.objs.size+1->(∀b o,b≠it->s.heap.get? b=some o->h'.get? b=some o)->Q (some<|.ref s.heap.objs.size) { s with heap:=h' }):wpAny (model P w) A (pyNext<|.ref it) Q E s:=by
 obtain⟨f,g,N,F,H⟩:=s;have h:Shared.TypeIs ⟨f,g,N,F,H⟩ (.ref it) "dict_itemiterator" :=⟨_,p,rfl⟩;unfold pyNext;refine RX<|VL<|Ud h TH<|Tb TH h Xj ?_ (Xc _);refine RX<|RZ<|RX<|RX ?_
 first|refine RX (Ux h<|RZ<|RX<|Uw p rfl ?_)|refine RX<|U7 h<|RZ<|RX<|Uw p rfl ?_
 simp only[show Builtin.Dict_items.ownsTuple "dict_itemiterator" =true by decide,if_true];show wpAny _ _ (if(Value.ref d==Value.none)=true then _ else _) _ _ _;rw[R7<|show ¬((Value.ref d==Value.none)=true) from bF0];refine RX<|RZ<|RX<|T2 S hd ?_;rw[R7<|by simp];refine RX<|RZ<|RX<|TF S hd ?_;rw[R7<|by simp];refine RZ ?_;simp only[show ¬((i:Int)<0) from by lia,if_false,Int.toNat_natCast,Array.getElem?_eq_getElem X];refine RX ?_
 first|refine RX (Ux h<|RZ<|RX<|Vz h ?_)|refine RX<|U7 h<|RZ<|RX<|Vz h ?_
 show wpAny _ _ (setField (.ref it) 3 (rawInt<|(i:Int)+1) >>= _) _ _ ⟨f,g,N,F,H⟩;refine RX (Vj p (by simp) λj B x=>?_)
 replace x:Heap.SameBut it f j:=x
 replace B:IsItemIter j it d (i+1) es.size ep ok ov:=by
  have e:((i+1:Nat):Int)=(i:Int)+1:=by lia
  unfold IsItemIter;rw[e]
  simpa [rawInt] using B
 have m:Shared.TypeIs ⟨j,g,N,F,H⟩ (.ref it) "dict_itemiterator" :=⟨_,B,rfl⟩;refine RX<|Tf<|RX<|Vz m<|RX<|Vz m ?_;unfold Builtin.Dict_items.pairFromOwner;refine RX<|wpAny_newTuple ?_;have n:IsItemIter (j.push { cls:=.type "tuple",data:=.seq #[es[i].key,es[i].val] }) it d (i+1) es.size ep ok ov:=R6 _ B;generalize L:j.push { cls:=.type "tuple",data:=.seq #[es[i].key,es[i].val] }=l at n;have J:j.objs.size=f.objs.size:=x.1;have U:l.get? f.objs.size=some { cls:=.type "tuple",data:=.seq #[es[i].key,es[i].val] }:=by
  rw[<-L,<-J];exact Sl _ rfl
 have W:l.objs.size=f.objs.size+1:=by rw[<-L,W3,J]
 have Y:∀b o,b≠it->f.get? b=some o->l.get? b=some o:=λb o a e=>by
  rw[<-L];exact R6 _<|x.extBut b o a e
 rw[J];refine RX ?_;unfold Builtin.Dict_items.ownedTupleIsFree;refine RX<|Vn n rfl rfl<|RZ ?_;simp only[if_true];refine RX (Vn n rfl rfl<|RX<|Vn n rfl rfl<|RX<|Vj n (by simp) λM O z=>?_)
 replace z:Heap.SameBut it l M:=z
 replace O:IsItemIter M it d (i+1) es.size ep es[i].key ov:=O
 refine RX (Vj O (by simp) λI R v=>?_)
 replace v:Heap.SameBut it M I:=v
 replace R:IsItemIter I it d (i+1) es.size ep es[i].key es[i].val:=R
 refine RX (Vj R (by simp) λK D C=>?_)
 replace C:Heap.SameBut it I K:=C
 replace D:IsItemIterOut K it d (i+1) es.size ep es[i].key es[i].val f.objs.size:=D
 refine RX (Vj D (by simp) λy G r=>?_)
 replace r:Heap.SameBut it K y:=r
 replace G:IsItemIterOut y it d (i+1) es.size ep es[i].key es[i].val f.objs.size:=G
 have T:∀b o,b≠it->l.get? b=some o->y.get? b=some o:=λb o a e=>r.extBut b o a<|C.extBut b o a<|v.extBut b o a<|z.extBut b o a e;refine RX<|Xm<|RZ<|RZ ⟨_,rfl,RZ<|q y G (T _ _ (VH<|Sv p) U) ?_ λb o a e=>T b o a<|Y b o a e⟩;rw[r.1,C.1,v.1,z.1,W]
def Cg(g:A.handled=none)(e:IsItemIter s.heap it d i es.size ep ok ov)(f:s.heap.get? d=some o)(hd:o.data=.dict es ep)(h:es.size<=i)(q:∀h',Heap.ExtBut it s.heap h'->Q none { s with heap:=h' }):wpAny (model P w) A (pyNext<|.ref it) Q E s:=by
 have a:s.TypeIs (.ref it) "dict_itemiterator" :=⟨_,e,rfl⟩;unfold pyNext;refine RX<|VL<|Ud a TH<|Tb TH a Xj ?_ (Xc _);refine RX<|RZ<|RX<|RX ?_
 first|refine RX (Ux a<|RZ<|RX<|Uw e rfl ?_)|refine RX<|U7 a<|RZ<|RX<|Uw e rfl ?_
 simp only[show Builtin.Dict_items.ownsTuple "dict_itemiterator" =true by decide,if_true];show wpAny _ _ (if(Value.ref d==Value.none)=true then _ else _) _ _ s;rw[R7<|show ¬((Value.ref d==Value.none)=true) from bF0];refine RX<|RZ<|RX<|T2 f hd ?_;rw[R7<|by simp];refine RX<|RZ<|RX<|TF f hd ?_;rw[R7<|by simp];refine RZ ?_;simp only[show ¬((i:Int)<0) from by lia,if_false,Int.toNat_natCast,Array.getElem?_eq_none h];refine RX ?_
 first|refine RX (Ux a<|RZ ?_)|refine RX<|U7 a<|RZ ?_
 show wpAny _ _ (setField (.ref it) 2 .none >>= _) _ _ s;refine RX (Vy e rfl (by simp) ?_);refine RX ?_;simp only[newExc,newTuple];refine RX (T1 ?_ (by size_fits));refine RX (wpAny_of_eq (by first|rfl| (simp only[firstArgMember];rfl))<|T1 ?_ (by size_fits));simp only[raiseNew];refine RX<|wpAny_handled ?_;rw[show A.in1.handled=none from g];refine RX<|RZ<|wpAny_throw ?_;refine RX<|VI ⟨_,Sl _ rfl,rfl⟩ isSubtype_stop ?_;exact RZ<|q _<|((Uv ..).extBut.push _).push _
end NK
namespace L2
structure KK(P:X6)(w:X7)(κ:Type) [DecidableEq κ] where
 k:NK.gO P w κ
 rel:Hp->κ->V->Prop
 mono:∀{H H':Hp}{x:κ}{y:V},(∀b xs,H b=some (.tup xs)->H' b=some (.tup xs))->rel H x y->rel H' x y
 is:∀{H:Hp}{h:Heap}{x:κ}{y:V}{u:X3},fM P w H h->rel H x y->RelV y u->k.is h x u
 sh:∀{H:Hp}{x:κ}{y:V}{u:X3},rel H x y->RelV y u->NK.Sh u
 q8:k.qd<=8
 room:∀{A:X9},A.units+3<cLine->k.room A.in1
section
variable [DecidableEq κ]
def gP(p:κ×V×V)(q:κ×X3×X3):Prop:=p.1=q.1/\RelV p.2.1 q.2.1/\RelV p.2.2 q.2.2
def Dφ(f:KK P w κ)(a:X4)(Yj:Yb (κ×V×V)):Heap->Prop:=λh=>∃e,Paired gP Yj e/\NK.AA f.k h a e
def Fz(a:X4)(o:Obj)(φ:Heap->Prop):Heap->Prop:=λh=>h.get? a=some o/\φ h
def Rx(H:Hp)(a:X4)(φ:Heap->Prop):Prop:=H a=some (.ext φ)\/∃o,H a=some (.ext<|Fz a o φ)
def Rx.ok(r:Rx H a φ)(x:fM P w H h):φ h:=by
 obtain r|⟨o,r⟩:=r
 ·exact(show cV P w H h a (.ext φ) from x a _ r).1
 ·exact(show cV P w H h a (.ext<|Fz a o φ) from x a _ r).1.2
structure DD(kk:KK P w κ)(H:Hp)(a:X4)(Yj:Yb (κ×V×V)):Prop where
 h:Rx H a (Dφ kk a Yj)
 r:∀e∈Yj,kk.rel H e.1 e.2.1
 nd:(Yj.map (·.1)).Nodup
 ns:(a==sysModules)=false
 l:Yj.length<sizeLine
def jo(Yj:Yb (κ×V×V))(x:κ):X8 (κ×V×V):=Yj.find? λe=>decide<|e.1=x
def fG(Yj:Yb (κ×V×V))(x:κ)(y v:V):Yb (κ×V×V):=if(jo Yj x).isSome then Yj.map (λe=>if e.1=x then(e.1,e.2.1,v) else e) else Yj++[(x,y,v)]
theorem n6{x:κ}:∀{Yj:Yb (κ×V×V)}{xs:Yb (κ×X3×X3)},Paired gP Yj xs->(jo Yj x=none/\NK.vH xs x=none)\/∃e f,jo Yj x=some e/\NK.vH xs x=some f/\gP e f
 |_,_,.nil=>.inl ⟨rfl,rfl⟩
 |e::Yj,f::xs,.cons r t=>by
  unfold jo NK.vH;rw[find?_cons,find?_cons,<-r.1];by_cases h:e.1=x
  ·rw[dT0 h]
   exact .inr ⟨e,f,rfl,rfl,r⟩
  ·rw[Se h]
   exact n6 t
theorem wH:∀{Yj:Yb (κ×V×V)}{xs:Yb (κ×X3×X3)},Paired gP Yj xs->xs.map (·.1)=Yj.map (·.1)
 |_,_,.nil=>rfl
 |_,_,.cons r t=>by rw[SV,SV,r.1,wH t]
theorem AU{x:κ}{v:V}{u:X3}(a:RelV v u):∀{Yj:Yb (κ×V×V)}{xs:Yb (κ×X3×X3)},Paired gP Yj xs->Paired gP (Yj.map λe=>if e.1=x then(e.1,e.2.1,v) else e) (xs.map λe=>if e.1=x then(e.1,e.2.1,u) else e)
 |_,_,.nil=>.nil
 |e::_,f::_,.cons r t=>by
  refine .cons ?_ (AU a t);show gP (if e.1=x then(e.1,e.2.1,v) else e) (if f.1=x then(f.1,f.2.1,u) else f);by_cases h:e.1=x
  ·rw[Sb h,Sb<|r.1.symm.trans h]
   exact⟨r.1,r.2.1,a⟩
  ·rw[R7 h,R7 λq=>h<|r.1.trans q]
   exact r
theorem uI{Yj:Yb (κ×V×V)}{xs:Yb (κ×X3×X3)}{e:κ×V×V}{f:κ×X3×X3}(r:gP e f):Paired gP Yj xs->Paired gP (Yj++[e]) (xs++[f])
 |.nil=>.cons r .nil
 |.cons q t=>.cons q<|uI r t
def Ag(i:RelV y u)(h:RelV v r){xs:Yb (κ×X3×X3)}(p:Paired gP Yj xs):Paired gP (fG Yj x y v) (NK.je xs x u r):=by
 unfold fG NK.je;obtain ⟨g,a⟩|⟨e,f,g,a,_⟩:=n6 p
 ·rw[g,a]
  exact uI ⟨rfl,i,h⟩ p
 ·rw[g,a]
  exact AU h p
theorem EE{i:KK P w κ}{H:Hp}{h:Heap}(ok:fM P w H h):∀{Yj:Yb (κ×V×V)}{xs:Yb (κ×X3×X3)},Paired gP Yj xs->(∀e∈Yj,i.rel H e.1 e.2.1)->∀f∈xs,i.k.is h f.1 f.2.1
 |_,_,.nil,_=>λf a=>nomatch a
 |e::_,g::_,.cons r t,hr=>λf a=>by
  obtain rfl|a:=SS.mp a
  ·rw[<-r.1]
   exact i.is ok (hr e<|.head _) r.2.1
  ·exact EE ok t (λl j=>hr l<|.tail _ j) f a
end
section
variable {X:Cx}{κ:Type} [DecidableEq κ]{kk:KK X.prog X.w κ}{Yi:Yg}{σ:St}{H:Hp}{s:X5}{a:X4}{Yj:Yb (κ×V×V)}{x:κ}{y:V}{v:V}{u:X3}{r:X3}{A:X9}{E:Yd}
def mh(g:A.units+3<cLine)(I:Inv X Yi σ H s)(D:DD kk H a Yj)(e:kk.rel H x y)(f:RelV y u):∃xs,Paired gP Yj xs/\NK.Lk kk.k A s a xs x u:=by
 obtain⟨xs,p,i⟩:=D.h.ok I.hok;exact⟨xs,p,kk.q8,kk.sh e f,kk.room g,kk.is I.hok e f,i,EE I.hok p D.r,by rw[wH p];exact D.nd⟩
def AM(o:A.units+3<cLine)(I:Inv X Yi σ H s)(D:DD kk H a Yj)(m:kk.rel H x y)(q:RelV y u)(g:jo Yj x=some e)(h:∀j s',Inv X Yi σ H s'->RelV e.2.2 j->Q j s'):wpAny (model X.prog X.w) A (getItem (.ref a) u) Q E s:=by
 obtain⟨r,p,L⟩:=mh o I D m q;obtain ⟨i,_⟩|⟨v,f,i,l,n⟩:=n6 (x:=x) p
 ·grind
 ·rw[g]at i
  cases i;exact NK.D8 L l<|h _ _ (I.tok _) n.2.2
def DC(j:A.units+3<cLine)(I:Inv X Yi σ H s)(D:DD kk H a Yj)(i:kk.rel H x y)(l:RelV y u)(h:∀s',Inv X Yi σ H s'->Q (jo Yj x).isSome s'):wpAny (model X.prog X.w) A (contains (.ref a) u) Q E s:=by
 obtain⟨m,p,L⟩:=mh j I D i l;refine NK.has_any L D.ns ?_;obtain ⟨g,e⟩|⟨o,f,g,e,n⟩:=n6 p
 ·rw[e]
  rw[g]at h;exact h _<|I.tok _
 ·rw[e]
  rw[g]at h;exact h _<|I.tok _
def dφ_ok(p:Paired gP kvs' xs)(dd:NK.AA kk.k h' a xs):cV X.prog X.w H' h' a (.ext<|Dφ kk a kvs'):=by
 refine⟨⟨xs,p,dd⟩,let ⟨o,_,_,e,_⟩:=dd;⟨o,e⟩,λi h q k=>?_⟩;obtain⟨xs,p,o,g,f,e,c⟩:=q;exact⟨xs,p,o,g,f,k _ e,c⟩
def D0{Q:Ye}(j:A.units+3<cLine)(I:Inv X Yi σ H s)(D:DD kk H a Yj)(hm:H a=some (.ext<|Dφ kk a Yj))(i:kk.rel H x y)(f:RelV y u)(n:RelV v r)(h:∀s',Inv X Yi σ (upd H a<|.ext<|Dφ kk a<|fG Yj x y v) s'->Q () s'):wpAny (model X.prog X.w) A (setItem (.ref a) u r) Q E s:=by
 obtain⟨z,p,L⟩:=mh j I D i f;have l:=D.l;exact NK.Ir L (by rw[<-Tu p];lia) λq g m=>h _ <| kC I (by rw[hm];exact True.intro) m (let ⟨o,_,_,e,_⟩:=g;⟨o,e⟩) (dφ_ok (Ag f n p) g)
end
def iS(H:Hp):NK.Pl->V->Prop
 |.inl (.inr z),y=>y=.str z
 |.inl (.inl _),_=>False
 |.inr ks,y=>∃b,y=.ref b/\H b=some (.tup<|ks.map kV)
def iS.mono{H H':Hp}(a:∀b xs,H b=some (.tup xs)->H' b=some (.tup xs)):∀{x:NK.Pl}{y:V},iS H x y->iS H' x y
 |.inl (.inr _),_,h=>h
 |.inl (.inl _),_,h=>h
 |.inr _,_,⟨b,e,hb⟩=>⟨b,e,a _ _ hb⟩
theorem EX{h:Heap}:∀{e:Yb Key}{us:Yb X3},ItemsAre (cO P w) e us->NK.rG (NK.jx P w) h e us
 |_,_,.nil=>.nil
 |_,_,.cons a b=>.cons a<|EX b
def iS.is{H:Hp}{h:Heap}(ok:fM P w H h):∀{x:NK.Pl}{y:V}{u:X3},iS H x y->RelV y u->NK.NF P w h x u
 |.inl (.inr z),_,u,e,r=>by
  cases e;obtain⟨t,rfl⟩:=(show ∃t,u=Value.str z t from r);exact oH P w z t
 |.inl (.inl _),_,_,e,_=>e.elim
 |.inr ks,_,u,⟨b,e,hb⟩,r=>by
  cases e;cases (show u=Value.ref b from r);obtain⟨o,items,n,f,g,a,i⟩:=j6 ok hb;exact⟨b,items,rfl,⟨o,f,g,n,a⟩,EX i⟩
def iS.sh{H:Hp}:∀{x:NK.Pl}{y:V}{u:X3},iS H x y->RelV y u->NK.Sh u
 |.inl (.inr z),_,u,e,r=>by
  cases e;obtain⟨t,rfl⟩:=(show ∃t,u=Value.str z t from r);exact .inl ⟨z,t,rfl⟩
 |.inl (.inl _),_,_,e,_=>e.elim
 |.inr ks,_,u,⟨b,e,hb⟩,r=>by
  cases e;cases (show u=Value.ref b from r);exact .inr ⟨b,rfl⟩
def eV(P:X6)(w:X7):KK P w NK.Pl where
 k:=NK.Qx P w
 rel:=iS
 mono:=λa h=>h.mono a
 is:=λok h r=>h.is ok r
 sh:=λh r=>h.sh r
 q8:=by show 1<=8;decide
 room:=λ{A} h=>(by have e:A.units+3<cLine:=h;show A.units+1<cLine;lia)
def Pt(H:Hp)(x:Yb NK.Pl)(y:V):Prop:=∃b a,y=.ref b/\H b=some (.tup a)/\Paired (iS H) x a
theorem F7{H:Hp}{h:Heap}(ok:fM P w H h):∀{xs:Yb NK.Pl}{ys:Yb V}{us:Yb X3},Paired (iS H) xs ys->Vals ys us->NK.rG (NK.Qx P w) h xs us
 |_,_,_,.nil,.nil=>.nil
 |_,_,_,.cons a b,.cons r t=>.cons (a.is ok r)<|F7 ok b t
def mR(P:X6)(w:X7):KK P w (Yb NK.Pl) where
 k:=NK.P0<|NK.Qx P w
 rel:=Pt
 mono:=λg ⟨b,f,e,a,p⟩=>⟨b,f,e,g _ _ a,Paired.Eb p λ_ _ q=>q.mono g⟩
 is:=λ{H h x y u} ok ⟨b,f,e,a,p⟩ r=>by
  subst e;cases (show u=Value.ref b from r);obtain⟨_,v,j,o,l,m,n,i⟩:=ok b _ a;exact⟨b,_,rfl,⟨o,l,m,n,i⟩,F7 ok p j⟩
 sh:=λ{H x y u} ⟨b,f,e,a,p⟩ r=>by
  subst e;cases (show u=Value.ref b from r);exact .inr ⟨b,rfl⟩
 q8:=by show 2<=8;decide
 room:=λ{A} h=>(by have s:A.units+3<cLine:=h;exact⟨by show A.units+1<cLine;lia,by show A.units+1+1<cLine;lia⟩)
section
variable [DecidableEq κ]
inductive Bi(f:KK P w κ)(x y:V)(H:Hp)(Q:VK):Prop
 |mk(a:X4)(Yj:Yb (κ×V×V))(k:κ)(e:κ×V×V)(h:x=.ref a)(D:DD f H a Yj)(r:f.rel H k y)(g:jo Yj k=some e)(q:Q e.2.2 H)
inductive Nz(e:KK P w κ)(x y:V)(H:Hp)(Q:Bool->Prop):Prop
 |mk(a:X4)(Yj:Yb (κ×V×V))(k:κ)(f:x=.ref a)(D:DD e H a Yj)(r:e.rel H k y)(q:Q (jo Yj k).isSome)
inductive xj(e:KK P w κ)(x y v:V)(H:Hp)(Q:Hp->Prop):Prop
 |mk(a:X4)(Yj:Yb (κ×V×V))(k:κ)(f:x=.ref a)(D:DD e H a Yj)(hm:H a=some (.ext (Dφ e a Yj)))(r:e.rel H k y)(q:Q (upd H a (.ext (Dφ e a (fG Yj k y v)))))
def Bw(f:KK P w κ)(e ty:TE):TE:=λσ H Q=>e σ H λx H1=>ty σ H1 λy a=>Bi f x y a Q
def GX(f:KK P w κ)(ty e:TE):TE:=λσ H Q=>ty σ H λy H1=>e σ H1 λx a=>Nz f x y a λb=>Q (.bl b) a
def o9(f:KK P w κ)(ty e:TE):TE:=λσ H Q=>ty σ H λy H1=>e σ H1 λx a=>Nz f x y a λb=>Q (.bl<|!b) a
def BF(h:KK P w κ)(g ty a:TE):TS:=λD σ H=>a σ H λv H1=>g σ H1 λx f=>ty σ f λy i=>xj h x y v i λe=>D.nx σ e
def DR(e:KK P w κ)(h ty f:TE)(rd:V->V->Hp->VK->Prop):TS:=λD σ H=>h σ H λx H1=>ty σ H1 λy a=>Bi e x y a λv a=>f σ a λj i=>rd v j i λz g=>xj e x y z g λl=>D.nx σ l
def Ba(a:KK P w κ):TE:=λ_ H Q=>∀p,H p=none->(p==sysModules)=false->Q (.ref p) (upd H p<|.ext<|Dφ a p [])
end
section
variable {X:Cx} [DecidableEq κ]{kk:KK X.prog X.w κ}
def DD.ty(I:Inv X Yi σ H s)(D:DD kk H a Yj):s.TypeIs (.ref a) "dict" :=by
 obtain⟨f,p,e⟩:=D.h.ok I.hok;exact e.ty
end
section
variable {X:Cx}{κ:Type} [DecidableEq κ]{kk:KK X.prog X.w κ}{o:Expr}{i:Expr}{e:Expr}{value:Expr}{pos:Pos}{Yy:Pos}{YX:Pos}{td:TE}{ty:TE}{tv:TE}
def GV(w:X.A.units+3<cLine)(v:PE X o td)(F:PE X i ty)(C:LU i):PE X (.Subscript o i pos) (Bw kk td ty):=by
 intro m s σ H Q I h;refine BD W9.lookup C<|c9 (v m s σ H _ I h) λu z ⟨x,H1,p,B,q1⟩=>c9 (F m z σ H1 _ p q1) λO L f=>?_;obtain⟨y,G,l,E,a,M,k,e,n,D,r,g,J⟩:=f;subst n;obtain rfl:u=Value.ref a:=B;exact⟨D.ty l,AM w l D r E g λK N q j=>⟨_,G,q,j,J⟩⟩
def KJ(p:X.A.units+3<cLine)(z:PE X i ty)(n:PE X o td):PC X .In i o (GX kk ty td):=by
 intro f s σ H Q I h;refine c9 (z f s σ H _ I h) λJ q ⟨y,H1,j,w,q1⟩=>c9 (n f q σ H1 _ j q1) λu E e=>?_;obtain⟨x,B,m,v,a,F,k,g,D,r,C⟩:=e;subst g;obtain rfl:u=Value.ref a:=v;exact RX<|DC p m D r w λG l=>RZ ⟨.bl _,B,l,rfl,C⟩
def Cf(p:X.A.units+3<cLine)(z:PE X i ty)(n:PE X o td):PC X .NotIn i o (o9 kk ty td):=by
 intro f s σ H Q I h;refine c9 (z f s σ H _ I h) λJ q ⟨y,H1,j,w,q1⟩=>c9 (n f q σ H1 _ j q1) λu E e=>?_;obtain⟨x,B,m,v,a,F,k,g,D,r,C⟩:=e;subst g;obtain rfl:u=Value.ref a:=v;exact RX<|DC p m D r w λG l=>RZ ⟨.bl _,B,l,rfl,C⟩
def Gn(C:X.A.units+3<cLine)(B:PE X o td)(L:PE X i ty)(O:PE X value tv)(G:swapsWith value (some<|.Subscript o i Yy) pos.line X.env=pure false):PS X (.Assign [.Subscript o i Yy] value pos) (BF kk td ty tv):=by
 intro f s σ H D I h;refine wpAny_Assign_Subscript (c9 (O f s σ H _ I h) λr E ⟨v,H1,m,z,q1⟩=>c9 (B f E σ H1 _ m q1) λu p ⟨x,N,w,F,P⟩=>c9 (L f p σ N _ w P) λU T e=>?_) G;obtain⟨y,R,n,J,a,S,k,g,K,M,j,q⟩:=e;subst g;obtain rfl:u=Value.ref a:=F;exact D0 C n K M j J z λQ l=>⟨σ,_,l,q⟩
def Ie(B:X.A.units+3<cLine)(T:PE X o td)(hi:PE X i ty)(hv:PE X value tv)(p:Ej X op rd)
  (ha:∀l j new,augStore i l j new=(do holding [new,l,j] (setItem l j new);release [new,l,j] [];pure .next)):PS X (.AugAssign (.Subscript o i YX) op value pos) (DR kk td ty tv rd):=by
 intro m s σ H D I h;refine wpAny_AugAssign_SubscriptAny (c9 (T m s σ H _ I h) λu W ⟨x,H1,L,Y,q1⟩=>c9 (hi m W σ H1 _ L q1) λj s2 f=>?_) ha;obtain⟨y,H2,Q,C,a,Yj,k,e,E,Z,r,g,q2⟩:=f;subst E;obtain rfl:u=Value.ref a:=Y;refine AM B Q Z r C g λG s3 N q=>c9 (hv m s3 σ H2 _ N q2) λw2 F ⟨y2,M,J,v,P⟩=>c9 (p m F σ M _ y2 G w2 _ J q v P) λw3 s5 f=>?_;obtain⟨z,H4,O,rz,a',w,k',n,K,hm,S,U⟩:=f;cases n;exact D0 B O K hm S C rz λs6 R=>⟨σ,_,R,U⟩
end
section
variable {X:Cx}{κ:Type} [DecidableEq κ]{kk:KK X.prog X.w κ}{Yi:Yg}{σ:St}{H:Hp}{s:X5}{a:X4}{Yj:Yb (κ×V×V)}{x:κ}{y:V}{v:V}{u:X3}{r:X3}{A:X9}{E:Yd}
def Hi{Q:Yd}(m:A.units+3<cLine)(I:Inv X Yi σ H s)(D:DD kk H a Yj)(j:kk.rel H x y)(n:RelV y u)(o:RelV v r)(h:∀i s',Inv X Yi σ H s'->RelV (((jo Yj x).map (·.2.2)).getD v) i->Q i s'):wpAny (model X.prog X.w) A (call (.builtin "dict.get") [.ref a,u,r]) Q E s:=by
 obtain⟨q,p,L⟩:=mh m I D j n;refine NK.FY L D.ns<|h _ _ (I.tok _) ?_;obtain ⟨g,e⟩|⟨z,f,g,e,l⟩:=n6 (x:=x) p
 ·rw[g,e]
  exact o
 ·rw[g,e]
  exact l.2.2
def Hy(M:A.units+3<cLine)(I:Inv X Yi σ H s)(D:DD kk H a Yj)(hm:H a=some (.ext<|Dφ kk a Yj))(K:kk.rel H x y)(m:RelV y u)(J:RelV v r)(C:∀e,jo Yj x=some e->∀j s',Inv X Yi σ H s'->RelV e.2.2 j->Q j s')(z:jo Yj x=none->∀s',Inv X Yi σ (upd H a<|.ext<|Dφ kk a<|Yj++[(x,y,v)]) s'->Q r s'):wpAny (model X.prog X.w) A (call (.builtin "dict.setdefault") [.ref a,u,r]) Q E s:=by
 obtain⟨O,p,L⟩:=mh M I D K m;have l:=D.l;obtain ⟨i,h⟩|⟨G,f,i,h,F⟩:=n6 p
 ·exact NK.sr L D.ns (by rw[<-Tu p];lia) (λe g=>by rw[h]at g;cases g) λ_ N q B=>z i _ <| kC I (by rw[hm];exact True.intro) B (let ⟨o,_,_,e,_⟩:=q;⟨o,e⟩) (dφ_ok (uI ⟨rfl,m,J⟩ p) q)
 ·refine NK.sr L D.ns (by rw[<-Tu p];lia) (λe g=>?_) λn=>by rw[h]at n;cases n
  rw[h]at g;cases g;exact C G i _ _ (I.tok _) F.2.2
end
section
variable [DecidableEq κ]
inductive Rl(e:KK P w κ)(x:V)(H:Hp)(G:X4->Prop):Prop
 |mk(a:X4)(Yj:Yb (κ×V×V))(f:x=.ref a)(D:DD e H a Yj)(q:G a)
inductive QN(e:KK P w κ)(a:X4)(y z:V)(H:Hp)(Q:VK):Prop
 |mk(Yj:Yb (κ×V×V))(k:κ)(D:DD e H a Yj)(r:e.rel H k y)(q:Q (((jo Yj k).map (·.2.2)).getD z) H)
inductive Pa(f:KK P w κ)(a:X4)(y z:V)(H:Hp)(Q:VK):Prop
 |mk(Yj:Yb (κ×V×V))(k:κ)(D:DD f H a Yj)(hm:H a=some (.ext (Dφ f a Yj)))(r:f.rel H k y)(q1:∀e,jo Yj k=some e->Q e.2.2 H)(g:jo Yj k=none->Q z (upd H a (.ext (Dφ f a (Yj++[(k,y,z)])))))
def yL(e:KK P w κ)(g ty h:TE):TE:=λσ H Q=>g σ H λx H1=>Rl e x H1 λa=>ty σ H1 λy f=>h σ f λz i=>QN e a y z i Q
def yW(e:KK P w κ)(g ty h:TE):TE:=λσ H Q=>g σ H λx H1=>Rl e x H1 λa=>ty σ H1 λy f=>h σ f λz i=>Pa e a y z i Q
end
section
variable {X:Cx}{κ:Type} [DecidableEq κ]{kk:KK X.prog X.w κ}{o:Expr}{e:Expr}{f:Expr}{pos:Pos}{Yo:Pos}{Yn:Pos}{td:TE}{tk:TE}{tx:TE}
def HR:PE X (.Dict [] [] pos) (Ba kk):=λa s σ H Q I h=>
 Xf ⟨.ref s.heap.objs.size,_,I.laid (t':=s.toks) (λ_ _ q=>R6 _ q) (R9 _)<|dφ_ok .nil ⟨_,#[],0,Sl _ rfl,⟨rfl,rfl,rfl⟩,rfl,rfl⟩,rfl,h _ (I.hok.fresh<|R9 _)<|TZ.mpr<|Ui<|Ss I.big⟩
def DD.no{i:Yg}{σ:St}{H:Hp}{s:X5}{a:X4}{Yj:Yb (κ×V×V)}(I:Inv X i σ H s)(D:DD kk H a Yj):∀b,Value.ref a=.ref b->∃e,s.heap.get? b=some e/\e.dict=none:=λb q=>by
 cases q;obtain⟨j,p,e,_,_,g,f,_⟩:=D.h.ok I.hok;exact⟨e,g,f.2.1⟩
def Er (G:X.A.units+3<cLine) (F:PE X o td) (he:PE X e tk) (hf:PE X f tx) (m:M2 X o "get" Yo e f Yn):PE X (.Call (.Attribute o "get" Yo) [e,f] [] Yn) (yL kk td tk tx):=by
 intro l s σ H Q I h;refine W4 m.base m.MS m.line WC Wa XH<|c9 (F l s σ H _ I h) λu J g=>?_;obtain⟨x,H1,i,K,a,T,p,D,q1⟩:=g;subst p;obtain rfl:u=Value.ref a:=K;refine⟨D.ty i,D.no i,?_⟩;rw[m.trees];refine Uk rfl<|UT<|T5<|c9 (he l J σ H1 _ i q1) λW B ⟨y,O,E,M,P⟩=>T5<|c9 (hf l B σ O _ E P) λY U g=>Vv ?_;obtain⟨z,v,w,N,n,k,L,r,C⟩:=g;exact Hi G w L r M N λS R q j=>⟨_,v,q,j,C⟩
def FO (N:X.A.units+3<cLine) (L:PE X o td) (p:PE X e tk) (hf:PE X f tx) (m:M2 X o "setdefault" Yo e f Yn):PE X (.Call (.Attribute o "setdefault" Yo) [e,f] [] Yn) (yW kk td tk tx):=by
 intro n s σ H Q I h;refine W4 m.base m.MS m.line WC XB PySem.F.type_dict_setdefault<|c9 (L n s σ H _ I h) λu O g=>?_;obtain⟨x,H1,j,P,a,Yj,w,D,q1⟩:=g;subst w;obtain rfl:u=Value.ref a:=P;refine⟨D.ty j,D.no j,?_⟩;rw[m.trees];refine Uk rfl<|UT<|T5<|c9 (p n O σ H1 _ j q1) λiv J ⟨y,W,K,S,Y⟩=>T5<|c9 (hf n J σ W _ K Y) λfv s3 g=>Vv ?_;obtain⟨z,C,E,v,q,k,R,U,r,M,G⟩:=g;exact Hy N E R U r S v (λe p Z B i l=>⟨_,C,i,l,M e p⟩) λT B i=>⟨z,_,i,v,G T⟩
end
def J8(e:h.get? a=some o)(x:cV P w H h a (.ext φ)):cV P w H' h a (.ext<|Fz a o φ):=⟨⟨e,x.1⟩,x.2.1,λ_ _ q k=>⟨k _ q.1,x.2.2 _ _ q.2 k⟩⟩
section
variable [DecidableEq κ]
def Rp(a:KK P w κ)(d:X4)(o:Obj)(Yj:Yb (κ×V×V)):It:=⟨λi H=>H d=some (.ext<|Fz d o<|Dφ a d Yj)/\i<Yj.length,λi H x f=>f=H/\∃e,Yj[i]? =some e/\x=e.2.1,λi H=>H d=some (.ext<|Fz d o<|Dφ a d Yj)/\Yj.length<=i⟩
theorem vI:∀{Yj:Yb (κ×V×V)}{xs:Yb (κ×X3×X3)},Paired gP Yj xs->∀{i:Nat}{e:κ×V×V},Yj[i]? =some e->∃f,xs[i]? =some f/\gP e f
 |_,_,.nil,_,_,h=>by cases h
 |_,_,.cons r t,0,_,h=>by
  cases h;exact⟨_,rfl,r⟩
 |_,_,.cons r t,i+1,_,h=>vI t (i:=i) h
def LD{K:Frag}{tg:Expr}(q:KK P w κ)(d it:X4)(o:Obj)(es:Array DictEntry)(T:Nat)(Yj:Yb (κ×V×V))(hd:o.data=.dict es T):Turn P w K tg (Rp q d o Yj) [it] it (λi h=>h.IsKeyIter it d i Yj.length T) where
 mem:=by simp
 obj:=λi h a b g=>by
  have e:b=it:=by simpa using g
  subst e;obtain⟨o,e,c,d⟩:=a;grind
 keep:=λi h z a k=>a.at λo e=>k it (by simp) o e
 item:=by
  intro X O L C W i R s σ H E I v a x;subst O L C;obtain⟨A,S⟩:=x;obtain⟨⟨m,xs,p,o',J,F,l,Z,n,r⟩,_,_⟩:=(show cV X.prog X.w H s.heap d (.ext<|Fz d o<|Dφ q d Yj) from I.hok d _ A);rw[m]at l;cases l;rw[hd]at n;cases n;have sz:es.size=Yj.length:=by rw[<-Sm,r,R5,<-Tu p]
  have j:i<es.size:=by lia
  obtain⟨e,U⟩:∃e,Yj[i]? =some e:=⟨_,RY S⟩;obtain⟨f,G,rf⟩:=vI p U;have ek:es[i].key=f.2.1:=by
   have:es[i]? =some (NK.ent q.k f):=by rw[<-Sx,r,Sk,G];rfl
   rw[Uo j]at this;rw[Sy this];rfl
  obtain⟨y,B,f2,Q,N,M⟩:=v it (by simp);refine NK.yd (by rw[sz];exact a) m hd j λz D sb=>?_;rw[sz]at D;have I1:Inv X R σ H { s with heap:=z }:=I.turned (t':=s.toks) (λb o g e=>(sb.2 b g).trans e) y B Q N M;obtain⟨o2,e2,c2,Y⟩:=id D;exact⟨_,rfl,sO e2 c2 Y (by decide) ⟨e.2.1,H,I1,by rw[ek];exact rf.2.1,⟨rfl,e,U,rfl⟩,D,λb g=>(v b g).1⟩⟩
 done:=by
  intro X O L C W i R s σ H E I v a x;subst O L C;obtain⟨A,S⟩:=x;obtain⟨⟨m,xs,p,o',J,F,l,Z,n,r⟩,_,_⟩:=(show cV X.prog X.w H s.heap d (.ext<|Fz d o<|Dφ q d Yj) from I.hok d _ A);rw[m]at l;cases l;rw[hd]at n;cases n;have sz:es.size=Yj.length:=by rw[<-Sm,r,R5,<-Tu p]
  obtain⟨y,B,f2,Q,N,M⟩:=v it (by simp);exact NK.wQ (I.ok.hd W) (by rw[sz];exact a) m hd (by lia) λz eb=>⟨rfl,I.turned (t':=s.toks) (λb o g e=>eb b o g e) y B Q N M⟩
 self:=λ_ _ _ _ _ a h=>wpAny_pyIter_keyiter a h
inductive RG(a:KK P w κ)(x:V)(H:Hp)(R:It->Hp->Prop):Prop
 |mk(d:X4)(Yj:Yb (κ×V×V))(e:x=.ref d)(D:DD a H d Yj)(q:∀(o:Obj)(H':Hp),(∀b,b≠d->H' b=H b)->H' d=some (.ext (Fz d o (Dφ a d Yj)))->R (Rp a d o Yj) H')
def iQ(e:KK P w κ)(a:TE):TI:=λσ H R=>a σ H λx H1=>RG e x H1 R
end
section
variable {X:Cx} [DecidableEq κ]{kk:KK X.prog X.w κ}{tg:Expr}
def Hk{l:Expr}(N:PE X l tl):PI X tg l (iQ kk tl):=by
 intro E s σ H R I h;refine c9 (N E s σ H _ I h) λv a i=>?_;obtain⟨x,H1,z,K,d,g,e,D,q⟩:=i;subst e;cases K;obtain⟨Q,p,o,C,F,j,J,m,G⟩:=id<|D.h.ok z.hok;have sz:C.size=g.length:=by rw[<-Sm,G,R5,<-Tu p]
 have n:∀f:Hp,Inv X E σ f a->(∀b,b≠d->f b=H1 b)->f d=some (.ext<|Fz d o<|Dφ kk d g)->wpAny (model X.prog X.w) X.A (pyIter<|.ref d) (Nu X E σ tg R) X.xe a:=λf B O M=>by
  refine NK.xM D.ns j J m ⟨a.heap.objs.size,[a.heap.objs.size],_,_,f,rfl,B.kept (t':=a.toks) λb o e=>R6 _ e,LD kk d _ o C F g m,⟨_,Sl _ rfl,rfl,by rw[sz];rfl⟩,λb y=>?_,q o f O M⟩;have e:b=a.heap.objs.size:=by simpa using y
  subst e;exact B.u5 (R9 _)<|B.hok.fresh<|R9 _
 obtain r|⟨L,r⟩:=D.h
 ·exact n (upd H1 d<|.ext<|Fz d o<|Dφ kk d g) (z.write (t':=a.toks) (by rw[r];trivial) (.inl rfl) (λ_ _ _ e=>e) ⟨o,j⟩<|J8 j<|dφ_ok (H':=H1) p ⟨o,C,F,j,J,m,G⟩) (λb y=>cI y) cG
 ·obtain⟨⟨P,_⟩,_⟩:=(show cV X.prog X.w H1 a.heap d (.ext<|Fz d L<|Dφ kk d g) from z.hok d _ r)
  grind
end
section
variable [DecidableEq κ]
def Dx(a:KK P w κ)(d:X4)(o:Obj)(Yj:Yb (κ×V×V)):It:=⟨λi H=>H d=some (.ext<|Fz d o<|Dφ a d Yj)/\i<Yj.length,λi H v f=>∃p e,H p=none/\v=.ref p/\f=upd H p (.tup [e.2.1,e.2.2])/\Yj[i]? =some e,λi H=>H d=some (.ext<|Fz d o<|Dφ a d Yj)/\Yj.length<=i⟩
def Hh{K:Frag}{ts:Yb Expr}{tk:Nat}{tp:Pos}(m:KK P w κ)(d it:X4)(o:Obj)(es:Array DictEntry)(ep:Nat)(Yj:Yb (κ×V×V))(hd:o.data=.dict es ep):Turn P w K (.Tuple ts tk tp) (Dx m d o Yj) [it] it (λi h=>∃ok l,IsItemIter h it d i Yj.length ep ok l) where
 mem:=by simp
 obj:=λi h a b j=>by
  have e:b=it:=by simpa using j
  subst e;obtain⟨ok,l,e⟩:=a;exact⟨_,e,λv z=>by cases z⟩
 keep:=λi h h' a k=>by
  obtain⟨ok,l,e⟩:=a;exact⟨ok,l,k it (by simp) _ e⟩
 item:=by
  intro X U S L hc i Yi s σ H E I C a D;subst U S L;obtain⟨J,hi⟩:=D;obtain⟨ok,l,a⟩:=a;obtain⟨⟨x,xs,p,o',R,N,r,h2,y,B⟩,_,_⟩:=(show cV X.prog X.w H s.heap d (.ext<|Fz d o<|Dφ m d Yj) from I.hok d _ J);rw[x]at r;cases r;rw[hd]at y;cases y;have sz:es.size=Yj.length:=by rw[<-Sm,B,R5,<-Tu p]
  have n:i<es.size:=by lia
  obtain⟨e,he⟩:∃e,Yj[i]? =some e:=⟨_,RY hi⟩;obtain⟨f,M,Z⟩:=vI p he;have ek:es[i]=NK.ent m.k f:=by
   have:es[i]? =some (NK.ent m.k f):=by rw[<-Sx,B,Sk,M];rfl
   rw[Uo n]at this;exact Sy this
  have W:it<s.heap.objs.size:=Sv a;refine NK.Cq (es:=es) (by rw[sz];exact a) x hd n λg G tup gz kp=>⟨_,rfl,wpAny_letOwnedTupleGo_items G λg2 T sb=>?_⟩;have hn:H s.heap.objs.size=none:=I.hok.fresh<|R9 _;have I2:Inv X Yi σ (upd H s.heap.objs.size<|.tup [e.2.1,e.2.2]) { s with heap:=g2,toks:=s.toks }:=by
   refine I.tI (fp:=[it]) C (λb u j q=>?_) (R9 _) (λb j=>?_) ⟨by show 2<=sizeLine;decide,[f.2.1,f.2.2],.cons Z.2.1<|.cons Z.2.2 .nil,?_⟩
   ·have Y:b≠it:=λz=>j (by rw[z];simp)
    exact sb.extBut b u Y<|kp b u Y q
   ·have z:b=it:=by simpa using j
    subst z;exact⟨_,a⟩
   ·rw[ek]at tup
    exact⟨_,sb.extBut _ _ (VH W) tup,rfl,_,rfl⟩
  refine⟨.ref s.heap.objs.size,_,I2,rfl,⟨_,e,hn,rfl,rfl,he⟩,⟨_,_,by rw[<-sz];exact T⟩,λb j=>?_⟩;have z:b=it:=by simpa using j
  subst z;rw[cI<|Ss W];exact(C b j).1
 done:=by
  intro X U S L hc i Yi s σ H E I C a D;subst U S L;obtain⟨J,hi⟩:=D;obtain⟨ok,l,a⟩:=a;obtain⟨⟨x,xs,p,o',R,N,r,h2,y,B⟩,_,_⟩:=(show cV X.prog X.w H s.heap d (.ext<|Fz d o<|Dφ m d Yj) from I.hok d _ J);rw[x]at r;cases r;rw[hd]at y;cases y;have sz:es.size=Yj.length:=by rw[<-Sm,B,R5,<-Tu p]
  obtain⟨f0,f1,f2,f3,f4,f5⟩:=C it (by simp);exact NK.Cg (es:=es) (I.ok.hd hc) (by rw[sz];exact a) x hd (by lia) λh' eb=>⟨rfl,I.turned (t':=s.toks) (λb o j e=>eb b o j e) f0 f1 f3 f4 f5⟩
 self:=λA i s Q E a h=>by
  obtain⟨ok,l,a⟩:=a;have O:s.TypeIs (.ref it) "dict_itemiterator" :=⟨_,a,rfl⟩;refine W7 O Ws<|Tb Ws O NK.EC ?_ (PySem.F.args_dict_itemiterator_iter_1 _);show wpAny _ _ (ret<|.ref it) _ _ s;exact RZ ⟨_,rfl,"dict_itemiterator",_,O,TH.lookup,h⟩
inductive QS(a:KK P w κ)(x:V)(H:Hp)(R:It->Hp->Prop):Prop
 |mk(d:X4)(Yj:Yb (κ×V×V))(e:x=.ref d)(D:DD a H d Yj)(q:∀(o:Obj)(H':Hp),(∀b,b≠d->H' b=H b)->H' d=some (.ext (Fz d o (Dφ a d Yj)))->R (Dx a d o Yj) H')
def QH(e:KK P w κ)(a:TE):TI:=λσ H R=>a σ H λx H1=>QS e x H1 R
end
section
variable {X:Cx}{κ:Type} [DecidableEq κ]{kk:KK X.prog X.w κ}{ts:Yb Expr}{tn:Nat}{tp:Pos}{Yo:Pos}{Yn:Pos}
def EJ {l:Expr}{J:TE}(T:PE X l J) (P:attributeBase l "items" X.env (eval l X.env)=eval l X.env) (O:(Yo.endLine==Yn.line)=true):PI X (.Tuple ts tn tp) (.Call (.Attribute l "items" Yo) [] [] Yn) (QH kk J):=by
 intro C s σ H R I h;refine wpAny_Call_method0_late P O<|c9 (T C s σ H _ I h) λv a m=>?_;obtain⟨x,H1,i,M,d,f,e,D,q⟩:=m;subst e;cases M;refine⟨"dict","dict.items",WC,PySem.F.slot_dict_items,PySem.F.type_dict_items,D.ty i,D.no i,Uk rfl<|XY ?_⟩;obtain⟨W,p,o,B,E,j,L,n,K⟩:=id<|D.h.ok i.hok;have sz:B.size=f.length:=by rw[<-Sm,K,R5,<-Tu p]
 refine NK.Ew D.ns j L ?_;have G:(a.heap.push { cls:=.type "dict_items",data:=.fields #[.ref d] }).get? d=some o:=R6 _ j;refine NK.BW ⟨_,Sl _ rfl,rfl,rfl⟩ G n ?_;rw[sz];have le:a.heap.objs.size<=(a.heap.push { cls:=.type "dict_items",data:=.fields #[.ref d] }).objs.size:=by simp_all
 have y:∀g:Hp,Inv X C σ g a->(∀b,b≠d->g b=H1 b)->g d=some (.ext<|Fz d o<|Dφ kk d f)->Nu X C σ (.Tuple ts tn tp) R (.ref (a.heap.push { cls:=.type "dict_items",data:=.fields #[.ref d] }).objs.size) { a with heap:=(a.heap.push { cls:=.type "dict_items",data:=.fields #[.ref d] }).push { cls:=.type "dict_itemiterator",data:=.fields #[.none,.bool false,.ref d,.int 0 0,.int f.length 0,.int E 0,.none,.none] } }:=λg A U S=>by
  refine⟨_,[_],_,_,g,rfl,A.kept (t':=a.toks) λb u e=>R6 _<|R6 _ e,Hh kk d _ o B E f n,⟨_,_,Sl _ rfl⟩,λb z=>?_,q o g U S⟩;have e:b=(a.heap.push { cls:=.type "dict_items",data:=.fields #[.ref d] }).objs.size:=by simpa using z
  subst e;exact A.u5 le<|A.hok.fresh le
 obtain r|⟨Q,r⟩:=D.h
 ·exact y (upd H1 d<|.ext<|Fz d o<|Dφ kk d f) (i.write (t':=a.toks) (by rw[r];trivial) (.inl rfl) (λ_ _ _ e=>e) ⟨o,j⟩<|J8 j<|dφ_ok (H':=H1) p ⟨o,B,E,j,L,n,K⟩) (λb z=>cI z) cG
 ·obtain⟨⟨N,_⟩,_⟩:=(show cV X.prog X.w H1 a.heap d (.ext<|Fz d Q<|Dφ kk d f) from i.hok d _ r)
  grind
end
section
variable {X:Cx}
def Ms(d:h.DictOf (cO P w) a [(.inr z,u)])(C:RelV v u):Dφ (eV P w) a [(.inl<|.inr z,.str z,v)] h:=by
 obtain⟨o,m,F,D,G,n,y,g,J⟩:=d;cases f:m.toList with
 |nil=>
  rw[f]at g;cases g
 |cons e r=>
  rw[f]at g;cases g with
  |cons l p t=>
   cases t;obtain⟨I,s,E⟩:=y e (Wf.mp<|by grind);cases (cO P w).inj _ _ _ l s;obtain ⟨i,t,q,_⟩|⟨H,t,q,A⟩:=NK.lE l
   ·cases q
   ·cases q
    refine⟨[(.inl<|.inr z,.str z t,u)],.cons ⟨rfl,⟨t,rfl⟩,C⟩ .nil,o,m,F,D,G,n,?_⟩;rw[f];obtain⟨B,j,x⟩:=e;cases (show j=Value.str z t from A);cases (show x=u from p);cases (show B=(cO P w).hash (.inr z) from E);rfl
inductive RW(X:Cx)(p:X4)(x y:V)(H:Hp)(Q:VK):Prop
 |mk(z:Yc)(e:x=.str z)(h:H p=some (.dK []))(q:Q (.ref p) (upd H p (.ext (Dφ (eV X.prog X.w) p [(.inl (.inr z),.str z,y)]))))
def Rw(X:Cx)(g a:TE):TE:=λσ H Q=>∀p,H p=none->(p==sysModules)=false->vd [(g,a)] σ (upd H p<|.dK []) λf e=>∃x y,f=[(x,y)]/\RW X p x y e Q
def Ou(n:PE X ke tk)(D:PE X ve tv):PE X (.Dict [some ke] [ve] pos) (Rw X tk tv):=by
 intro A s σ H Q I q;have m:=I.laid (h':=s.heap.push { cls:=.type "dict",data:=.dict #[] }) (t':=s.toks) (λ_ _ q=>R6 _ q) (R9 _)<|wZ s.heap I.big;refine wpAny_Dict_walk (knd:=cO X.prog X.w) rfl rfl (by simp) (by grind)<|c9 (jZ n D BB A _ σ _ _ m<|q s.heap.objs.size (I.hok.fresh<|R9 s.heap.objs.size)<|TZ.mpr<|Ui<|Ss I.big) λM L g=>?_;obtain⟨K,P,j,i,x,y,rfl,z,rfl,e,E⟩:=g;cases i with
 | @cons a b as bs h t=>
  cases t;obtain⟨J,l⟩:=b;obtain⟨O,G,C,r,B⟩:=Fn j.hok e;cases r;refine⟨[(.inr z,l)],⟨oU h.1,rfl,True.intro⟩,B,λh' F v=>⟨.ref s.heap.objs.size,_,?_,rfl,E⟩⟩;obtain⟨N,p,f⟩:=Ms (show h'.DictOf (cO X.prog X.w) s.heap.objs.size [(.inr z,l)] from F) h.2;exact kC j (by rw[e];exact True.intro) v (let ⟨q,_,_,o,_⟩:=f;⟨q,o⟩)<|dφ_ok p f
end
section
variable [DecidableEq κ]{g:TG}{tb:TS}{D:Ends}{σ:St}{H:Hp}
def KR(Pv:Nat->St->Hp->Prop)(h0:Pv 0 σ H)(n:∀i σ H,i<=Yj.length->Pv i σ H->H d=some (.ext<|Fz d o<|Dφ kk d Yj))
  (r:∀(i:Nat)(e:κ×V×V) p σ H,Yj[i]? =some e->H p=none->Pv i σ H->g (.ref p) σ (upd H p<|.tup [e.2.1,e.2.2]) λf j=>tb { D with nx:=Pv<|i+1,ct:=Pv<|i+1,bk:=D.nx } f j)(hd:∀σ H,Pv Yj.length σ H->D.nx σ H):
  ∃W:Nat->Nat->St->Hp->Prop,(∃m,W 0 m σ H)/\∀i m σ H,W i m σ H->
   ((Dx kk d o Yj).stop i H/\D.nx σ H)\/((Dx kk d o Yj).go i H/\∃N:St->Hp->Prop,(∀a H',N a H'->∃l,l<m/\W (i+1) l a H')/\∀x H',(Dx kk d o Yj).yld i H x H'->g x σ H' λf j=>tb { D with nx:=N,ct:=N,bk:=D.nx } f j):=by
 refine⟨λi m σ H=>m=Yj.length-i/\i<=Yj.length/\Pv i σ H,⟨Yj.length,by simp,Tq _,h0⟩,?_⟩;rintro i m σ H ⟨rfl,s,p⟩;have q:=n i σ H s p;by_cases h:i<Yj.length
 ·refine .inr ⟨⟨q,h⟩,Pv<|i+1,λa H' A=>⟨Yj.length-(i+1),by lia,rfl,h,A⟩,λx H' y=>?_⟩
  obtain⟨B,w,v,rfl,rfl,z⟩:=y;exact r i w B σ _ z v p
 ·have e:i=Yj.length:=by lia
  subst e;exact .inl ⟨⟨q,R9 _⟩,hd σ H p⟩
end
section
variable [DecidableEq κ]
def iq(xs ps:Yb (κ×X3×X3)):Yb (κ×X3×X3):=ps.foldl (λa q=>NK.je a q.1 q.2.1 q.2.2) xs
def xC(xs ps:Yb (κ×X3×X3))(i:Nat)(q:κ×X3×X3)(h:ps[i]? =some q):iq xs (ps.take<|i+1)=NK.je (iq xs<|ps.take i) q.1 q.2.1 q.2.2:=by
 unfold iq;rw[SU,h,WJ];rfl
def Gq(xs:Yb (κ×X3×X3))(x:κ)(u v:X3):(NK.je xs x u v).length<=xs.length+1:=by
 unfold NK.je;split
 ·rw[R5]
  exact VP _
 ·rw[R3]
  exact R9 _
theorem tq:∀(ps xs:Yb (κ×X3×X3)),(iq xs ps).length<=xs.length+ps.length
 |[],xs=>R9 _
 |p::r,xs=>by
  have a:=tq r<|NK.je xs p.1 p.2.1 p.2.2;have e:=Gq xs p.1 p.2.1 p.2.2;show(iq (NK.je xs p.1 p.2.1 p.2.2) r).length<=_;grind
def Cm{xs:Yb (κ×X3×X3)}{x:κ}{u v:X3}(h:(xs.map (·.1)).Nodup):((NK.je xs x u v).map (·.1)).Nodup:=by
 cases g:NK.vH xs x with
 |some e=>
  rw[NK.xm g,Ut];have:((λe:κ×X3×X3=>e.1) ∘ λe=>if e.1=x then(e.1,e.2.1,v) else e)=λe=>e.1:=funext λe=>by
   show(if e.1=x then(e.1,e.2.1,v) else e).1=e.1;split<;>rfl
  rw[this];exact h
 |none=>
  rw[NK.w4 g,TQ];refine WM.mpr ⟨h,UB _ _,λa j b l e=>?_⟩;rw[Sd.mp l]at e;obtain⟨f,i,rfl⟩:=SQ.mp j;have:=Wy.mp g f i;exact this<|dT0 e
theorem oM:∀(ps:Yb (κ×X3×X3)){xs:Yb (κ×X3×X3)},(xs.map (·.1)).Nodup->((iq xs ps).map (·.1)).Nodup
 |[],_,h=>h
 |p::r,_,h=>oM r<|Cm h
def D3{e:κ×X3×X3}(h:e∈NK.je xs x u v):(∃f∈xs,e.1=f.1/\e.2.1=f.2.1)\/(e.1=x/\e.2.1=u):=by
 unfold NK.je at h;split at h
 ·grind
 ·grind
theorem rg:∀(ps xs:Yb (κ×X3×X3)) (e:κ×X3×X3),e∈iq xs ps->(∃f∈xs,e.1=f.1/\e.2.1=f.2.1)\/∃f∈ps,e.1=f.1/\e.2.1=f.2.1
 |[],xs,e,h=>.inl ⟨e,h,rfl,rfl⟩
 |p::r,xs,e,h=>by
  obtain ⟨f,i,l,m⟩|⟨f,i,q⟩:=rg r (NK.je xs p.1 p.2.1 p.2.2) e h
  ·obtain ⟨g,n,j,a⟩|⟨j,a⟩:=D3 i
   ·exact .inl ⟨g,n,l.trans j,m.trans a⟩
   ·exact .inr ⟨p,.head _,l.trans j,m.trans a⟩
  ·exact .inr ⟨f,.tail _ i,q⟩
end
section
variable {w:X7}{κ:Type} [DecidableEq κ]{k:NK.gO prog w κ}{A:X9}{E:Yd}{s:X5}
def zT (ps:Yb (κ×X3×X3)) (T:Nat->X4) (P:k.qd<=8) (I:k.room A.in1.in1) (G:A.handled=none) (K:s.heap.get? l=some o) (U:o.cls=.type "list") (z:o.data=.seq items c) (hd:o.dict=none) (R:ps.length=items.size) (X:ps.length<=sizeLine)
  (J:∀(i:Nat)(v:X3),items[i]? =some v->v=.ref (T i))(a:∀(i:Nat) q,ps[i]? =some q->IsTup s.heap (T i) #[q.2.1,q.2.2]/\k.is s.heap q.1 q.2.1/\NK.Sh q.2.1)
  (h:∀h' m,NK.AA k h' s.heap.objs.size (iq [] ps)->(∀b o,s.heap.get? b=some o->h'.get? b=some o)->Q (.ref s.heap.objs.size) { s with heap:=h',toks:=m }):
  wpAny (model prog w) A (call (.type "dict") [.ref l]) Q E s:=by
 refine qX ps (·.2.1) (·.2.2) T G K U z hd R J (λi q e=>(a i q e).1) (λi h=>NK.AA k h s.heap.objs.size<|iq []<|ps.take i) (λh e=>⟨_,#[],0,e,⟨rfl,rfl,rfl⟩,rfl,rfl⟩) (by
  rintro i g Y _ C ⟨o,H,L,F,y⟩;exact⟨o,H,L,C _ F,y⟩) ?_ λh' m d=>h h' m (by rwa [Tj]at d)
 intro i q W E Q n x B S;refine NK.Bg P (a i q n).2.2 I (k.keep x (a i q n).2.1) B (λe N=>?_) (oM _ VD) ?_ λh' r=>S h' _ (by rw[xC [] ps i q n];exact r)
 ·obtain ⟨f,p,_⟩|⟨f,p,M,D⟩:=rg _ _ _ N
  ·cases p
  ·obtain⟨j,O⟩:=So (Ub p)
   rw[M,D];exact k.keep x (a j f O).2.1
 ·have:=tq (ps.take i) []
  grind
end
section
variable [DecidableEq κ]
def eJ(Yj ps:Yb (κ×V×V)):Yb (κ×V×V):=ps.foldl (λa q=>fG a q.1 q.2.1 q.2.2) Yj
def CI{a:Yb (κ×V×V)}{rs:Yb (κ×X3×X3)}(r:Paired gP a rs):∀{Yj:Yb (κ×V×V)}{xs:Yb (κ×X3×X3)},Paired gP Yj xs->Paired gP (eJ Yj a) (iq xs rs):=by
 induction r with
 |nil=>exact λq=>q
 | @cons p q ps qs h t ih=>
  intro Yj xs f;have e:Paired gP (fG Yj p.1 p.2.1 p.2.2) (NK.je xs q.1 q.2.1 q.2.2):=by
   have:=Ag (x:=p.1) h.2.1 h.2.2 f;rw[<-h.1];exact this
  exact ih e
end
section
variable {X:Cx} [DecidableEq κ]{kk:KK X.prog X.w κ}
inductive D1(K:Frag){P:X6}{w:X7}(f:KK P w κ)(vs:Yb V)(H:Hp)(Q:VK):Prop
 |mk(p:X4)(xs:Yb V)(Yj:Yb (κ×V×V))(e:vs=[.ref p])(s:cP K H p xs)(l:xs.length=Yj.length)(t:∀(i:Nat) x kv,xs[i]? =some x->Yj[i]? =some kv->∃a,x=.ref a/\H a=some (.tup [kv.2.1,kv.2.2])/\f.rel H kv.1 kv.2.1)(q:∀d,H d=none->(d==sysModules)=false->Q (.ref d) (upd H d (.ext (Dφ f d (eJ [] Yj)))))
def kq(Zd:kk.k.room X.A.in1.in1)(hc:X.calm=true):eW X (.type "dict") (λvs H Q=>D1 X.K kk vs H Q):=by
 intro Yi s σ H vs us Q I r h;obtain⟨p,xs,j,rfl,Y,ll,S,q⟩:=h;obtain⟨u,rfl,rx⟩:=vals1 r;cases rx;obtain⟨y,J,⟨o,c,ho,F,N,P⟩,hz⟩:=I.list Y;have hl:=J.length;have E:∀i:Nat,∃t:X4×X3×X3,i<y.length->y[i]? =some (.ref t.1)/\∀g,j[i]? =some g->IsTup s.heap t.1 #[t.2.1,t.2.2]/\kk.rel H g.1 g.2.1/\RelV g.2.1 t.2.1/\RelV g.2.2 t.2.2:=λi=>by
  by_cases hi:i<y.length
  ·obtain⟨g,w⟩:∃g,j[i]? =some g:=⟨_,RY<|by lia⟩
   obtain⟨x,L⟩:∃x,xs[i]? =some x:=⟨_,RY<|by lia⟩;obtain⟨a,rfl,ha,T⟩:=S i x g L w;obtain⟨u,eu,ru⟩:=J.get L;cases ru;obtain⟨ab,rj,tp,_⟩:=I.tuple<|fc.of (K:=X.K) ha;cases rj with
   |cons R rest=>
    cases rest with
    |cons r2 n=>
     cases n;exact⟨(a,_,_),λ_=>⟨eu,λac e=>by rw[w]at e;cases e;exact⟨tp,T,R,r2⟩⟩⟩
  ·exact⟨(0,.none,.none),λh=>absurd h hi⟩
 obtain⟨f,B⟩:=V1 E;have z:∀(i:Nat) q,(j.mapIdx λi g=>(g.1,(f i).2.1,(f i).2.2))[i]? =some q->∃g,j[i]? =some g/\q=(g.1,(f i).2.1,(f i).2.2):=λi q e=>by
  rw[XT]at e;obtain⟨g,l,rfl⟩:=Th.mp e;exact⟨g,l,rfl⟩
 have m:∀{i:Nat}{g:κ×V×V},j[i]? =some g->i<y.length:=λe=>by
  have:=(gI0.mp e).1;lia
 have C:(j.mapIdx λi g=>(g.1,(f i).2.1,(f i).2.2)).length=j.length:=List.length_mapIdx;refine zT (k:=kk.k) (j.mapIdx λi g=>(g.1,(f i).2.1,(f i).2.2)) (λi=>(f i).1) kk.q8 Zd (I.ok.hd hc) ho F P N (by rw[C,SI];lia) (by rw[C];lia) (λi v e=>?_) (λi q e=>?_) λh' W U O=>?_
 ·have G:y[i]? =some v:=by simpa using e
  have:=(B i (gI0.mp G).1).1;rw[G]at this;exact Sy this
 ·obtain⟨g,l,rfl⟩:=z i q e
  have:=(B i<|m l).2 g l;exact⟨this.1,kk.is I.hok this.2.1 this.2.2.1,kk.sh this.2.1 this.2.2.1⟩
 ·have D:Paired gP j (j.mapIdx λi g=>(g.1,(f i).2.1,(f i).2.2)):=jr C.symm λi p q l Z=>by
   obtain⟨g,M,rfl⟩:=z i q Z;rw[l]at M;cases M;exact⟨rfl,((B i<|m l).2 _ l).2.2.1,((B i<|m l).2 _ l).2.2.2⟩
  have hn:=I.hok.fresh<|R9 s.heap.objs.size;exact⟨.ref _,_,I.laid (a:=s.heap.objs.size) (o:=.ext<|Dφ kk s.heap.objs.size<|eJ [] j) (t':=W) O (R9 _)<|dφ_ok (CI D .nil) U,rfl,q _ hn<|TZ.mpr<|Ui<|Ss I.big⟩
end
inductive Bp(x y:V)(H:Hp)(Q:Bool->Prop):Prop
 |txt (a b:Yc)(ex:x=.str a)(e:y=.str b)(q:Q (decide (a=b)))
 |tup (p:X4)(xs:Yb V)(b:Yc)(ex:x=.ref p)(h:H p=some (.tup xs))(e:y=.str b)(q:Q false)
def wF:decide (V.str a=V.str b)=decide (a=b):=WR.mpr ⟨λe=>by injection e,λe=>by rw[e]⟩
def vT(m:X.A.units<cLine):iU X (compareOp .Eq) (λx y H Q=>Bp x y H λb=>Q (.bl b) H):=by
 intro r s σ H x y v u Q I g i h;cases h with
 |txt a b e f q=>
  subst e f;exact J0 r s σ H _ _ v u Q I g i ⟨rfl,by rw[wF];exact q⟩
 |tup p C b e h f q=>
  subst e f;cases (show v=Value.ref p from g);obtain⟨t,rfl⟩:=(show ∃t,u=Value.str b t from i);obtain⟨_,D,B,o,l,z,n,j⟩:=I.hok p _ h;exact SeqAt.RcAt.tuple_str b t ⟨o,l,z,n,j⟩ m X.prog X.w X.xe _ ⟨.bl false,H,I,rfl,q⟩
def vP(m:X.A.units<cLine):iU X (compareOp .NotEq) (λx y H Q=>Bp x y H λb=>Q (.bl<|!b) H):=by
 intro r s σ H x y v u Q I g i h;cases h with
 |txt a b e f q=>
  subst e f;exact Kv r s σ H _ _ v u Q I g i ⟨rfl,by rw[wF];exact q⟩
 |tup p C b e h f q=>
  subst e f;cases (show v=Value.ref p from g);obtain⟨t,rfl⟩:=(show ∃t,u=Value.str b t from i);obtain⟨_,D,B,o,l,z,n,j⟩:=I.hok p _ h;exact SeqAt.RcNeAt.tuple_str b t ⟨o,l,z,n,j⟩ m X.prog X.w X.xe _ ⟨.bl true,H,I,rfl,q⟩
end L2
namespace J
section
variable {X:Cx}{κ:Type} [DecidableEq κ]{kk:KK X.prog X.w κ}{o:Expr}{i:Expr}{e:Expr}{f:Expr}{value:Expr}{tg:Expr}{pos:Pos}{Yy:Pos}{Yo:Pos}{Yn:Pos}{YX:Pos}{td:TE}{ty:TE}{tv:TE}{tx:TE}
def QK(f:X.A.units+3<cLine)(a:JE X o td)(j:JE X i ty)(h:dR i):JE X (.Subscript o i pos) (Bw kk td ty):=⟨GV f a.out j.out λg e=>h.out g e⟩
def Mv(a:X.A.units+3<cLine)(e:JE X i ty)(f:JE X o td)(hm:behindInMarks .In o=false:=by rfl):JT X (.Compare i [.In] [o] pos) (tB<|GX kk ty td):=⟨vJ (KJ a e.out f.out) hm⟩
def B9(a:X.A.units+3<cLine)(e:JE X i ty)(f:JE X o td)(hm:behindInMarks .NotIn o=false:=by rfl):JT X (.Compare i [.NotIn] [o] pos) (tB<|o9 kk ty td):=⟨vJ (Cf a e.out f.out) hm⟩
def NN(e:X.A.units+3<cLine)(g:JE X o td)(f:JE X i ty)(a:JE X value tv)(h:ie value=false:=by rfl):JS X (.Assign [.Subscript o i Yy] value pos) (BF kk td ty tv):=⟨Gn e g.out f.out a.out<|iz h⟩
def Qk{aa:V->V->Hp->VK->Prop}(l:X.A.units+3<cLine)(f:Ej X op aa)(g:JE X o td)(m:JE X i ty)(h:JE X value tv)(j:∀e a new,augStore i e a new=(do holding [new,e,a] (setItem e a new);release [new,e,a] [];pure .next)):JS X (.AugAssign (.Subscript o i YX) op value pos) (DR kk td ty tv aa):=⟨Ie l g.out m.out h.out f j⟩
def OV:JE X (.Dict [] [] pos) (Ba kk):=⟨HR⟩
def q1(g:JE X e ty)(a:JE X f tv):JE X (.Dict [some e] [f] pos) (Rw X ty tv):=⟨Ou g.out a.out⟩
def OG(l:X.A.units+3<cLine)(j:JE X o td)(he:JE X e ty)(hf:JE X f tx)(h:gX o=true:=by rfl)(g:notStar e=true:=by rfl)(a:notStar f=true:=by rfl)(i:(Yo.endLine==Yn.line)=true:=by rfl):JE X (.Call (.Attribute o "get" Yo) [e,f] [] Yn) (yL kk td ty tx):=
 ⟨Er l j.out he.out hf.out ⟨fu h,by rw[CM g a];rfl,i,CM g a⟩⟩
def M7(l:X.A.units+3<cLine)(j:JE X o td)(he:JE X e ty)(hf:JE X f tx)(h:gX o=true:=by rfl)(g:notStar e=true:=by rfl)(a:notStar f=true:=by rfl)(i:(Yo.endLine==Yn.line)=true:=by rfl):JE X (.Call (.Attribute o "setdefault" Yo) [e,f] [] Yn) (yW kk td ty tx):=
 ⟨FO l j.out he.out hf.out ⟨fu h,by rw[CM g a];rfl,i,CM g a⟩⟩
def Hk(h:JE X e td):JI X tg e (iQ kk td):=⟨L2.Hk h.out⟩
def EJ(e:JE X o td)(h:gX o=true:=by rfl)(a:(Yo.endLine==Yn.line)=true:=by rfl):JI X (.Tuple ts tn YX) (.Call (.Attribute o "items" Yo) [] [] Yn) (QH kk td):=⟨L2.EJ e.out (fu h) a⟩
def kq(e:kk.k.room X.A.in1.in1)(a:X.calm=true):JF X (.type "dict") (λvs H Q=>D1 X.K kk vs H Q):=⟨L2.kq e a⟩
def vT(a:X.A.units<cLine):JC X .Eq (λx y H Q=>Bp x y H λb=>Q (.bl b) H):=⟨L2.vT a⟩
def vP(a:X.A.units<cLine):JC X .NotEq (λx y H Q=>Bp x y H λb=>Q (.bl<|!b) H):=⟨L2.vP a⟩
end
end J
namespace L2
section
variable [DecidableEq κ]
inductive Qf(a:KK P w κ)(H:Hp)(Q:Hp->Prop):Prop
 |mk(d:X4)(o:Obj)(Yj:Yb (κ×V×V))(h:H d=some (.ext (Fz d o (Dφ a d Yj))))(q:Q (upd H d (.ext (Dφ a d Yj))))
def Ff(f:KK P w κ)(g:TS):TS:=λD σ H=>g { D with nx:=λa h=>Qf f h λe=>D.nx a e } σ H
end
section
variable {X:Cx} [DecidableEq κ]{kk:KK X.prog X.w κ}{st:Stmt}{ts:TS}
def Gp(h:PS X st ts):PS X st (Ff kk ts):=by
 intro l s σ H D I q;refine SJ (h l s σ H _ I q) (λf g z=>?_) λ_ _ z=>z;cases f with
 |next=>
  obtain⟨a,r,i,d,o,m,e,q⟩:=z;obtain⟨⟨j,x,p,n⟩,_,_⟩:=(show cV X.prog X.w r g.heap d (.ext<|Fz d o<|Dφ kk d m) from i.hok d _ e);exact⟨a,_,i.write (t':=g.toks) (by rw[e];trivial) (.inl rfl) (λ_ _ _ e=>e) ⟨o,j⟩<|dφ_ok p n,q⟩
 |ret v=>exact z
 |brk=>exact z
 |cont=>exact z
end
def Rt(d:X4)(o:Obj)(Yj:Yb (Yb Key×V)):It:=⟨λi H=>H d=some (.frz o<|.dT Yj)/\i<Yj.length,λi H x e=>e=H/\∃a b,Yj[i]? =some a/\x=.ref b/\H b=some (.tup<|a.1.map kV),λi H=>H d=some (.frz o<|.dT Yj)/\Yj.length<=i⟩
theorem wB{α β:Type}{R:α->β->Prop}:∀{xs:Yb α}{ys:Yb β},Paired R xs ys->∀{i:Nat}{e:α},xs[i]? =some e->∃f,ys[i]? =some f/\R e f
 |_,_,.nil,_,_,h=>by cases h
 |_,_,.cons r t,0,_,h=>by
  cases h;exact⟨_,rfl,r⟩
 |_,_,.cons r t,i+1,_,h=>wB t (i:=i) h
def LP{K:Frag}{tg:Expr}(d it:X4)(o:Obj)(es:Array DictEntry)(T:Nat)(Yj:Yb (Yb Key×V))(hd:o.data=.dict es T):Turn P w K tg (Rt d o Yj) [it] it (λi h=>h.IsKeyIter it d i Yj.length T) where
 mem:=by simp
 obj:=λi h a b g=>by
  have e:b=it:=by simpa using g
  subst e;obtain⟨o,e,c,d⟩:=a;grind
 keep:=λi h y a k=>a.at λo e=>k it (by simp) o e
 item:=by
  intro X O J B W i R s σ H E I r a v;subst O J B;obtain⟨z,S⟩:=v;obtain⟨m,hz,M,xs,p,o',G,D,l,Z,n,q,nd⟩:=(show cV X.prog X.w H s.heap d (.frz o<|.dT Yj) from I.hok d _ z);rw[m]at l;cases l;rw[hd]at n;cases n;have sz:es.size=Yj.length:=by rw[<-Sm,q,R5,<-Tu p]
  have j:i<es.size:=by lia
  obtain⟨e,U⟩:∃e,Yj[i]? =some e:=⟨_,RY S⟩;obtain⟨f,F,rf⟩:=wB p U;have ek:es[i].key=.ref f.2.1:=by
   have:es[i]? =some (entryOfKey (tupleKind<|cO X.prog X.w) f):=by rw[<-Sx,q,Sk,F];rfl
   rw[Uo j]at this;rw[Sy this];rfl
  obtain⟨x,A,f2,Q,N,L⟩:=r it (by simp);refine NK.yd (by rw[sz];exact a) m hd j λy C sb=>?_;rw[sz]at C;have I1:Inv X R σ H { s with heap:=y }:=I.turned (t':=s.toks) (λb o g e=>(sb.2 b g).trans e) x A Q N L;obtain⟨o2,e2,c2,Y⟩:=id C;exact⟨_,rfl,sO e2 c2 Y (by decide) ⟨.ref f.2.1,H,I1,by rw[ek];rfl,⟨rfl,e,f.2.1,U,rfl,rf.2.1⟩,C,λb g=>(r b g).1⟩⟩
 done:=by
  intro X O J B W i R s σ H E I r a v;subst O J B;obtain⟨z,S⟩:=v;obtain⟨m,hz,M,xs,p,o',G,D,l,Z,n,q,nd⟩:=(show cV X.prog X.w H s.heap d (.frz o<|.dT Yj) from I.hok d _ z);rw[m]at l;cases l;rw[hd]at n;cases n;have sz:es.size=Yj.length:=by rw[<-Sm,q,R5,<-Tu p]
  obtain⟨x,A,f2,Q,N,L⟩:=r it (by simp);exact NK.wQ (I.ok.hd W) (by rw[sz];exact a) m hd (by lia) λy eb=>⟨rfl,I.turned (t':=s.toks) (λb o g e=>eb b o g e) x A Q N L⟩
 self:=λ_ _ _ _ _ a h=>wpAny_pyIter_keyiter a h
inductive RF(x:V)(H:Hp)(R:It->Hp->Prop):Prop
 |mk(d:X4)(Yj:Yb (Yb Key×V))(e:x=.ref d)(h:H d=some (.dT Yj))(q:∀(o:Obj)(H':Hp),(∀b,b≠d->H' b=H b)->H' d=some (.frz o (.dT Yj))->R (Rt d o Yj) H')
def iT(a:TE):TI:=λσ H R=>a σ H λx H1=>RF x H1 R
def DX{l:Expr}{B:TE}(N:PE X l B):PI X tg l (iT B):=by
 intro D s σ H R I h;refine c9 (N D s σ H _ I h) λv a g=>?_;obtain⟨x,H1,C,L,d,j,e,r,q⟩:=g;subst e;cases L;obtain⟨M,f,O,p,o,A,E,i,J,m,G,nd⟩:=id<|(show cV X.prog X.w H1 a.heap d (.dT j) from C.hok d _ r);have sz:A.size=j.length:=by rw[<-Sm,G,R5,<-Tu p]
 have K:∀b F,H1 b=some (.tup F)->b≠d:=λb F e z=>by grind
 have y:Inv X D σ (upd H1 d<|.frz o<|.dT j) a:=C.write (t':=a.toks) (by rw[r];trivial) (.inl rfl) (λ_ _ _ e=>e) ⟨o,i⟩ ⟨i,M,f,O,Paired.Eb p λ_ _ z=>⟨z.1,(cI<|K _ _ z.2.1).trans z.2.1,z.2.2⟩,o,A,E,i,J,m,G,nd⟩;refine NK.xM f i J m ⟨a.heap.objs.size,[a.heap.objs.size],_,_,_,rfl,y.kept (t':=a.toks) λb o e=>R6 _ e,LP d _ o A E j m,⟨_,Sl _ rfl,rfl,by rw[sz];rfl⟩,λb n=>?_,q o _ (λb n=>cI n) cG⟩;have e:b=a.heap.objs.size:=by simpa using n
 subst e;exact y.u5 (R9 _)<|y.hok.fresh<|R9 _
section
variable [DecidableEq κ]
def GS{x z:κ}{v:V}(Yj:Yb (κ×V×V)):jo (Yj.map λe=>if e.1=x then(e.1,e.2.1,v) else e) z=(jo Yj z).map λe=>if e.1=x then(e.1,e.2.1,v) else e:=by
 unfold jo;rw[List.find?_map]
 congr 2
 funext e
 show decide ((if e.1=x then(e.1,e.2.1,v) else e).1=z)=_;split<;>rfl
def pB{Yj:Yb (κ×V×V)}{z:κ}{e:κ×V×V}(h:jo Yj z=some e):e.1=z/\e∈Yj:=
 ⟨Sj<|List.find?_some (p:=λe:κ×V×V=>decide<|e.1=z) h,List.mem_of_find?_eq_some h⟩
def Hr(Yj:Yb (κ×V×V))(e:κ×V×V)(z:κ):jo (Yj++[e]) z=(jo Yj z).or (if e.1=z then some e else none):=by
 unfold jo;rw[List.find?_append,find?_cons];by_cases h:e.1=z
 ·rw[dT0 h,Sb h]
 ·rw[Se h,R7 h]
  rfl
def jL(Yj:Yb (κ×V×V))(z:κ):X8 V:=(jo Yj z).map (·.2.2)
def vR(Yj:Yb (κ×V×V))(x z:κ)(y v:V):jL (fG Yj x y v) z=if z=x then some v else jL Yj z:=by
 unfold jL fG;cases h:jo Yj x with
 |some a=>
  rw[Sb<|show(some a).isSome=true from rfl,GS];by_cases q:z=x
  ·subst q
   rw[h,Sb rfl];show some (if a.1=z then(a.1,a.2.1,v) else a).2.2=_;rw[Sb (pB h).1]
  ·rw[R7 q]
   cases f:jo Yj z with
   |none=>rfl
   |some e=>
    show some (if e.1=x then(e.1,e.2.1,v) else e).2.2=_;rw[R7 λw=>q<|(pB f).1.symm.trans w];rfl
 |none=>
  rw[R7<|show ¬(none:X8 (κ×V×V)).isSome=true from bF0,Hr];by_cases q:z=x
  ·grind
  ·grind
def mV(Yj:Yb (κ×V×V))(x:κ)(y v:V):(fG Yj x y v).length<=Yj.length+1:=by
 unfold fG;split
 ·rw[R5]
  exact VP _
 ·rw[R3]
  exact R9 _
def xv{Yj:Yb (κ×V×V)}{x:κ}{y v:V}(h:(jL Yj x).isSome=true):fG Yj x y v=Yj.map λe=>if e.1=x then(e.1,e.2.1,v) else e:=by
 unfold jL at h;rw[UW]at h;unfold fG;rw[Sb h]
def qI{Yj:Yb (κ×V×V)}{x:κ}{y v:V}(h:jL Yj x=none):fG Yj x y v=Yj++[(x,y,v)]:=by
 unfold jL at h;rw[Option.map_eq_none_iff]at h;unfold fG;rw[h];rfl
def IS{x:κ}{v:V}(Yj:Yb (κ×V×V)):(Yj.map λe=>if e.1=x then(e.1,e.2.1,v) else e).map (·.1)=Yj.map (·.1):=by
 rw[Ut];exact X1 λe _=>by grind
def iX{Yj:Yb (κ×V×V)}{z:κ}:(jL Yj z).isSome=true↔z∈Yj.map (·.1):=by
 unfold jL;rw[UW];unfold jo;grind
def Ft{Yj:Yb (κ×V×V)}{x:κ}{y v:V}(h:(Yj.map (·.1)).Nodup):((fG Yj x y v).map (·.1)).Nodup:=by
 cases q:jL Yj x with
 |some e=>rw[xv<|by rw[q];rfl,IS];exact h
 |none=>
  rw[qI q,TQ];refine WM.mpr ⟨h,UB _ _,λa f b g e=>?_⟩;rw[Sd.mp g]at e;have:=iX.mpr f;grind
def FW{Yj:Yb (κ×V×V)}(nd:(Yj.map (·.1)).Nodup){e:κ×V×V}(m:e∈Yj):jo Yj e.1=some e:=by
 cases h:jo Yj e.1 with
 |none=>exact absurd (dT0 rfl)<|Wy.mp h e m
 |some f=>
  obtain⟨g,a⟩:=pB h;obtain⟨i,n,rfl⟩:=WG m;obtain⟨j,l,rfl⟩:=WG a;have:j=i:=(Uy (h₀:=by rw[R5];lia) (h₁:=by rw[R5];lia) nd).mp (by rw[Vi,Vi,g]);subst this;rfl
def An{Yj:Yb (κ×V×V)}{x:κ}{y v:V}{e:κ×V×V}(h:e∈fG Yj x y v):(∃f∈Yj,e.1=f.1/\e.2.1=f.2.1)\/(e.1=x/\e.2.1=y):=by
 unfold fG at h;split at h
 ·grind
 ·grind
end
section
variable [DecidableEq κ]{a:X4}{Yj:Yb (κ×V×V)}
def DD.mono(D:DD kk H a Yj)(e:H' a=H a)(t:∀b xs,H b=some (.tup xs)->H' b=some (.tup xs)):DD kk H' a Yj:=
 ⟨by unfold Rx;rw[e];exact D.h,λe f=>kk.mono t<|D.r e f,D.nd,D.ns,D.l⟩
def DD.same(D:DD kk H a Yj)(s:∀b o,H b=some o->H' b=some o):DD kk H' a Yj:=by
 refine D.mono ?_ λb f e=>s _ _ e;obtain h|⟨o,h⟩:=D.h
 ·rw[h,s _ _ h]
 ·rw[h,s _ _ h]
def DD.put(D:DD kk H a Yj)(hm:H a=some (.ext<|Dφ kk a Yj)){x:κ}{y v:V}(r:kk.rel H x y)(l:Yj.length+1<sizeLine):DD kk (upd H a<|.ext<|Dφ kk a<|fG Yj x y v) a (fG Yj x y v):=by
 have t:∀b h,H b=some (.tup h)->upd H a (.ext<|Dφ kk a<|fG Yj x y v) b=some (.tup h):=λb h e=>by
  rw[cI λz=>by rw[z,hm]at e;cases e];exact e
 refine⟨.inl cG,λe m=>?_,Ft D.nd,D.ns,VY (mV _ _ _ _) l⟩;obtain ⟨f,j,g,i⟩|⟨g,i⟩:=An m
 ·rw[g,i]
  exact kk.mono t<|D.r f j
 ·rw[g,i]
  exact kk.mono t r
end
def DB{P:X6}{w:X7}{A:X9}{k:Nat}(hr:dB k A):(eV P w).k.room A.in1.in1:=by
 have h:=jg hr;show A.units+1+1<cLine;lia
end L2
namespace J
section
variable {X:Cx} [DecidableEq κ]{kk:KK X.prog X.w κ}{st:Stmt}{ts:TS}{tg:Expr}{e:Expr}{te:TE}
def PZ(h:JS X st ts):JS X st (Ff kk ts):=⟨Gp h.out⟩
def DX(h:JE X e te):JI X tg e (iT te):=⟨L2.DX h.out⟩
def qv:Lq X "list.pop" Fc:=⟨L2.qv⟩
def nI:Lq X "list.extend" BL:=⟨L2.nI⟩
end
section
variable {YX:Pos}{td:TE}{ty:TE}{tv:TE}{tx:TE}{st:Stmt}{ts:TS}
def _root_.bT(e:X.A.units+3<cLine)(g:JE X o td)(f:JE X i ty)(a:dR i):JE X (.Subscript o i pos) (Bw (eV X.prog X.w) td ty):=QK e g f a
def BC(a:X.A.units+3<cLine)(e:JE X i ty)(f:JE X o td)(hm:behindInMarks .In o=false:=by rfl):JT X (.Compare i [.In] [o] pos) (tB<|GX (eV X.prog X.w) ty td):=Mv a e f hm
def zP(a:X.A.units+3<cLine)(e:JE X i ty)(f:JE X o td)(hm:behindInMarks .NotIn o=false:=by rfl):JT X (.Compare i [.NotIn] [o] pos) (tB<|o9 (eV X.prog X.w) ty td):=B9 a e f hm
def Fl(e:X.A.units+3<cLine)(g:JE X o td)(f:JE X i ty)(a:JE X value tv)(h:ie value=false:=by rfl):JS X (.Assign [.Subscript o i Yy] value pos) (BF (eV X.prog X.w) td ty tv):=NN e g f a h
def As:JE X (.Dict [] [] pos) (Ba<|eV X.prog X.w):=OV
def O2(h:JE X e td):JI X tg e (iQ (eV X.prog X.w) td):=Hk h
def Af(e:X.A.units+3<cLine)(g:JE X o td)(f:JE X i ty)(a:JE X value tv)(h:ie value=false:=by rfl):JS X (.Assign [.Subscript o i Yy] value pos) (BF (mR X.prog X.w) td ty tv):=NN e g f a h
def Nq:JE X (.Dict [] [] pos) (Ba<|mR X.prog X.w):=OV
def O8(h:JE X e td):JI X tg e (iQ (mR X.prog X.w) td):=Hk h
def Kz{op:Operator}{aa:V->V->Hp->VK->Prop}(l:X.A.units+3<cLine)(f:Ej X op aa)(g:JE X o td)(m:JE X i ty)(h:JE X value tv)(j:∀e a new,augStore i e a new=(do holding [new,e,a] (setItem e a new);release [new,e,a] [];pure .next)):JS X (.AugAssign (.Subscript o i YX) op value pos) (DR (eV X.prog X.w) td ty tv aa):=Qk l f g m h j
def LC(l:X.A.units+3<cLine)(g:JE X o td)(he:JE X e ty)(hf:JE X f tx)(h:gX o=true:=by rfl)(j:notStar e=true:=by rfl)(i:notStar f=true:=by rfl)(a:(Yo.endLine==Yn.line)=true:=by rfl):JE X (.Call (.Attribute o "get" Yo) [e,f] [] Yn) (yL (eV X.prog X.w) td ty tx):=OG l g he hf h j i a
def E5(l:X.A.units+3<cLine)(g:JE X o td)(he:JE X e ty)(hf:JE X f tx)(h:gX o=true:=by rfl)(j:notStar e=true:=by rfl)(i:notStar f=true:=by rfl)(a:(Yo.endLine==Yn.line)=true:=by rfl):JE X (.Call (.Attribute o "setdefault" Yo) [e,f] [] Yn) (yW (eV X.prog X.w) td ty tx):=M7 l g he hf h j i a
def Mx{es:Yb Expr}{e:Nat}(f:JE X o td)(h:gX o=true:=by rfl)(a:(Yo.endLine==Yn.line)=true:=by rfl):JI X (.Tuple es e YX) (.Call (.Attribute o "items" Yo) [] [] Yn) (QH (mR X.prog X.w) td):=EJ f h a
def Nn(h:JS X st ts):JS X st (Ff (eV X.prog X.w) ts):=PZ h
def v7{k:Nat}(hr:dB k X.A)(a:X.calm=true):JF X (.type "dict") (λvs H Q=>D1 X.K (eV X.prog X.w) vs H Q):=kq (DB hr) a
end
def kK (B:Bt X "range") (g:JA X [a,b] t) (f:notStar a=true:=by rfl) (e:notStar b=true:=by rfl):JI X tg (.Call (.Name "range" p) [a,b] [] pos) (J5 t):=⟨L2.kK B.gl B.nm g.out (by rw[cT f,cT e];rfl)<|by rw[cT e];rfl⟩
section
variable {i:Expr}{pos:Pos}{td:TE}{ty:TE}
def yH(e:X.A.units+3<cLine)(g:JE (dv X N' scope cl fp s3 H3 C) o td)(f:JE (dv X N' scope cl fp s3 H3 C) i ty)(a:dR i):JE (dv X N' scope cl fp s3 H3 C) (.Subscript o i pos) (Bw (eV X.prog X.w) td ty):=bT (X:=dv X N' scope cl fp s3 H3 C) e g f a
def Gg(a:X.A.units+3<cLine)(e:JE (dv X N' scope cl fp s3 H3 C) i ty)(f:JE (dv X N' scope cl fp s3 H3 C) o td)(hm:behindInMarks .In o=false:=by rfl):JT (dv X N' scope cl fp s3 H3 C) (.Compare i [.In] [o] pos) (tB<|GX (eV X.prog X.w) ty td):=BC (X:=dv X N' scope cl fp s3 H3 C) a e f hm
def oQ(a:X.A.units+3<cLine)(e:JE (dv X N' scope cl fp s3 H3 C) i ty)(f:JE (dv X N' scope cl fp s3 H3 C) o td)(hm:behindInMarks .NotIn o=false:=by rfl):JT (dv X N' scope cl fp s3 H3 C) (.Compare i [.NotIn] [o] pos) (tB<|o9 (eV X.prog X.w) ty td):=zP (X:=dv X N' scope cl fp s3 H3 C) a e f hm
end
end J
namespace L2
def nx{H H1:Hp}{p:X4}{o:HO}(n:H p=none)(e:upd H p o=H1):cJ H H1/\H1 p=some o:=e ▸ ⟨cJ.upd n,cG⟩
section
variable {X:Cx}
def CK{k:Nat}{f:X4}{fd:FuncData}{ps:Yb Yc}{sp:Sp}{x:Yc}{e:Expr}{es:Yb Expr}{t:TA}{p pos i:Pos}(F:dZ X.prog X.w X.K X.mg X.base (vX X.prog X.w) k f fd ps sp)(hr:dB k X.A)(G:Gl X x)(hm:X.mg x=some (.ref f))(J:keepIn X.K (.ref f)=true)(C:Binds X.K fd ps [])
  (P:PA X.nh (e::es) t) (O:(x==("__debug__" :Yc))=false:=by decide) (he:starEach (e::es) X.env=(false,eval e X.env)::starEach es X.env:=by rfl) (L:(backTo pos<|starEach es X.env).any (·.1)=false:=by rfl):
  CZ X [.Expr (.Call (.Name x p) (e::es) [] pos) i] (λE=>xJ<|jO sp [] E t):=by
 intro o s σ H D E I h;refine xP<|wpAny_Expr_any (c9 (Q:=EP X o σ λ_ H1=>D.nx σ H1) ?_ λv l ⟨x,H1,j,W,q1⟩=>⟨σ,H1,j,q1⟩) I.quiet<|iz rfl;refine T6<|kT I G hm ?_ O;refine callWith_K I.ok.mod.kin J (SJ (P pos o s σ H _ (I.lh _) h) (λn l ⟨M,H1,j,r,q⟩=>⟨j.jm,?_⟩) λ_ _ z=>False.elim z) he L;have y:=r.append .nil;have a:=j.fe;refine WU (UD (F.run X.A X.stack l H1 ⟨n,[]⟩ (n++[]) (M++[]) _ E hr a.Iy (C l n a.jm<|by rw[<-y.length];exact F.len _ _ _ _ q) y q) λr U g=>?_);cases r with
 |error e=>
  obtain⟨R,m,T,B,S,rfl,fl,N⟩:=g;exact⟨H1,S,l,R,m,T,B,a,rfl,fl,N⟩
 |ok fl=>
  cases fl with
  |ret u=>exact a.after g
  |next=>exact False.elim g
  |brk=>exact False.elim g
  |cont=>exact False.elim g
def Jb{c:Expr}{a b:Yb Stmt}{i:TT}{t u:XK->TS}{pos:Pos}(m:PT X.nh c i)(j:CZ X a t)(l:CZ X b u):CZ X [.If c a b pos] (λE=>Dh i (t E)<|u E):=by
 intro e s σ H D E I h;refine xP<|wpAny_If<|SJ (m e s σ H _ (I.lh _) h) (λd f ⟨H1,g,q1⟩=>?_) λ_ _ z=>False.elim z;cases d with
 |true=>exact j e f σ H1 D E g.fe q1
 |false=>exact l e f σ H1 D E g.fe q1
end
def nJ{X:Cx}(O:X.calm=true):eW X (.type "set") (λxs H Q=>∃(p:X4) (a:Yb Nat),xs=[.ref p]/\cP X.K H p (a.map λk=>V.int (k:Nat))/\a.Nodup/\a.length<1000/\∀q,H q=none->Q (.ref q) (upd H q<|setM X.prog X.w q a.length)):=by
 intro U s σ H xs W Q I r h;obtain⟨p,a,rfl,D,nd,S,q⟩:=h;obtain⟨u,rfl,G⟩:=vals1 r;cases G;obtain⟨z,x,pl,_⟩:=I.list D;have l:=x.length;rw[R5]at l;refine tR (key:=λi=>Sum.inl ((a.getD i 0:Nat):Int)) (I.ok.hd O) pl.isList (λi v e=>?_) (λi j B Y=>?_) (by rw[SI,<-l];unfold scanBound;lia) λg C T m A=>?_
 ·have n:z[i]? =some v:=by simpa using e
  have y:i<a.length:=by grind
  obtain⟨u,N,t,rfl⟩:=x.get (show(a.map λk=>V.int (k:Nat))[i]? =some (V.int (a[i]:Nat)) by simp[y]);rw[N]at n;cases n;have f:a.getD i 0=a[i]:=by simp[List.getD,y]
  rw[f];exact⟨sQ _ _,rfl⟩
 ·have Z:j<a.length:=by grind
  have E:i<a.length:=by lia
  intro e;have f:a[i]=a[j]:=by grind
  exact absurd ((Uy nd).mp f) (by lia)
 ·have J:=I.hok.fresh (R9 _)
  have M:z.toArray.size=a.length:=by rw[SI,l]
  rw[M]at m;refine⟨.ref s.heap.objs.size,_,I.laid (t':=C) (o:=setM X.prog X.w s.heap.objs.size a.length) (λb o e=>A b o (Sv e) e) (R9 _) ⟨⟨T,m⟩,?_,λR P p k=>?_⟩,rfl,q _ J⟩
  ·obtain⟨o,_,_,_,e,_⟩:=m
   exact⟨o,e⟩
  ·obtain⟨T,o,F,L,t,e,rest⟩:=p
   exact⟨T,o,F,L,t,k o e,rest⟩
end L2
namespace J
section
variable {P:X6}{w:X7}{K:Frag}{mg:Yh}{base:Heap}{x:Yc}{N:Yb Yc}{k j:Nat}{sp:Sp}
def Ak {X:Cx}{sc:Scope}{e:Expr}{es:Yb Expr}{t:TA}{p pos n:Pos}(a:Here X P w K mg base sc N k) (G:Az P w K mg base j x sp) (l:PA X.nh (e::es) t) (r:sc.names.lookup x=some .globalImplicit) (i:j<=k) (m:(x==("__debug__" :Yc))=false) (q:notStar e=true:=by rfl) (o:es.all notStar=true:=by rfl):
  Ea X [.Expr (.Call (.Name x p) (e::es) [] pos) n] (λE=>xJ<|jO sp [] E t):=by
 obtain⟨f,v,y,F,g,s,h⟩:=G.ex;obtain⟨rfl,rfl,rfl,rfl,rfl⟩:=And.intro a.pr<|And.intro a.wd<|And.intro a.fK<|And.intro a.gm a.bs;exact⟨CK F (a.room.mono i) (a.gl r) g s h l m (cT q)<|d4 o⟩
def NR{X:Cx}{c:Expr}{a b:Yb Stmt}{e:TT}{t u:XK->TS}{pos:Pos}(g:PT X.nh c e)(f:Ea X a t)(h:Ea X b u):Ea X [.If c a b pos] (λE=>Dh e (t E)<|u E):=⟨Jb g f.out h.out⟩
end
def nJ{X:Cx}(e:X.calm=true):JF X (.type "set") (λxs H Q=>∃(p:X4) (a:Yb Nat),xs=[.ref p]/\cP X.K H p (a.map λk=>V.int (k:Nat))/\a.Nodup/\a.length<1000/\∀q,H q=none->Q (.ref q) (upd H q<|setM X.prog X.w q a.length)):=⟨L2.nJ e⟩
structure RN(X Y:Cx)(P:X6)(w:X7)(K:Frag)(mg:Yh)(base:Heap)(sc:Scope)(N:Yb Yc)(k:Nat)(E:XK):Prop where
 fr:Rc X Y P w K mg base sc N k E
 slot:∀{i:Nat}{y:Yc},L2.Slot X i y->L2.Slot Y i y
 nd:Y.N.Nodup
 cld:∀{x:Yc}{j:Nat}{sp:Sp}{e:Expr}{es:Yb Expr}{t:TA}{p pos:Pos},Az P w K mg base j x sp->JA X (e::es) t->sc.names.lookup x=some .globalImplicit->j<=k->(x==("__debug__" :Yc))=false->notStar e=true->es.all notStar=true->JE Y (.Call (.Name x p) (e::es) [] pos) (jO sp [] E t)
section
variable {P:X6}{w:X7}{K:Frag}{mg:Yh}{base:Heap}{x:Yc}{st:Stmt}{f:X4}{fd:FuncData}{N ps:Yb Yc}{k:Nat}{sp:Sp}
def v9(D:Df K mg x st ps f fd)(S:cL N ps (cK st))(len:∀vs H Q E,sp vs H Q E->vs.length=ps.length)
  (B:∀(X Y:Cx)(H:Hp)(vs:Yb V)(Q:VK)(E:XK),RN X Y P w K mg base (cK st) N k E->sp vs H Q E->∃t,wc Y (df st) t/\t { nx:=λ_ H'=>Q .non H',rt:=Q } (L2.start N vs) H):Az P w K mg base (k+1) x sp:=by
 refine⟨f,fd,ps,?_,D.nm,D.fn.kp,D.bi⟩;obtain⟨T,od,kV,R,O,an,l,ct,U,rfl,g,z⟩:=D.fn.ex;refine Jr g z S len λA outer s H vs Q E hr n=>?_;obtain⟨t,h,q⟩:=B _ _ H vs Q E ⟨Ov S hr,λh=>⟨h.hN,h.lc,h.fn,h.db,h.cd⟩,S.nd,λ{x j sp e Z t p C} G L a M v o i=>by
  obtain⟨W,m,y,F,I,r,J⟩:=G.ex;exact⟨uT (X:=kZ (vX P w) P w K mg base N _ (cK st) f l A outer s H E) F (hr.mono M) a I r J .nil E1 L.out.nh v (cT o)<|d4 i⟩⟩ n
 exact⟨t,h.out,q⟩
end
end J
namespace FL
variable {α:Type} [DecidableEq α]
theorem sum_add{β:Type}(f g:β->Int):∀L:Yb β,(L.map λl=>f l+g l).sum=(L.map f).sum+(L.map g).sum
 |[]=>rfl
 |x::r=>by
  rw[SV,SV,SV,UG,UG,UG,sum_add f g r];lia
theorem gb{β:Type}{f:β->Int}:∀{L:Yb β},(∀l∈L,f l=0)->(L.map f).sum=0
 |[],_=>rfl
 |x::r,h=>by
  rw[SV,UG,h x<|.head _,gb λl a=>h l<|.tail _ a];rfl
theorem eK{β:Type}{f g:β->Int}:∀{L:Yb β},(∀l∈L,f l=g l)->(L.map f).sum=(L.map g).sum
 |[],_=>rfl
 |x::r,h=>by
  rw[SV,SV,UG,UG,h x<|.head _,eK λl a=>h l<|.tail _ a]
theorem pM{β:Type} [DecidableEq β]{c:Int}{x:β}:∀{L:Yb β},L.Nodup->x∈L->(L.map λl=>if l=x then c else 0).sum=c
 |[],_,h=>nomatch h
 |y::r,nd,h=>by
  rw[SV,UG];obtain⟨a,f⟩:=Uz.mp nd;by_cases e:y=x
  ·rw[Sb e,gb λl g=>R7 λq=>a<|by grind]
   lia
  ·rw[R7 e,pM f<|(SS.mp h).resolve_left λq=>e q.symm]
   lia
def ind(p:Prop) [Decidable p] (c:Int):Int:=if p then c else 0
def di{p:Prop} [Decidable p]{c:Int}(h:p):ind p c=c:=Sb h
def dh{p:Prop} [Decidable p]{c:Int}(h:¬p):ind p c=0:=R7 h
def jB(L:Yb (α×α))(f:α×α->Int)(x:α):Int:=(L.map λl=>ind (l.1=x) (f l)-ind (l.2=x) (f l)).sum
theorem uQ(L:Yb (α×α))(f:α×α->Int):∀{S:Yb α},S.Nodup->(S.map<|jB L f).sum=(L.map λl=>ind (l.1∈S) (f l)-ind (l.2∈S) (f l)).sum
 |[],_=>by
  rw[gb (L:=L) λl _=>by rw[dh (λh=>nomatch h),dh λh=>nomatch h];rfl];rfl
 |x::S,nd=>by
  obtain⟨a,g⟩:=Uz.mp nd;have step:∀(y:α) (c:Int),ind (y∈x::S) c=ind (y=x) c+ind (y∈S) c:=λy c=>by
   by_cases e:y=x
   ·rw[di<|SS.mpr<|.inl e,di e,dh<|by rw[e];exact a]
    lia
   ·by_cases m:y∈S
    ·rw[di<|SS.mpr<|.inr m,dh e,di m]
     lia
    ·rw[dh λh=>(SS.mp h).elim e m,dh e,dh m]
     rfl
  rw[SV,UG,uQ L f g];unfold jB;rw[<-sum_add];exact eK λl _=>by grind
def Fb{L:Yb (α×α)}{f g:α×α->Int}{u v:α}{c:Int}(nd:L.Nodup)(m:(u,v)∈L)(i:∀l∈L,g l=f l+ind (l=(u,v)) c)(x:α):jB L g x=jB L f x+(ind (u=x) c-ind (v=x) c):=by
 have e:(L.map λl=>if l=(u,v) then ind (u=x) c-ind (v=x) c else 0).sum=ind (u=x) c-ind (v=x) c:=pM nd m;unfold jB;rw[<-e,<-sum_add];refine eK λl h=>?_;rw[i l h];by_cases q:l=(u,v)
 ·rw[Sb q,di q,q]
  by_cases a:u=x
  ·by_cases b:v=x
   ·grind
   ·rw[di a,dh b,di a,dh b,di a,dh b];lia
  ·by_cases b:v=x
   ·rw[dh a,di b,dh a,di b,dh a,di b];lia
   ·grind
 ·rw[R7 q,dh q]
  have z:f l+0=f l:=by lia
  rw[z];lia
structure Flow(L:Yb (α×α))(cap f:α×α->Int)(s t:α)(k:Int):Prop where
 lo:∀l∈L,0<=f l
 hi:∀l∈L,f l<=cap l
 ns:jB L f s=k
 nt:jB L f t= -k
 no:∀x,x≠s->x≠t->jB L f x=0
def AI{S:Yb α}{g:α->Int}{s:α}{k:Int}(nd:S.Nodup)(m:s∈S)(a:g s=k)(no:∀x∈S,x≠s->g x=0):(S.map g).sum=k:=by
 rw[<-pM (c:=k) nd m];refine eK λx f=>?_;by_cases e:x=s
 ·rw[Sb e,e,a]
 ·rw[R7 e,no x f e]
def cut{L:Yb (α×α)}{e f:α×α->Int}{s t:α}{k:Int}(F:Flow L e f s t k){S:Yb α}(nd:S.Nodup)(n:s∈S)(m:t ∉ S)(o:∀l∈L,l.1∈S->l.2 ∉ S->f l=e l)(back:∀l∈L,l.1 ∉ S->l.2∈S->f l=0):(L.map λl=>if l.1∈S/\l.2 ∉ S then e l else 0).sum=k:=by
 rw[<-AI (g:=jB L f) nd n F.ns λx p j=>F.no x j λq=>m<|by rw[<-q];exact p,uQ L f nd];refine eK λl i=>?_;by_cases a:l.1∈S
 ·by_cases b:l.2∈S
  ·rw[R7 λh=>h.2 b,di a,di b];lia
  ·rw[Sb ⟨a,b⟩,di a,dh b,o l i a b];lia
 ·by_cases b:l.2∈S
  ·rw[R7 λh=>a h.1,dh a,di b,back l i a b];rfl
  ·rw[R7 λh=>a h.1,dh a,dh b];rfl
theorem qF{β:Type}{f:β->Int}{x:β}:∀{L:Yb β},(∀l∈L,0<=f l)->x∈L->f x<=(L.map f).sum
 |[],_,h=>nomatch h
 |y::r,p,h=>by
  rw[SV,UG];have g:∀{L:Yb β},(∀l∈L,0<=f l)->0<=(L.map f).sum:=λ{L} q=>by
   induction L with
   |nil=>grind
   |cons z t e=>grind
  obtain rfl|h:=SS.mp h
  ·grind
  ·have:=qF (λl a=>p l<|.tail _ a) h
   have:=p y<|.head _;lia
def ja{β:Type} [DecidableEq β]{f:β->Int}{x:β}{L:Yb β}(nd:L.Nodup)(p:0<=f x)(h:∀l∈L,l≠x->f l=0):(L.map f).sum<=f x:=by
 by_cases m:x∈L
 ·have e:(L.map f).sum=(L.map λl=>if l=x then f x else 0).sum:=eK λl a=>by grind
  rw[e,pM nd m];exact VX _
 ·rw[gb λl a=>h l a λq=>m<|by rw[<-q];exact a]
  exact p
def r6(L:Yb (α×α))(f:α×α->Int)(x:α):Int:=(L.map λl=>ind (l.1=x)<|f l).sum
def Jq(L:Yb (α×α))(f:α×α->Int)(x:α):Int:=(L.map λl=>ind (l.2=x)<|f l).sum
def lR(L:Yb (α×α))(f:α×α->Int)(x:α):jB L f x+Jq L f x=r6 L f x:=by
 unfold jB Jq r6;rw[<-sum_add];exact eK λl _=>by lia
def hZ{p:Prop} [Decidable p]{c:Int}(h:0<=c):0<=ind p c:=by
 unfold ind;split
 ·exact h
 ·lia
def Flow.Lu(F:Flow L cap f s t k){l:α×α}(m:l∈L):f l<=r6 L f l.1:=by
 have:=qF (f:=λq:α×α=>ind (q.1=l.1)<|f q) (λq a=>hZ<|F.lo q a) m
 rwa [di rfl]at this
def Flow.Jw(F:Flow L cap f s t k){l:α×α}(m:l∈L):f l<=Jq L f l.2:=by
 have:=qF (f:=λq:α×α=>ind (q.2=l.2)<|f q) (λq a=>hZ<|F.lo q a) m
 rwa [di rfl]at this
def Flow.into(F:Flow L cap f s t k)(nd:L.Nodup){l g:α×α}(m:l∈L)(a:g∈L)(e:l.2=g.1)(ns:g.1≠s)(o:g.1≠t)(one:∀q∈L,q.1=g.1->q=g):f l<=f g:=by
 have n:=F.Jw m;have i:=lR L f g.1;rw[F.no _ ns o]at i;rw[e]at n;have p:r6 L f g.1<=f g:=by
  have:=ja nd (hZ<|F.lo g a) λq h j=>dh λw=>j<|one q h w
  rwa [di rfl]at this
 lia
def Flow.wV(F:Flow L cap f s t k)(nd:L.Nodup){l g:α×α}(m:l∈L)(a:g∈L)(e:l.1=g.2)(ns:g.2≠s)(o:g.2≠t)(one:∀q∈L,q.2=g.2->q=g):f l<=f g:=by
 have n:=F.Lu m;have i:=lR L f g.2;rw[F.no _ ns o]at i;rw[e]at n;have p:Jq L f g.2<=f g:=by
  have:=ja nd (hZ<|F.lo g a) λq h j=>dh λw=>j<|one q h w
  rwa [di rfl]at this
 lia
def Flow.on(F:Flow L cap f s t k){l:α×α}(m:l∈L)(p:0<f l)(ns:l.2≠s)(i:l.2≠t):∃g∈L,g.1=l.2/\0<f g:=by
 apply TC;intro no;have j:=F.Jw m;have h:=lR L f l.2;rw[F.no _ ns i]at h;have n:r6 L f l.2=0:=gb λq a=>by
  by_cases e:q.1=l.2
  ·rw[di e]
   have:=F.lo q a;have:¬0<f q:=λz=>no ⟨q,a,e,z⟩;lia
  ·exact dh e
 lia
def fl(R:α->α->Int):α×α->Int:=λl=>R l.2 l.1
def way(R:α->α->Int)(b a:α):α->α->Int:=λx y=>if x=b/\y=a then R x y-1 else if x=a/\y=b then R x y+1 else R x y
structure Net(L:Yb (α×α)):Prop where
 nd:L.Nodup
 ne:∀l∈L,l.1≠l.2
 one:∀l∈L,(l.2,l.1) ∉ L
def uU{R:α->α->Int}{b a:α}:way R b a b a=R b a-1:=Sb ⟨rfl,rfl⟩
def uJ{R:α->α->Int}{b a:α}(ne:b≠a):way R b a a b=R a b+1:=by
 unfold way;rw[R7 λh=>ne h.1.symm,Sb ⟨rfl,rfl⟩]
def oz{R:α->α->Int}{b a x y:α}(e:¬(x=b/\y=a))(f:¬(x=a/\y=b)):way R b a x y=R x y:=by
 unfold way;rw[R7 e,R7 f]
def IZ{L:Yb (α×α)}(N:Net L){R:α->α->Int}{b a:α}(m:(b,a)∈L\/(a,b)∈L)(x:α):jB L (fl<|way R b a) x=jB L (fl R) x+(ind (b=x) 1-ind (a=x) 1):=by
 obtain m|m:=m
 ·refine Fb N.nd m (λl e=>?_) x
  by_cases q:l=(b,a)
  ·rw[di q,q]
   exact uJ<|N.ne _ m
  ·rw[dh q,XC]
   exact oz (λh=>N.one _ m<|by grind) λh=>q<|W8 h.2 h.1
 ·have:=Fb (c:= -1) (f:=fl R) (g:=fl<|way R b a) N.nd m (λl e=>?_) x
  ·rw[this]
   by_cases p:b=x
   ·by_cases q:a=x
    ·grind
    ·rw[di p,dh q,di p,dh q];lia
   ·by_cases q:a=x
    ·rw[dh p,di q,dh p,di q];lia
    ·grind
  ·by_cases q:l=(a,b)
   ·rw[di q,q]
    exact uU
   ·rw[dh q,XC]
    exact oz (λh=>q<|W8 h.2 h.1) λh=>N.one _ m (by grind)
structure gT(L:Yb (α×α))(cap:α×α->Int)(R:α->α->Int):Prop where
 all:∀l∈L,R l.1 l.2+R l.2 l.1=cap l
 on:∀l∈L,0<=R l.1 l.2
 off:∀l∈L,0<=R l.2 l.1
def gT.way{L:Yb (α×α)}{f:α×α->Int}{R:α->α->Int}(N:Net L)(h:gT L f R){b a:α}(m:(b,a)∈L\/(a,b)∈L)(p:0<R b a):gT L f (way R b a):=by
 have o:b≠a:=m.elim (λm=>N.ne _ m) λm=>(N.ne _ m).symm;have key:∀l∈L,FL.way R b a l.1 l.2+FL.way R b a l.2 l.1=f l/\0<=FL.way R b a l.1 l.2/\0<=FL.way R b a l.2 l.1:=λl e=>by
  have j:=h.all l e;have i:=h.on l e;have n:=h.off l e;by_cases q:l.1=b/\l.2=a
  ·rw[q.1,q.2]at j i n ⊢
   rw[uU,uJ o];lia
  ·by_cases g:l.1=a/\l.2=b
   ·rw[g.1,g.2]at j i n ⊢
    rw[uU,uJ o];lia
   ·rw[oz q g,oz (λz=>g ⟨z.2,z.1⟩) λz=>q ⟨z.2,z.1⟩]
    exact⟨j,i,n⟩
 exact⟨λl e=>(key l e).1,λl e=>(key l e).2.1,λl e=>(key l e).2.2⟩
def gT.Ra{L:Yb (α×α)}{a:α×α->Int}{R:α->α->Int}{s t:α}{k:Int}(h:gT L a R)(ns:jB L (fl R) s=k)(f:jB L (fl R) t= -k)(no:∀x,x≠s->x≠t->jB L (fl R) x=0):Flow L a (fl R) s t k:=
 ⟨λl e=>h.off l e,λl e=>by
  have:=h.all l e;have:=h.on l e;show R l.2 l.1<=a l;lia,ns,f,no⟩
structure Nv(L:Yb (α×α))(R:α->α->Int)(s:α)(S:Yb α)(bf:α->α)(rk:α->Nat):Prop where
 st:s∈S
 bfS:∀x∈S,x≠s->bf x∈S
 low:∀x∈S,x≠s->rk (bf x)<rk x
 room:∀x∈S,x≠s->0<R (bf x) x
 link:∀x∈S,x≠s->(bf x,x)∈L\/(x,bf x)∈L
structure uG(L:Yb (α×α))(cap:α×α->Int)(R R':α->α->Int)(s t:α)(S:Yb α)(bf:α->α)(rk:α->Nat)(p:α):Prop where
 pS:p∈S
 rm:gT L cap R'
 nt:∀x,jB L (fl R') x=jB L (fl R) x+(ind (p=x) 1-ind (t=x) 1)
 old:∀z∈S,rk z<=rk p->z≠s->R' (bf z) z=R (bf z) z
section
variable {S:Yb α}{bf:α->α}{rk:α->Nat}
def uG.first(h:gT L cap R)(m:t∈S):uG L cap R R s t S bf rk t:=⟨m,h,λx=>by lia,λ_ _ _ _=>rfl⟩
def uG.step(N:Net L)(C:Nv L R s S bf rk)(h:uG L cap R R' s t S bf rk p)(ne:p≠s):uG L cap R (way R' (bf p) p) s t S bf rk (bf p):=by
 have i:=C.low p h.pS ne;have e:=C.link p h.pS ne;refine⟨C.bfS p h.pS ne,h.rm.way N e<|by rw[h.old p h.pS (R9 _) ne];exact C.room p h.pS ne,λx=>?_,λz f le a=>?_⟩
 ·rw[IZ N e,h.nt x]
  lia
 ·have g:=C.low z f a
  rw[oz (λq=>by rw[q.2]at le;lia) λq=>by rw[q.1]at g;lia];exact h.old z f (by lia) a
def uG.last{k:Int}(h:uG L cap R R' s t S bf rk s)(ne:s≠t)(F:Flow L cap (fl R) s t k):Flow L cap (fl R') s t (k+1):=by
 refine h.rm.Ra ?_ ?_ λx a e=>?_
 ·rw[h.nt,F.ns,di rfl,dh ne.symm]
  lia
 ·rw[h.nt,F.nt,dh ne,di rfl]
  lia
 ·rw[h.nt,F.no x a e,dh a.symm,dh e.symm]
  rfl
end
theorem l9{β:Type}{f g:β->Int}:∀{L:Yb β},(∀l∈L,f l<=g l)->(L.map f).sum<=(L.map g).sum
 |[],_=>VX _
 |x::r,h=>by
  rw[SV,SV,UG,UG];have:=h x<|.head _;have:=l9 λl a=>h l<|.tail _ a;lia
def MJ{β:Type}{f:β->Int}{L:Yb β}(h:∀l∈L,0<=f l):0<=(L.map f).sum:=by
 have:=l9 h
 rwa [gb λ_ _=>rfl]at this
def Flow.bound{L:Yb (α×α)}{a f:α×α->Int}{s t:α}{k:Int}(F:Flow L a f s t k):k<=(L.map λl=>ind (l.1=s)<|a l).sum:=by
 have g:=lR L f s;rw[F.ns]at g;have h:0<=Jq L f s:=MJ λl e=>hZ<|F.lo l e;have i:r6 L f s<=(L.map λl=>ind (l.1=s)<|a l).sum:=l9 λl e=>by
  unfold ind;split
  ·exact F.hi l e
  ·lia
 lia
def Flow.zero{L:Yb (α×α)}{a:α×α->Int}{R:α->α->Int}{s t:α}(h:∀l∈L,R l.2 l.1=0)(c:∀l∈L,0<=a l):Flow L a (fl R) s t 0:=by
 have z:∀x,jB L (fl R) x=0:=λx=>gb λl f=>by
  have e:fl R l=0:=h l f;rw[e];unfold ind;split<;>split<;>rfl
 refine⟨λl f=>?_,λl f=>?_,z s,z t,λx _ _=>z x⟩
 ·show 0<=R l.2 l.1
  rw[h l f];exact VX _
 ·show R l.2 l.1<=a l
  rw[h l f];exact c l f
end FL
namespace L2
def Km:0<=sizeLine:=by decide
def MW:1<=sizeLine:=by decide
def uk:2<=sizeLine:=by decide
def tL:3<=sizeLine:=by decide
def MU:4<=sizeLine:=by decide
def kI {K:Frag}{T n:String}(e:T∈tys:=by decide) (a:n∈["int","bool","str","list","tuple"]:=by decide):kitOne K (.type T) (.type n)=some (EA T n):=fR e a
def iP{c A B:Prop} [Decidable c] (h:A)(a:c:=by decide+kernel):if c then A else B:=fD a h
def iN{c A B:Prop} [Decidable c] (h:B)(a:¬c:=by decide+kernel):if c then A else B:=gQ a h
end L2
end
open L2
namespace K42
def kept:Yb Yc:=["person","talk","saw","knew","heard","told","not","nobody","never","by","from","to"]
def wY:V->Bool
 |.int i=>decide (0<=i)&&decide (i<=10^Int.toNat 18)
 |_=>false
def jK:V->Bool
 |.str w=> !decide (w.cps.toList<("a" :Yc).cps.toList) && !decide (("z" :Yc).cps.toList<w.cps.toList)
 |_=>false
def d7(z:Yc):Bool:=decide (1<=(z.length:Int))&&(decide ((z.length:Int)<=12)&&(((signs z).map jK).all id && !J6 (.str z) (kept.map V.str)))
def wW:V->Bool
 |.str z=>d7 z
 |_=>false
def GO(K:Frag):Sp:=λa H Q _=>∃x T,a=[x]/\eZ K H x (.type T)/\T∈tys/\Q (.bl<|T == "int") H
def nR(K:Frag):Sp:=λa H Q _=>∃x T,a=[x]/\eZ K H x (.type T)/\T∈tys/\Q (.bl<|wY x) H
def qV(K:Frag):Sp:=λe H Q _=>∃x T,e=[x]/\eZ K H x (.type T)/\T∈tys/\(∀z,x=.str z->z.length<=sizeLine)/\∀a,cJ H a->Q (.bl<|wW x) a
def iW(a b:Yc):(a++b).cps.toList=a.cps.toList++b.cps.toList:=by
 show(a.cps++b.cps).toList=_;grind
def vV(a b:Yc):(a++b).length=a.length+b.length:=Array.size_append
def mO(a:Yc):a.cps.toList.length=a.length:=Sm
def HH{a b:Yc}(h:a.cps.toList=b.cps.toList):a=b:=by
 obtain⟨x⟩:=a;obtain⟨y⟩:=b;have:x=y:=Array.ext' h;rw[this]
def L1{k:Nat}(a:k<=z.length):(nG z none<|some (k:Int)).cps.toList=z.cps.toList.take k:=by
 show((z.cps.toList.drop<|HT.iA z.length 0 none).take<|HT.iA z.length z.length (some (k:Int))-HT.iA z.length 0 none)=_;rw[HT.jR,HT.mJ,Ve,XD,VJ a]
def Ml{k:Nat}(a:k<=z.length):(nG z (some (k:Int)) none).cps.toList=z.cps.toList.drop k:=by
 show((z.cps.toList.drop<|HT.iA z.length 0<|some (k:Int)).take<|HT.iA z.length z.length none-HT.iA z.length 0 (some (k:Int)))=_;rw[HT.jR,HT.mJ,VJ a];refine TJ ?_;rw[T3,mO];lia
def tU(us:Yb Yc)(lo a:X8 Int):eB (us.map V.str) lo a=(((us.drop<|HT.iA us.length 0 lo).take<|HT.iA us.length us.length a-HT.iA us.length 0 lo)).map V.str:=by
 unfold eB;rw[R5,List.map_take,List.map_drop]
def dC(h:Int):Prop:=0<=h/\h<=10^Int.toNat 18
def iE(k:dC h):wY (.int h)=true:=by
 show(decide (0<=h)&&decide (h<=10^Int.toNat 18))=true;rw[dT0 k.1,dT0 k.2];rfl
def FU(h:d7 z=true):z.length<=12:=by
 unfold d7 at h;grind
def BX(h:d7 z=true):z.length<=sizeLine:=by
 have a:=FU h;have:sizeLine=16777216:=Sq;lia
def nF{z:Yc}(h:d7 z=true):∀y,V.str z=V.str y->y.length<=sizeLine:=λy e=>by
 cases e;exact BX h
structure gd(ps:Yb Yc):Prop where
 lo:1<=ps.length
 hi:ps.length<=24
 nd:ps.Nodup
 nm:∀z∈ps,d7 z=true
inductive dU  (ps:Yb Yc)(H:Hp)(v:V):Prop
 |mk(a:X4)(z:Yc)(h:Int)(ta:X4)(ws:Yb Yc)(h0:v=.ref a)(i:H a=some (.tup [.str z,.int h,.ref ta]))(f:z∈ps)(m:dC h)(g:H ta=some (.tup (ws.map V.str)))(l:1<=ws.length)(e:ws.length<=6)(j:∀x∈ws,d7 x=true)
inductive fg  (ps:Yb Yc)(H:Hp)(v:V):Prop
 |mk (a:X4) (h:Int) (p q w:Yc) (h0:v=.ref a) (i:H a=some (.tup [.int h,.str p,.str q,.str w])) (f:dC h) (l:p∈ps) (g:q∈ps) (j:p≠q) (e:(w= "both" \/w= "one"))
inductive jy  (ps:Yb Yc)(H:Hp)(v:V):Prop
 |mk (a:X4) (h0:v=.ref a) (e:((∃(p:Yc) (h:Int),H a=some (.tup [.str "knew",.str p,.int h])/\p∈ps/\dC h)\/    (∃(p:Yc) (b:V),H a=some (.tup [.str "unheard",.str p,b])/\p∈ps/\(b=.non\/∃h:Int,b=.int h/\dC h))\/    (∃(p:Yc) (h k:Int),H a=some (.tup [.str "silent",.str p,.int h,.int k])/\p∈ps/\dC h/\dC k/\h<=k)\/    (∃p q:Yc,H a=some (.tup [.str "barred",.str p,.str q])/\p∈ps/\q∈ps/\p≠q)))
def Tk(H H':Hp):Prop:=∀b a,H b=some (.tup a)->H' b=some (.tup a)
def Tk.of(s:cJ H H'):Tk H H':=λb _ e=>s b _ e
def Tk.trans(a:Tk H H1)(b:Tk H1 H2):Tk H H2:=λc f e=>b c f<|a c f e
def Tk.upd(h:H l=some (.lst xs)):Tk H (upd H l<|.lst ys):=λb a e=>by
 rw[cI<|p7 e h<|by intro z;cases z];exact e
def dU.mono(s:Tk H H')(h:dU ps H v):dU ps H' v:=by
 obtain⟨a,z,h,n,g,e,j,p,l,o,m,f,i⟩:=h;exact⟨a,z,h,n,g,e,s _ _ j,p,l,s _ _ o,m,f,i⟩
def fg.mono(s:Tk H H')(h:fg ps H v):fg ps H' v:=by
 obtain⟨a,h,p,q,w,e,j,l,f,i,g,m⟩:=h;exact⟨a,h,p,q,w,e,s _ _ j,l,f,i,g,m⟩
def jy.mono(s:Tk H H')(h:jy ps H v):jy ps H' v:=by
 obtain⟨a,e,h⟩:=h;refine⟨a,e,?_⟩;obtain ⟨p,h,f,r⟩|⟨p,b,f,r⟩|⟨p,h,k,f,r⟩|⟨p,q,f,r⟩:=h
 ·exact .inl ⟨p,h,s _ _ f,r⟩
 ·exact .inr<|.inl ⟨p,b,s _ _ f,r⟩
 ·exact .inr<|.inr<|.inl ⟨p,h,k,s _ _ f,r⟩
 ·exact .inr<|.inr<|.inr ⟨p,q,s _ _ f,r⟩
def EF{ps:Yb Yc}(h:z∈ps):J6 (.str z) (ps.map V.str)=true:=by
 show(ps.map V.str).any (λy=>tf y<|.str z)=true;rw[any_map,V7];exact⟨z,h,by exact Tz z⟩
def BR(ps:Yb Yc):(ps.map V.str).all dI=true:=by
 rw[all_map,Tv];intro z _;rfl
def all_true{f:α->Bool}{xs:Yb α}(h:∀x∈xs,f x=true):(xs.map f).all id=true:=by grind
def lV{xs:Yb V}(h:xs.length=n)(hm:(n:Int)≠m):¬decide (V.int (xs.length:Nat)=V.int m)=true:=by grind
def uF{xs:Yb V}(h:xs.length=n)(hm:(n:Int)=m):decide (V.int (xs.length:Nat)=V.int m)=true:=by grind
inductive CC  (vs:Yb V)(H:Hp)(Q:VK):Prop
 |mk(p:X4)(xs:Yb V)(m:Int)(h0:vs=[.ref p,.int m])(a:H p=some (.lst xs))(e:(xs.length:Int)<=m)(f:Q (.bl true) H)
def iF  :Sp:=λa H Q _=>CC  a H Q
inductive DI  (vs:Yb V)(H:Hp)(Q:VK):Prop
 |mk(p:X4)(xs:Yb V)(m:Int)(h0:vs=[.ref p,.int m])(a:H p=some (.tup xs))(e:(xs.length:Int)=m)(f:Q (.bl true) H)
def pf  :Sp:=λa H Q _=>DI  a H Q
inductive B3  (vs:Yb V)(H:Hp)(Q:VK):Prop
 |mk(p:X4)(ps:Yb Yc)(z:Yc)(h0:vs=[.ref p,.str z])(f:H p=some (.lst (ps.map V.str)))(a:gd ps)(g:z∈ps)(e:∀H',cJ H H'->Q (.bl true) H')
def jH  :Sp:=λa H Q _=>B3  a H Q
inductive CA  (vs:Yb V)(H:Hp)(Q:VK):Prop
 |mk(p:X4)(ps:Yb Yc)(y z:Yc)(h0:vs=[.ref p,.str y,.str z])(g:H p=some (.lst (ps.map V.str)))(e:gd ps)(i:y∈ps)(f:z∈ps)(h:y≠z)(a:∀H',cJ H H'->Q (.bl true) H')
def p9  :Sp:=λa H Q _=>CA  a H Q
inductive Hw  (vs:Yb V)(H:Hp)(Q:VK):Prop
 |mk(t:X4)(ws:Yb Yc)(h0:vs=[.ref t])(f:H t=some (.tup (ws.map V.str)))(a:1<=ws.length)(h:ws.length<=6)(e:(∀x∈ws,d7 x=true))(g:∀H',cJ H H'->Q (.bl true) H')
def EO  :Sp:=λa H Q _=>Hw  a H Q
inductive F6  (vs:Yb V)(H:Hp)(Q:VK):Prop
 |mk(p:X4)(ps:Yb Yc)(v:V)(h0:vs=[.ref p,v])(f:H p=some (.lst (ps.map V.str)))(a:gd ps)(g:dU ps H v)(e:∀H',cJ H H'->Q (.bl true) H')
def AB  :Sp:=λa H Q _=>F6  a H Q
inductive LM  (vs:Yb V)(H:Hp)(Q:VK):Prop
 |mk (w:Yc) (h0:vs=[.str w]) (a:(w= "both" \/w= "one")) (e:∀H',cJ H H'->Q (.bl true) H')
def EZ  :Sp:=λa H Q _=>LM  a H Q
inductive HL  (vs:Yb V)(H:Hp)(Q:VK):Prop
 |mk(p:X4)(ps:Yb Yc)(v:V)(h0:vs=[.ref p,v])(f:H p=some (.lst (ps.map V.str)))(a:gd ps)(g:fg ps H v)(e:∀H',cJ H H'->Q (.bl true) H')
def DH  :Sp:=λa H Q _=>HL  a H Q
inductive Hd  (vs:Yb V)(H:Hp)(Q:VK):Prop
 |mk(h k:Int)(h0:vs=[.int h,.int k])(f:dC h)(a:dC k)(g:h<=k)(e:Q (.bl true) H)
def DE  :Sp:=λa H Q _=>Hd  a H Q
inductive E2  (vs:Yb V)(H:Hp)(Q:VK):Prop
 |mk (p:X4) (ps:Yb Yc) (a y:Yc) (b:V) (h0:vs=[.ref p,.str a,.str y,b]) (g:H p=some (.lst (ps.map V.str))) (e:gd ps) (j:y∈ps) (f:((a= "barred" /\∃z,b=.str z/\z∈ps/\y≠z)\/(a= "unheard" /\(b=.non\/∃h:Int,b=.int h/\dC h))\/(a= "knew" /\∃h:Int,b=.int h/\dC h))) (i:∀H',cJ H H'->Q (.bl true) H')
def BI  :Sp:=λa H Q _=>E2  a H Q
inductive Cu  (vs:Yb V)(H:Hp)(Q:VK):Prop
 |mk(p:X4)(ps:Yb Yc)(v:V)(h0:vs=[.ref p,v])(f:H p=some (.lst (ps.map V.str)))(a:gd ps)(g:jy ps H v)(e:∀H',cJ H H'->Q (.bl true) H')
def yt  :Sp:=λa H Q _=>Cu  a H Q
inductive zC  (vs:Yb V)(H:Hp)(Q:VK):Prop
 |mk(p:X4)(ps:Yb Yc)(h0:vs=[.ref p])(e:H p=some (.lst (ps.map V.str)))(a:gd ps)(f:∀H',cJ H H'->Q (.bl true) H')
def ug  :Sp:=λa H Q _=>zC  a H Q
inductive GC  (M:Yb Yc->Hp->V->Prop)(n:Nat)(vs:Yb V)(H:Hp)(Q:VK):Prop
 |mk(p q:X4)(ps:Yb Yc)(xs:Yb V)(h0:vs=[.ref p,.ref q])(g:H p=some (.lst (ps.map V.str)))(e:gd ps)(i:H q=some (.lst xs))(f:xs.length<=n)(h:(∀v∈xs,M ps H v))(a:∀H',cJ H H'->Q (.bl true) H')
def m8  (M:Yb Yc->Hp->V->Prop)(n:Nat):Sp:=λa H Q _=>GC M n a H Q
def oZ(p s t y:X4):Yb (Yc×V):=gB "kept_sayings" (.ref y) (gB "kept_talks" (.ref t) (gB "kept_sights" (.ref s) (gB "kept_persons" (.ref p) [])))
def Nk(p s t y:X4):(oZ p s t y).lookup ("kept_persons" :Yc)=some (.ref p):=by
 unfold oZ;rw[cW,R7<|by decide+kernel,cW,R7<|by decide+kernel,cW,R7<|by decide+kernel,cW,Sb rfl]
def NX(p s t y:X4):(oZ p s t y).lookup ("kept_sights" :Yc)=some (.ref s):=by
 unfold oZ;rw[cW,R7<|by decide+kernel,cW,R7<|by decide+kernel,cW,Sb rfl]
def Kj(p s t y:X4):(oZ p s t y).lookup ("kept_talks" :Yc)=some (.ref t):=by
 unfold oZ;rw[cW,R7<|by decide+kernel,cW,Sb rfl]
def NJ(p s t y:X4):(oZ p s t y).lookup ("kept_sayings" :Yc)=some (.ref y):=by
 unfold oZ;rw[cW,Sb rfl]
def fm (p s t y:X4){m:Yc}(a:¬m= "kept_sayings") (e:¬m= "kept_talks") (g:¬m= "kept_sights") (f:¬m= "kept_persons"):(oZ p s t y).lookup m=none:=by
 unfold oZ;rw[cW,R7 a,cW,R7 e,cW,R7 g,cW,R7 f];rfl
structure Parts(H:Hp)(ps:Yb Yc)(ss ts ys:Yb V):Prop where
 ok:gd ps
 sl:ss.length<=24
 sg:∀v∈ss,dU ps H v
 tl:ts.length<=120
 tg:∀v∈ts,fg ps H v
 yl:ys.length<=60
 yg:∀v∈ys,jy ps H v
def Parts.mono(s:Tk H H')(g:Parts H ps ss ts ys):Parts H' ps ss ts ys:=
 ⟨g.ok,g.sl,λv h=>(g.sg v h).mono s,g.tl,λv h=>(g.tg v h).mono s,g.yl,λv h=>(g.yg v h).mono s⟩
structure Bk(C:X4)(H:Hp)(x p s t y:X4)(ps:Yb Yc)(ss ts ys:Yb V):Prop where
 ob:∃dx,H x=some (.ins C dx (oZ p s t y))
 hp:H p=some (.lst (ps.map V.str))
 hs:H s=some (.lst ss)
 ht:H t=some (.lst ts)
 hy:H y=some (.lst ys)
def Bk.mono(m:cJ H H')(b:Bk C H x p s t y ps ss ts ys):Bk C H' x p s t y ps ss ts ys:=by
 obtain⟨⟨h,e⟩,g,a,i,f⟩:=b;exact⟨⟨h,m _ _ e⟩,m _ _ g,m _ _ a,m _ _ i,m _ _ f⟩
inductive Ic  (C:X4)(vs:Yb V)(H:Hp)(Q:VK):Prop
 |mk(x h p a b c:X4)(ps:Yb Yc)(ss e ys:Yb V)(h0:vs=[.ref x,.ref p,.ref a,.ref b,.ref c])(l:H x=some (.ins C h []))(i:H p=some (.lst (ps.map V.str)))(q:H a=some (.lst ss))(j:H b=some (.lst e))(n:H c=some (.lst ys))(r:Parts H ps ss e ys)(m:∀(g s' t' f:X4)(H':Hp),H g=none->H s'=none->H t'=none->H f=none->Bk C H' x g s' t' f ps ss e ys->(∀d o,H d=some o->d≠x->H' d=some o)->Q .non H')
def DU  (C:X4):Sp:=λa H Q _=>Ic C a H Q
structure Txt(K:Frag)(mg:Yh)(kw C:X4):Prop where
 b_isinstance:mg "isinstance" =none
 b_int:mg "int" =none
 b_bool:mg "bool" =none
 b_str:mg "str" =none
 b_len:mg "len" =none
 b_all:mg "all" =none
 b_range:mg "range" =none
 b_list:mg "list" =none
 b_tuple:mg "tuple" =none
 b_set:mg "set" =none
 b_zip:mg "zip" =none
 b_enumerate:mg "enumerate" =none
 b_min:mg "min" =none
 b_max:mg "max" =none
 b_any:mg "any" =none
 b_sorted:mg "sorted" =none
 b_dict:mg "dict" =none
 b_sum:mg "sum" =none
 b_reversed:mg "reversed" =none
 kwm:mg "KEPT_WORDS" =some (.ref kw)
 kwt:∃(o:Obj) (Yl:Array X3) (n:Nat),K.lookup kw=some o/\o.cls=.type "tuple" /\o.data=.seq Yl n/\Yl.size<=sizeLine/\Vals (kept.map V.str) Yl.toList
 g_MOST_PERSONS:∃u,mg "MOST_PERSONS" =some u/\RelV (.int 24) u
 g_MOST_SIGHTS:∃u,mg "MOST_SIGHTS" =some u/\RelV (.int 24) u
 g_MOST_TALKS:∃u,mg "MOST_TALKS" =some u/\RelV (.int 120) u
 g_MOST_SAYINGS:∃u,mg "MOST_SAYINGS" =some u/\RelV (.int 60) u
 g_MOST_WORDS:∃u,mg "MOST_WORDS" =some u/\RelV (.int 6) u
 cl:vm K C
 nP:ir K C "kept_persons"
 nS:ir K C "kept_sights"
 nT:ir K C "kept_talks"
 nY:ir K C "kept_sayings"
def RR:cL ["thing"] ["thing"] (cK i9):={}
def EB (F:oI K "is_whole" "is_whole" i9 f fd) (T:Txt K mg kw C):dZ P w K mg base mH 1 f fd ["thing"] (GO K):=by
 refine F.ok RR (λi H Q E h=>?_) λj A outer s H i Q E hr h=>?_
 ·obtain⟨x,t,rfl,_⟩:=h
  rfl
 ·obtain⟨x,t,rfl,ty,a,k⟩:=h
  refine⟨_,mC (lH (uA (iM mw rfl T.b_isinstance cQ<|fQ (pv 0)<|fQ (pE (v:=.ty "int") rfl T.b_int y4 rfl) lP)
   (uX<|ro<|iM mw rfl T.b_isinstance cQ<|fQ (pv 0)<|fQ (pE (v:=.ty "bool") rfl T.b_bool AS rfl) lP))),?_⟩
  refine⟨_,rfl,_,_,_,_,rfl,ty,fR a<|by decide,_,rfl,dJ (λg=>?_) λg=>?_⟩
  ·refine⟨_,rfl,_,_,_,_,rfl,ty,fR a<|by decide,_,rfl,?_⟩
   have e:(!EA t "bool")=(t == "int"):=by
    simp only[tys,mem_cons,not_mem_nil,or_false]at a;rcases a with rfl|rfl|rfl|rfl|rfl|rfl|rfl<;>first|rfl| (exfalso;revert g;decide)
   rw[e];exact k
  ·have e:(t == "int")=false:=by
    simp only[tys,mem_cons,not_mem_nil,or_false]at a;rcases a with rfl|rfl|rfl|rfl|rfl|rfl|rfl<;>first|rfl| (exfalso;revert g;decide)
   rw[<-e];exact k
def RO:cL ["thing"] ["thing"] (cK m9):={}
def GL (F:oI K "is_hour" "is_hour" m9 f fd) (g:Df K mg "is_whole" i9 ["thing"] fW fdW) (T:Txt K mg kw C):dZ P w K mg base mH 2 f fd ["thing"] (nR K):=by
 refine F.ok RO (λl H Q E h=>?_) λo A outer s H l Q E hr h=>?_
 ·obtain⟨x,t,rfl,_⟩:=h
  rfl
 ·obtain⟨x,t,rfl,ty,n,k⟩:=h
  refine⟨_,mC (lH (uA (uT (EB g.fn T) hr rfl g.nm g.fn.kp g.bi .nil Bc<|fQ (pv 0) lP)
   (uX<|j3 wg wg oA (pv 0)<|Jp ou oA oA))),?_⟩
  refine⟨_,rfl,x,t,rfl,ty,n,_,rfl,dJ (λj=>?_) λj=>?_⟩
  ·have e:=eq_of_beq j
   subst e;obtain⟨i,rfl⟩:=ty_int ty
   ·refine⟨_,rfl,_,_,rfl,rfl,_,rfl,dJ (λm=>?_) λm=>?_⟩
    ·refine⟨_,_,rfl,rfl,⟨by decide,by decide,by decide⟩,_,_,rfl,rfl,?_⟩
     have a:wY (.int i)=decide (i<=10^Int.toNat 18):=by
      show(decide (0<=i)&&decide (i<=10^Int.toNat 18))=_;grind
     rwa [a]at k
    ·have a:wY (.int i)=false:=by
      show(decide (0<=i)&&decide (i<=10^Int.toNat 18))=_;grind
     rwa [a]at k
  ·have a:wY x=false:=by
    cases x with
    |int i=>exact absurd (UJ.mpr<|CQ ty) j
    |_=>rfl
   rwa [a]at k
def RA:cL ["thing"] ["thing"] (cK kJ):={}
def HM {f:X4}{fd:FuncData}(F:oI K "is_name" "is_name" kJ f fd) (T:Txt K mg kw C):dZ P w K mg base mH 1 f fd ["thing"] (qV K):=by
 refine F.ok RA (λq H Q E h=>?_) λJ A outer s H q Q E hr h=>?_
 ·obtain⟨x,t,rfl,_⟩:=h
  rfl
 ·obtain⟨x,t,rfl,ty,n,B,k⟩:=h
  refine⟨_,wu (Ku (PW.pt (Kk (yR<|zL<|iM mw rfl T.b_isinstance cQ<|fQ (pv 0)<|fQ (pE (v:=.ty "str") rfl T.b_str ze rfl) lP)
    (EK<|yR<|iJ wg wg oA (iM gx rfl T.b_len cZ<|fQ (pv 0) lP) oA))) (mC<|lH Kh) Aq)
   (mC (lH (uA (iM (ud rfl) rfl T.b_all m7 (fQ (Ef (sc:=cK kJ) (N:=["thing"]) (is:=[]) (ns:=[]) rfl (Mw<|pv 0)
     {} (λ_ _ _ _ _=>j3 uj uj zg (pv 0) zg)) lP))
    (uX<|Bq gv (pv 0) (kO (v:=.ref kw) rfl T.kwm rfl)<|by with_unfolding_all rfl)))),?_⟩
  refine⟨_,rfl,_,_,_,_,rfl,ty,fR n<|by decide,_,rfl,?_⟩;by_cases m:t= "str"
  ·subst m
   obtain⟨z,rfl⟩:=ty_str ty
   ·have g:=B z rfl
    refine dS ?_;refine⟨_,rfl,z,rfl,g,_,_,rfl,rfl,_,rfl,?_⟩;by_cases j:1<=(z.length:Int)
    ·rw[dT0 j]
     refine eU ⟨_,_,rfl,rfl,_,rfl,?_⟩;by_cases i:(z.length:Int)<=12
     ·rw[dT0 i]
      refine dS ?_;refine⟨_,rfl,z,rfl,MM (λv=>.bl<|jK v) g (λv M L G I l=>?_) λD p=>?_⟩
      ·obtain⟨c,_,rfl⟩:=SQ.mp G
       refine⟨_,rfl,_,_,rfl,rfl,_,rfl,dJ (λh=>⟨_,_,rfl,rfl,?_⟩) λh=>?_⟩
       ·have e:jK (.str ⟨#[c]⟩)= !decide (("z" :Yc).cps.toList<(⟨#[c]⟩:Yc).cps.toList):=by
         show(!decide ((⟨#[c]⟩:Yc).cps.toList<("a" :Yc).cps.toList)&&_)=_;rw[h,To]
        rw[e]at l;exact l
       ·have e:jK (.str ⟨#[c]⟩)=false:=by
         show(!decide ((⟨#[c]⟩:Yc).cps.toList<("a" :Yc).cps.toList)&&_)=_;rw[Td.mpr h,Tw]
        rw[e]at l;exact l
      ·refine⟨D,(signs z).map jK,rfl,cP.of<|cG.trans<|by rw[Ut];rfl,_,rfl,?_⟩
       have e:d7 z=(((signs z).map jK).all id && !J6 (.str z) (kept.map V.str)):=by
        unfold d7;rw[dT0 j,dT0 i,To,To]
       have r:=k _<|cJ.upd (o:=.lst<|((signs z).map λv=>V.bl<|jK v)) p;have a:Q (.bl<|d7 z) _:=r;rw[e]at a;refine dJ (λh=>?_) λh=>?_
       ·rw[h,To]at a
        refine⟨_,rfl,kw,_,rfl,.inr<|.inr T.kwt,rfl,?_,a⟩
        decide+kernel
       ·rw[Td.mpr h,Tw]at a
        exact a
     ·rw[Se i]
      refine eU ?_;have e:d7 z=false:=by
       unfold d7;rw[Se i,Tw,TX]
      have a:Q (.bl<|d7 z) H:=k H<|cJ.refl H;rw[e]at a;exact a
    ·rw[Se j]
     refine dS ⟨_,rfl,eU ?_⟩;have e:d7 z=false:=by
      unfold d7;rw[Se j,Tw]
     have a:Q (.bl<|d7 z) H:=k H<|cJ.refl H;rw[e]at a;exact a
  ·have e:EA t "str" =false:=by
    unfold EA;rw[TZ.mpr m,Bool.false_or];exact TX _
   rw[e];refine eU<|eU ?_;have y:wW x=false:=by
    cases x with
    |str z=>exact absurd (C7 ty) m
    |_=>rfl
   have a:=k H<|cJ.refl H;rw[y]at a;exact a
def sN(h0:0<=i)(e:i<xs.length):∃v,mZ xs i=some v/\v∈xs:=by
 have a:i.toNat<xs.length:=by lia
 refine⟨xs[i.toNat],?_,UN a⟩;have:=c8 (xs:=xs) (j:=i.toNat) (v:=xs[i.toNat]) (by simp[a]);grind
def oj:cL ["thing","most"] ["thing","most"] (cK gq):={}
def yK (D:Df K mg "is_list_up_to" gq ["thing","most"] f fd) (T:Txt K mg kw C):Gd P w K mg base 1 "is_list_up_to" iF:=by
 refine aJ D oj λX H n Q E a h=>?_;obtain⟨p,j,m,rfl,e,l,k⟩:=h;obtain⟨g,i,_⟩:=a.fA [0,1];refine⟨_,ag<|aD<|aU (aH (a.b T.b_isinstance) bJ cQ<|aE (aa g)<|J.ty (a.b T.b_list) dQ)<|aY<|aZ bB (aH (a.b T.b_len) aV cZ<|ao<|aa g) (aa i)<|cM _,_,rfl,_,_,_,_,rfl,.lst e,kI,_,rfl,iP ?_⟩;refine⟨_,rfl,p,j,rfl,.inl<|cP.of e,_,rfl,_,_,rfl,rfl,?_⟩;grind
def qc:cL ["thing","length"] ["thing","length"] (cK iu):={}
def Cb (D:Df K mg "is_tuple_of" iu ["thing","length"] f fd) (T:Txt K mg kw C):Gd P w K mg base 1 "is_tuple_of" pf:=by
 refine aJ D qc λX H n Q E a h=>?_;obtain⟨p,j,m,rfl,e,l,k⟩:=h;obtain⟨g,i,_⟩:=a.fA [0,1];refine⟨_,ag<|aD<|aU (aH (a.b T.b_isinstance) bJ cQ<|aE (aa g)<|J.ty (a.b T.b_tuple) qz)<|aY<|aZ aS (aH (a.b T.b_len) aV cZ<|ao<|aa g) (aa i)<|cM _,_,rfl,_,_,_,_,rfl,.tup e,kI,_,rfl,iP ?_⟩;refine⟨_,rfl,p,j,rfl,.inr<|fc.of e,_,rfl,rfl,?_⟩;grind
def vQ:cL ["persons","thing"] ["persons","thing"] (cK jQ):={}
def CF {fd:FuncData}(D:Df K mg "is_person" jQ ["persons","thing"] f fd) (a:Gd P w K mg base 1 "is_name" (qV K)):Gd P w K mg base 2 "is_person" jH:=by
 refine aJ D vQ λX H r Q E e h=>?_;obtain⟨p,n,z,rfl,m,o,l,k⟩:=h;have j:=o.nm z l;obtain⟨q,g,_⟩:=e.fA [0,1];refine⟨_,ag<|aD<|aU (au (e.eO a rfl (by lia)<|by decide)<|ao<|aa g)<|aY<|aZ J.iK (aa g) (aa q) cq,_,rfl,.str z,"str",rfl,.str z,by decide,nF j,λH1 i=>⟨_,rfl,fD j ?_⟩⟩;refine⟨_,rfl,_,rfl,p,_,rfl,.inl<|cP.of<|i _ _ m,rfl,BR n,?_⟩;rw[EF l];exact k H1 i
def jz:cL ["persons","one","other"] ["persons","one","other"] (cK eD):={}
def BM (D:Df K mg "are_unlike_persons" eD ["persons","one","other"] f fd) (e:Gd P w K mg base 2 "is_person" jH):Gd P w K mg base 3 "are_unlike_persons" p9:=by
 refine aJ D jz λX H A Q E m h=>?_;obtain⟨p,i,y,z,rfl,l,o,v,s,B,k⟩:=h;have a:=m.eO e rfl (by lia) (by decide);obtain⟨g,q,j,_⟩:=m.fA [0,1,2];refine⟨_,ag<|aD<|aU (au a<|aE (aa g)<|aa q)<|aU (au a<|aE (aa g)<|aa j)<|aY<|aZ cu (aa q) (aa j)<|cM _,_,rfl,_,rfl,p,i,y,rfl,l,o,v,λH1 n=>⟨_,rfl,eU ?_⟩⟩;refine⟨_,rfl,_,rfl,p,i,z,rfl,n _ _ l,o,s,λx r=>⟨_,rfl,eU ?_⟩⟩;refine⟨_,rfl,_,rfl,rfl,?_⟩;rw[Se<|by grind];exact k x<|n.trans r
def zi:cL ["thing"] ["thing"] (cK oq):={}
def Ji {fd:FuncData}(D:Df K mg "is_tale" oq ["thing"] f fd) (T:Txt K mg kw C) (j:Gd P w K mg base 1 "is_name" (qV K)):Gd P w K mg base 2 "is_tale" EO:=by
 refine aJ D zi λX H I Q E a h=>?_;obtain⟨t,e,rfl,g,B,F,n,k⟩:=h;have L:(e.map V.str).length=e.length:=R5 ..;have p:(e.map V.str).length<=sizeLine:=by
  have:sizeLine=16777216:=Sq;lia
 obtain⟨i,_⟩:=a.fA [0];refine⟨_,(af (aK (a7<|bI (bp<|bo<|aH (a.b T.b_isinstance) bJ cQ<|aE (aa i)<|J.ty (a.b T.b_tuple) qz)<|bR<|bp<|J.iJ bB bB ae (aH (a.b T.b_len) aV cZ<|ao<|aa i) (cF a T.g_MOST_WORDS rfl<|by decide) iZ)
 (ag<|aD a8)
 aL)
 (ag<|aD<|aH (a.b T.b_all) (cz a.calm) m7<|ao<|cD (is:=[]) (ns:=[]) a.calm (J.y6<|aa i) {} (λ_ _ _ _ _=>au ((a.rR j (by lia)<|by decide).lc rfl)<|ao<|cw rfl (by decide)<|by decide) a.hsc a.hN)),?_⟩
 refine⟨_,rfl,_,_,_,_,rfl,.tup g,kI,_,rfl,iN ?_⟩;refine⟨_,rfl,t,_,rfl,.inr<|fc.of g,_,_,rfl,rfl,_,rfl,fD (dT0<|by lia) ⟨_,_,rfl,rfl,_,rfl,?_⟩⟩;rw[dT0<|show((e.map V.str).length:Int)<=6 by lia];refine dS ⟨_,rfl,t,rfl,⟨_,fc.of g⟩,IV (λv=>.bl<|wW v) (fc.of g) p (λv N M y m A=>?_) λq z G m l=>?_⟩
 ·obtain⟨x,r,rfl⟩:=SQ.mp y
  exact⟨_,rfl,.str x,"str",rfl,.str x,by decide,nF<|n x r,λo s=>A o s⟩
 ·refine⟨q,e.map d7,rfl,cP.of<|l.trans<|by rw[Ut,Ut];rfl,?_⟩
  rw[all_true n];exact k z m
def yq:cL ["persons","thing"] ["persons","thing"] (cK l6):={}
def FK (D:Df K mg "is_sight" l6 ["persons","thing"] f fd) (q:Gd P w K mg base 1 "is_tuple_of" pf) (n:Gd P w K mg base 2 "is_person" jH)
  (l:Gd P w K mg base 2 "is_hour" (nR K)) (r:Gd P w K mg base 2 "is_tale" EO):Gd P w K mg base 3 "is_sight" AB:=by
 refine aJ D yq λX H N Q E e h=>?_;obtain⟨p,A,v,rfl,I,M,⟨a,z,hr,C,F,rfl,i,G,m,o,s,y,J⟩,k⟩:=h;obtain⟨x,j,_⟩:=e.fA [0,1];refine⟨_,(af (aK (bp<|bo<|au (e.eO q rfl (by lia)<|by decide)<|aE (aa j) ae)
 (ag<|aD a8)
 aL)
 (ag<|aD<|aU (au (e.eO n rfl (by lia)<|by decide)<|aE (aa x)<|ah aG (aa j) ae ak)<|aU (au (e.eO l rfl (by lia)<|by decide)<|ao<|ah aG (aa j) ae ak)<|aY<|au (e.eO r rfl (by lia)<|by decide)<|ao<|ah aG (aa j) ae ak)),?_⟩
 refine⟨_,rfl,a,_,3,rfl,i,rfl,_,rfl,dS ?_⟩;refine⟨_,rfl,_,rfl,xT i rfl ⟨p,A,z,rfl,I,M,G,λH1 g=>⟨_,rfl,eU ?_⟩⟩⟩;refine⟨_,rfl,xT (g _ _ i) rfl ⟨.int hr,"int",rfl,.int hr,by decide,_,rfl,fD (iE m) ?_⟩⟩;exact⟨_,rfl,xT (g _ _ i) rfl ⟨C,F,rfl,g _ _ o,s,y,J,λL B=>k L<|g.trans B⟩⟩
def C8:cL ["thing"] ["thing"] (cK p0):={}
def MK (D:Df K mg "is_way" p0 ["thing"] f fd) (T:Txt K mg kw C):Gd P w K mg base 1 "is_way" EZ:=by
 refine aJ D C8 λX H l Q E a h=>?_;obtain⟨z,rfl,j,k⟩:=h;obtain⟨g,_⟩:=a.fA [0];refine⟨_,ag<|aD<|aU (aH (a.b T.b_isinstance) bJ cQ<|aE (aa g)<|J.ty (a.b T.b_str) ze)<|aY<|aZ J.iK (aa g) (aN<|aE aw aw) J.Em,_,rfl,_,_,_,_,rfl,.str z,kI,_,rfl,iP ?_⟩;refine⟨_,rfl,by decide,λq i=>⟨q,_,rfl,.inr<|fc.of cG,rfl,by decide+kernel,?_⟩⟩;have e:J6 (.str z) [.str "both",.str "one"]=true:=by
  rcases j with rfl|rfl<;>decide+kernel
 rw[e];exact k _<|cJ.upd i
def yX:cL ["persons","thing"] ["persons","thing"] (cK m6):={}
def GA (D:Df K mg "is_talk" m6 ["persons","thing"] f fd) (o:Gd P w K mg base 1 "is_tuple_of" pf) (m:Gd P w K mg base 3 "are_unlike_persons" p9)
  (j:Gd P w K mg base 2 "is_hour" (nR K)) (n:Gd P w K mg base 1 "is_way" EZ):Gd P w K mg base 4 "is_talk" DH:=by
 refine aJ D yX λX H M Q E e h=>?_;obtain⟨p,x,v,rfl,C,L,⟨a,hr,y,z,r,rfl,g,l,I,B,G,F⟩,k⟩:=h;obtain⟨s,i,_⟩:=e.fA [0,1];refine⟨_,(af (aK (bp<|bo<|au (e.eO o rfl (by lia)<|by decide)<|aE (aa i) ae)
 (ag<|aD a8)
 aL)
 (ag<|aD<|aU (au (e.eO j rfl (by lia)<|by decide)<|ao<|ah aG (aa i) ae ak)<|aU (au (e.eO m rfl (by lia)<|by decide)<|aO (aa s) (ah aG (aa i) ae ak)<|ah aG (aa i) ae ak)<|aY<|au (e.eO n rfl (by lia)<|by decide)<|ao<|ah aG (aa i) ae ak)),?_⟩
 refine⟨_,rfl,a,_,4,rfl,g,rfl,_,rfl,dS ?_⟩;refine⟨_,rfl,xT g rfl ⟨.int hr,"int",rfl,.int hr,by decide,_,rfl,fD (iE l) ?_⟩⟩;refine⟨_,rfl,_,rfl,xT g rfl ⟨_,rfl,xT g rfl ⟨p,x,y,z,rfl,C,L,I,B,G,λH1 q=>⟨_,rfl,eU ?_⟩⟩⟩⟩;exact⟨_,rfl,xT (q _ _ g) rfl ⟨r,rfl,F,λJ A=>k J<|q.trans A⟩⟩
def zD:cL ["begin","end"] ["begin","end"] (cK oh):={}
def Gv (D:Df K mg "is_span" oh ["begin","end"] f fd) (g:Gd P w K mg base 2 "is_hour" (nR K)):Gd P w K mg base 3 "is_span" DE:=by
 refine aJ D zD λX H o Q E i h=>?_;obtain⟨a,b,rfl,n,m,p,k⟩:=h;have e:=i.eO g rfl (by lia) (by decide);obtain⟨l,j,_⟩:=i.fA [0,1];refine⟨_,ag<|aD<|aU (au e<|ao<|aa l)<|aU (au e<|ao<|aa j)<|aY<|aZ bB (aa l) (aa j)<|cM _,_,rfl,.int a,"int",rfl,.int a,by decide,_,rfl,fD (iE n) ?_⟩;refine⟨_,rfl,.int b,"int",rfl,.int b,by decide,_,rfl,fD (iE m) ?_⟩;refine⟨_,rfl,_,rfl,_,_,rfl,rfl,?_⟩;grind
def lM:cL ["persons","kind","person","behind"] ["persons","kind","person","behind"] (cK fE):={}
def Ge (D:Df K mg "is_short_saying" fE ["persons","kind","person","behind"] f fd) (q:Gd P w K mg base 3 "are_unlike_persons" p9)
  (n:Gd P w K mg base 2 "is_person" jH) (l:Gd P w K mg base 2 "is_hour" (nR K)):Gd P w K mg base 4 "is_short_saying" BI:=by
 refine aJ D lM λX H L Q E g h=>?_;obtain⟨p,m,I,y,b,rfl,o,s,r,C,k⟩:=h;have e:=g.eO l rfl (by lia) (by decide);obtain⟨x,v,A,j,_⟩:=g.fA [0,1,2,3];refine⟨_,(af (aK (aI aS (aa v) aw<|cM _)
 (ag<|aD<|au (g.eO q rfl (by lia)<|by decide)<|aO (aa x) (aa A)<|aa j)
 aL)
 (af (aK (bp<|bo<|au (g.eO n rfl (by lia)<|by decide)<|aE (aa x)<|aa A)
 (ag<|aD a8)
 aL)
 (af (aK (aI aS (aa v) aw<|cM _)
 (ag<|aD<|J.Bh (aZ J.pQ (aa j) bS<|cM _)<|aY<|au e<|ao<|aa j)
 aL)
 (ag<|aD<|aU (aZ aS (aa v) aw<|cM _)<|aY<|au e<|ao<|aa j)))),?_⟩
 refine⟨_,rfl,rfl,_,rfl,?_⟩;obtain ⟨rfl,z,rfl,F,G⟩|⟨rfl,B⟩|⟨rfl,h,rfl,a⟩:=C
 ·exact fD (dT0 rfl) ⟨_,rfl,_,rfl,_,rfl,p,m,y,z,rfl,o,s,r,F,G,k⟩
 ·refine iN ⟨_,rfl,_,rfl,p,m,y,rfl,o,s,r,λH1 i=>⟨_,rfl,dS ?_⟩⟩
  refine⟨_,rfl,rfl,_,rfl,fD (dT0 rfl) ?_⟩;obtain rfl|⟨h,rfl,a⟩:=B
  ·exact⟨_,rfl,rfl,_,rfl,fD (dT0 rfl)<|k H1 i⟩
  ·refine⟨_,rfl,rfl,_,rfl,gQ (by grind) ?_⟩
   refine⟨_,rfl,.int h,"int",rfl,.int h,by decide,?_⟩;rw[iE a];exact k H1 i
 ·refine iN ⟨_,rfl,_,rfl,p,m,y,rfl,o,s,r,λH1 i=>⟨_,rfl,dS ?_⟩⟩
  refine⟨_,rfl,rfl,_,rfl,iN ?_⟩;refine⟨_,rfl,rfl,_,rfl,fD (dT0 rfl) ?_⟩;refine⟨_,rfl,.int h,"int",rfl,.int h,by decide,?_⟩;rw[iE a];exact k H1 i
def vM:cL ["persons","thing"] ["persons","thing"] (cK jU):={}
def CP {f:X4}(D:Df K mg "is_saying" jU ["persons","thing"] f fd) (T:Txt K mg kw C) (B:Gd P w K mg base 2 "is_person" jH) (A:Gd P w K mg base 3 "is_span" DE)
  (G:Gd P w K mg base 4 "is_short_saying" BI):Gd P w K mg base 5 "is_saying" yt:=by
 refine aJ D vM λX H U Q E i h=>?_;obtain⟨p,r,v,rfl,s,x,⟨a,rfl,O⟩,k⟩:=h;obtain⟨L,g,_⟩:=i.fA [0,1];have q:=i.b T.b_isinstance;have l:=i.b T.b_len;refine⟨_,(af (aK (a7<|bI (bp<|bo<|aH q bJ cQ<|aE (aa g)<|J.ty (i.b T.b_tuple) qz)<|bI (aI aS (aH l aV cZ<|ao<|aa g) ae<|cM _)<|bR<|bp<|bo<|aH q bJ cQ<|aE (ah aG (aa g) ae ak)<|J.ty (i.b T.b_str) ze)
 (ag<|aD a8)
 aL)
 (af (aK (aI aS (aH l aV cZ<|ao<|aa g) ae<|cM _)
 (ag<|aD<|aU (aZ aS (ah aG (aa g) ae ak) aw<|cM _)<|aU (au (i.eO B rfl (by lia)<|by decide)<|aE (aa L)<|ah aG (aa g) ae ak)<|aY<|au (i.eO A rfl (by lia)<|by decide)<|aE (ah aG (aa g) ae ak)<|ah aG (aa g) ae ak)
 aL)
 (ag<|aD<|aU (aZ aS (aH l aV cZ<|ao<|aa g) ae<|cM _)<|aY<|au (i.eO G rfl (by lia)<|by decide)<|bL (aa L) (ah aG (aa g) ae ak) (ah aG (aa g) ae ak)<|ah aG (aa g) ae ak))),?_⟩
 obtain ⟨y,h,e,m,j⟩|⟨y,b,e,m,N⟩|⟨y,h,M,e,m,j,o,I⟩|⟨y,z,e,m,R,S⟩:=O
 ·refine⟨_,rfl,_,_,_,_,rfl,.tup e,kI,_,rfl,iN ?_⟩
  refine⟨_,rfl,a,_,rfl,.inr<|fc.of e,rfl,_,rfl,gQ (lV (n:=3) rfl<|by decide) ?_⟩;refine⟨_,rfl,xT e rfl ⟨_,_,_,_,rfl,.str _,kI,_,rfl,iN ?_⟩⟩;refine⟨_,rfl,a,_,rfl,.inr<|fc.of e,rfl,_,rfl,gQ (lV (n:=3) rfl<|by decide) ?_⟩;refine⟨_,rfl,a,_,rfl,.inr<|fc.of e,rfl,_,rfl,fD (uF (n:=3) rfl<|by decide) ?_⟩;exact⟨_,rfl,_,rfl,xT e rfl ⟨_,rfl,xT e rfl ⟨_,rfl,xT e rfl ⟨p,r,_,y,_,rfl,s,x,m,.inr<|.inr ⟨rfl,h,rfl,j⟩,k⟩⟩⟩⟩
 ·refine⟨_,rfl,_,_,_,_,rfl,.tup e,fR (T:= "tuple") (by decide)<|by decide,_,rfl,iN ?_⟩
  refine⟨_,rfl,a,_,rfl,.inr<|fc.of e,rfl,_,rfl,gQ (lV (n:=3) rfl<|by decide) ?_⟩;refine⟨_,rfl,xT e rfl ⟨_,_,_,_,rfl,.str _,fR (T:= "str") (by decide)<|by decide,_,rfl,iN ?_⟩⟩;refine⟨_,rfl,a,_,rfl,.inr<|fc.of e,rfl,_,rfl,gQ (lV (n:=3) rfl<|by decide) ?_⟩;refine⟨_,rfl,a,_,rfl,.inr<|fc.of e,rfl,_,rfl,fD (uF (n:=3) rfl<|by decide) ?_⟩;exact⟨_,rfl,_,rfl,xT e rfl ⟨_,rfl,xT e rfl ⟨_,rfl,xT e rfl ⟨p,r,_,y,_,rfl,s,x,m,.inr<|.inl ⟨rfl,N⟩,k⟩⟩⟩⟩
 ·refine⟨_,rfl,_,_,_,_,rfl,.tup e,fR (T:= "tuple") (by decide)<|by decide,_,rfl,iN ?_⟩
  refine⟨_,rfl,a,_,rfl,.inr<|fc.of e,rfl,_,rfl,gQ (lV (n:=4) rfl<|by decide) ?_⟩;refine⟨_,rfl,xT e rfl ⟨_,_,_,_,rfl,.str _,fR (T:= "str") (by decide)<|by decide,_,rfl,iN ?_⟩⟩;refine⟨_,rfl,a,_,rfl,.inr<|fc.of e,rfl,_,rfl,fD (uF (n:=4) rfl<|by decide) ?_⟩;refine⟨_,rfl,xT e rfl ⟨rfl,_,rfl,iP ?_⟩⟩;refine⟨_,rfl,_,rfl,xT e rfl ⟨p,r,y,rfl,s,x,m,λH1 F=>⟨_,rfl,eU ?_⟩⟩⟩;exact⟨_,rfl,xT (F _ _ e) rfl ⟨_,rfl,xT (F _ _ e) rfl ⟨h,M,rfl,j,o,I,k H1 F⟩⟩⟩
 ·refine⟨_,rfl,_,_,_,_,rfl,.tup e,fR (T:= "tuple") (by decide)<|by decide,_,rfl,iN ?_⟩
  refine⟨_,rfl,a,_,rfl,.inr<|fc.of e,rfl,_,rfl,gQ (lV (n:=3) rfl<|by decide) ?_⟩;refine⟨_,rfl,xT e rfl ⟨_,_,_,_,rfl,.str _,fR (T:= "str") (by decide)<|by decide,_,rfl,iN ?_⟩⟩;refine⟨_,rfl,a,_,rfl,.inr<|fc.of e,rfl,_,rfl,gQ (lV (n:=3) rfl<|by decide) ?_⟩;refine⟨_,rfl,a,_,rfl,.inr<|fc.of e,rfl,_,rfl,fD (uF (n:=3) rfl<|by decide) ?_⟩;exact⟨_,rfl,_,rfl,xT e rfl ⟨_,rfl,xT e rfl ⟨_,rfl,xT e rfl ⟨p,r,_,y,_,rfl,s,x,m,.inl ⟨rfl,z,rfl,R,S⟩,k⟩⟩⟩⟩
def qM:cL ["thing"] ["thing"] (cK ip):={}
def zZ {fd:FuncData}(D:Df K mg "are_persons" ip ["thing"] f fd) (T:Txt K mg kw C) (r:Gd P w K mg base 1 "is_list_up_to" iF) (o:Gd P w K mg base 1 "is_name" (qV K)):Gd P w K mg base 2 "are_persons" ug:=by
 refine aJ D qM λX H R Q E a h=>?_;obtain⟨p,i,rfl,j,m,k⟩:=h;have B:(i.map V.str).length=i.length:=R5 ..;have F:=m.hi;have S:=m.lo;have A:(i.map V.str).length<=sizeLine:=by
  have:sizeLine=16777216:=Sq;lia
 obtain⟨l,_⟩:=a.fA [0];have g:=a.b T.b_len;refine⟨_,(af (aK (a7<|bI (bp<|bo<|au (a.eO r rfl (by lia)<|by decide)<|aE (aa l)<|cF a T.g_MOST_PERSONS rfl<|by decide)<|bR<|aI aS (aH g aV cZ<|ao<|aa l) ae<|cM _)
 (ag<|aD a8)
 aL)
 (ag<|aD<|aU (aH (a.b T.b_all) (cz a.calm) m7<|ao<|cD (is:=[]) (ns:=[]) a.calm (aX<|aa l) {} (λ_ _ _ _ _=>au ((a.rR o (by lia)<|by decide).lc rfl)<|ao<|cw rfl (by decide)<|by decide) a.hsc a.hN)<|aY<|aZ aS (aH g J.fU cZ<|ao<|bu (a.b T.b_set) (J.nQ a.calm) DA<|ao<|aa l) (aH g aV cZ<|ao<|aa l)<|cM _)),?_⟩
 refine⟨_,rfl,p,_,24,rfl,j,by lia,_,rfl,dS ?_⟩;refine⟨_,rfl,p,_,rfl,.inl<|cP.of j,rfl,_,rfl,gQ ?_ ?_⟩
 ·rw[Sw]
  intro e;injection e with e
  lia
 ·refine⟨_,rfl,p,rfl,⟨_,cP.of j⟩,l8 (λv=>.bl<|wW v) (cP.of j) A (λv W U M n N=>?_) λG Y O n s=>?_⟩
  ·obtain⟨x,I,rfl⟩:=SQ.mp M
   exact⟨_,rfl,.str x,"str",rfl,.str x,by decide,nF<|m.nm x I,λz L=>N z L⟩
  ·refine⟨G,i.map d7,rfl,cP.of<|s.trans<|by rw[Ut,Ut];rfl,_,rfl,fD (all_true m.nm) ?_⟩
   refine⟨_,rfl,p,i,rfl,cP.of<|n _ _ j,m.nd,by lia,λq y=>?_⟩;refine⟨q,i.length,rfl,cG,_,rfl,p,_,rfl,.inl<|cP.of<|(cJ.upd y) _ _<|n _ _ j,rfl,?_⟩;rw[B,dT0 rfl];exact k _<|n.trans<|cJ.upd y
def rX:cL ["persons","thing"] ["persons","thing"] (cK iV):={}
def rQ (D:Df K mg "are_sights" iV ["persons","thing"] f fd) (T:Txt K mg kw C) (j:Gd P w K mg base 1 "is_list_up_to" iF) (m:Gd P w K mg base 3 "is_sight" AB):Gd P w K mg base 4 "are_sights" (m8 dU 24):=by
 refine aJ D rX λX H N Q E a h=>?_;obtain⟨p,q,x,n,rfl,z,G,g,O,r,k⟩:=h;have y:n.length<=sizeLine:=by
  have:sizeLine=16777216:=Sq;lia
 obtain⟨L,o,_⟩:=a.fA [0,1];refine⟨_,ag<|aD<|aU (au (a.eO j rfl (by lia)<|by decide)<|aE (aa o)<|cF a T.g_MOST_SIGHTS rfl<|by decide)<|aY<|aH (a.b T.b_all) (cz a.calm) m7<|ao<|cD (is:=[0]) (ns:=["persons"]) a.calm (aX<|aa o) {} (λ_ _ _ _ _=>au ((a.rR m (by lia)<|by decide).lc rfl)<|aE (J.QI (i:=0) rfl rfl (by decide)<|by decide)<|cw rfl (by decide)<|by decide) a.hsc a.hN,?_⟩;refine⟨_,rfl,q,_,24,rfl,g,by lia,_,rfl,eU ?_⟩;refine⟨_,rfl,q,rfl,⟨_,cP.of g⟩,l8 (λ_=>.bl true) (cP.of g) y (λv S R F e I=>?_) λA U M e l=>?_⟩
 ·exact⟨_,rfl,_,rfl,p,x,v,rfl,e _ _ z,G,(r v F).mono<|Tk.of e,λs B=>I s B⟩
 ·refine⟨A,n.map λ_=>true,rfl,cP.of<|l.trans<|by simp_all,?_⟩
  grind
def vE:cL ["persons","thing"] ["persons","thing"] (cK j4):={}
def vC (D:Df K mg "are_talks" j4 ["persons","thing"] f fd) (T:Txt K mg kw C) (j:Gd P w K mg base 1 "is_list_up_to" iF) (m:Gd P w K mg base 4 "is_talk" DH):Gd P w K mg base 5 "are_talks" (m8 fg 120):=by
 refine aJ D vE λX H N Q E a h=>?_;obtain⟨p,q,x,n,rfl,z,G,g,O,r,k⟩:=h;have y:n.length<=sizeLine:=by
  have:sizeLine=16777216:=Sq;lia
 obtain⟨L,o,_⟩:=a.fA [0,1];refine⟨_,ag<|aD<|aU (au (a.eO j rfl (by lia)<|by decide)<|aE (aa o)<|cF a T.g_MOST_TALKS rfl<|by decide)<|aY<|aH (a.b T.b_all) (cz a.calm) m7<|ao<|cD (is:=[0]) (ns:=["persons"]) a.calm (aX<|aa o) {} (λ_ _ _ _ _=>au ((a.rR m (by lia)<|by decide).lc rfl)<|aE (J.QI (i:=0) rfl rfl (by decide)<|by decide)<|cw rfl (by decide)<|by decide) a.hsc a.hN,?_⟩;refine⟨_,rfl,q,_,120,rfl,g,by lia,_,rfl,eU ?_⟩;refine⟨_,rfl,q,rfl,⟨_,cP.of g⟩,l8 (λ_=>.bl true) (cP.of g) y (λv S R F e I=>?_) λA U M e l=>?_⟩
 ·exact⟨_,rfl,_,rfl,p,x,v,rfl,e _ _ z,G,(r v F).mono<|Tk.of e,λs B=>I s B⟩
 ·refine⟨A,n.map λ_=>true,rfl,cP.of<|l.trans<|by simp_all,?_⟩
  grind
def qJ:cL ["persons","thing"] ["persons","thing"] (cK ig):={}
def qu (D:Df K mg "are_sayings" ig ["persons","thing"] f fd) (T:Txt K mg kw C) (l:Gd P w K mg base 1 "is_list_up_to" iF) (j:Gd P w K mg base 5 "is_saying" yt):Gd P w K mg base 6 "are_sayings" (m8 jy 60):=by
 refine aJ D qJ λX H N Q E a h=>?_;obtain⟨p,q,x,n,rfl,z,G,g,O,r,k⟩:=h;have y:n.length<=sizeLine:=by
  have:sizeLine=16777216:=Sq;lia
 obtain⟨L,o,_⟩:=a.fA [0,1];refine⟨_,ag<|aD<|aU (au (a.eO l rfl (by lia)<|by decide)<|aE (aa o)<|cF a T.g_MOST_SAYINGS rfl<|by decide)<|aY<|aH (a.b T.b_all) (cz a.calm) m7<|ao<|cD (is:=[0]) (ns:=["persons"]) a.calm (aX<|aa o) {} (λ_ _ _ _ _=>au ((a.rR j (by lia)<|by decide).lc rfl)<|aE (J.QI (i:=0) rfl rfl (by decide)<|by decide)<|cw rfl (by decide)<|by decide) a.hsc a.hN,?_⟩;refine⟨_,rfl,q,_,60,rfl,g,by lia,_,rfl,eU ?_⟩;refine⟨_,rfl,q,rfl,⟨_,cP.of g⟩,l8 (λ_=>.bl true) (cP.of g) y (λv S R F e I=>?_) λA U M e m=>?_⟩
 ·exact⟨_,rfl,_,rfl,p,x,v,rfl,e _ _ z,G,(r v F).mono<|Tk.of e,λs B=>I s B⟩
 ·refine⟨A,n.map λ_=>true,rfl,cP.of<|m.trans<|by simp_all,?_⟩
  grind
def C9:cL ["self","persons","sights","talks","sayings"] ["self","persons","sights","talks","sayings"] (cK iO):={}
def Gm (F:oI K "__init__" "Book.__init__" iO f fd) (mk:Mk K C f) (bi:Binds K fd ["self","persons","sights","talks","sayings"] []) (nm:mg "Book" =some (.ref C)) (T:Txt K mg kw C)
  (an:Gd P w K mg base 2 "are_persons" ug) (al:Gd P w K mg base 4 "are_sights" (m8 dU 24)) (ap:Gd P w K mg base 5 "are_talks" (m8 fg 120)) (am:Gd P w K mg base 6 "are_sayings" (m8 jy 60)):
  Kd P w K mg base 7 "Book" C (DU C):=by
 refine J.Je F mk bi nm C9 (λvs H Q E h=>?_) λX H vs Q E B h=>?_
 ·obtain⟨x,q,p,a,b,c,A,ss,ts,ys,rfl,_⟩:=h
  rfl
 ·obtain⟨x,q,p,a,b,c,A,ss,ts,ys,rfl,N,hp,ha,hb,hc,g,k⟩:=h
  obtain⟨hP,sl,sg,tl,tg,yl,yg⟩:=id g;obtain⟨S0,S1,S2,S3,S4,_⟩:=B.fA [0,1,2,3,4];have l:=B.b T.b_list;obtain rfl:=B.fK;refine⟨_,(af (aK (bp<|bo<|au (B.eO an rfl (by lia)<|by decide)<|ao<|aa S1)
 J.gG
 aL)
 (af (aK (bp<|bo<|au (B.eO al rfl (by lia)<|by decide)<|aE (aa S1)<|aa S2)
 J.gG
 aL)
 (af (aK (bp<|bo<|au (B.eO ap rfl (by lia)<|by decide)<|aE (aa S1)<|aa S3)
 J.gG
 aL)
 (af (aK (bp<|bo<|au (B.eO am rfl (by lia)<|by decide)<|aE (aa S1)<|aa S4)
 J.gG
 aL)
 (af (J.ni (aa S0)<|bu l bH dQ<|ao<|aa S1)
 (af (J.ni (aa S0)<|bu l bH dQ<|ao<|aa S2)
 (af (J.ni (aa S0)<|bu l bH dQ<|ao<|aa S3)
 (ag<|J.ni (aa S0)<|bu l bH dQ<|ao<|aa S4)))))))),?_⟩
  refine⟨_,rfl,p,A,rfl,hp,hP,λH1 s1=>⟨_,rfl,dS ?_⟩⟩;refine⟨_,rfl,_,rfl,p,a,A,ss,rfl,s1 _ _ hp,hP,s1 _ _ ha,sl,λv Z=>(sg v Z).mono<|Tk.of s1,λH2 aj=>⟨_,rfl,dS ?_⟩⟩;have s2:=s1.trans aj;refine⟨_,rfl,_,rfl,p,b,A,ts,rfl,s2 _ _ hp,hP,s2 _ _ hb,tl,λv Z=>(tg v Z).mono<|Tk.of s2,λH3 ai=>⟨_,rfl,dS ?_⟩⟩;have s3:=s2.trans ai;refine⟨_,rfl,_,rfl,p,c,A,ys,rfl,s3 _ _ hp,hP,s3 _ _ hc,yl,λv Z=>(yg v Z).mono<|Tk.of s3,λy aq=>⟨_,rfl,dS ?_⟩⟩;have i:=s3.trans aq;refine⟨_,rfl,p,_,rfl,.inl<|cP.of<|i _ _ hp,λm np=>⟨_,rfl,x,C,q,[],rfl,by rw[cI<|cH (i _ _ N) np];exact i _ _ N,T.cl,T.nP,by decide,?_⟩⟩;have j:=cH (i _ _ N) np;have k1:∀d o,y d=some o->d≠x->upd (upd y m<|.lst<|A.map V.str) x (.ins C q<|gB "kept_persons" (.ref m) []) d=some o:=λd o e n=>by
   rw[cI n,cI<|cH e np];exact e
  have ax:=p7 (i _ _ ha) (i _ _ N) (by intro z;cases z);have bx:=p7 (i _ _ hb) (i _ _ N) (by intro z;cases z);have cx:c≠x:=p7 (i _ _ hc) (i _ _ N) (by intro z;cases z);refine⟨_,rfl,a,_,rfl,.inl<|cP.of<|k1 _ _ (i _ _ ha) ax,λs S=>⟨_,rfl,x,C,q,_,rfl,by rw[cI<|cH cG S];exact cG,T.cl,T.nS,by show 1<1000;decide,?_⟩⟩;have D:x≠s:=cH cG S;have r:m≠s:=cH (by rw[cI j.symm];exact cG) S;have U:y s=none:=by
   rw[cI D.symm,cI r.symm]at S;exact S
  have k2:∀d o,y d=some o->d≠x->upd (upd (upd (upd y m<|.lst<|A.map V.str) x<|.ins C q<|gB "kept_persons" (.ref m) []) s<|.lst ss) x (.ins C q<|gB "kept_sights" (.ref s) (gB "kept_persons" (.ref m) [])) d=some o:=λd o e n=>by
   rw[cI n,cI<|cH e U];exact k1 d o e n
  refine⟨_,rfl,b,_,rfl,.inl<|cP.of<|k2 _ _ (i _ _ hb) bx,λM O=>⟨_,rfl,x,C,q,_,rfl,by rw[cI<|cH cG O];exact cG,T.cl,T.nT,by show 2<1000;decide,?_⟩⟩;have W:x≠M:=cH cG O;have Yk:s≠M:=cH (by rw[cI D.symm];exact cG) O;have I:m≠M:=cH (by rw[cI j.symm,cI r,cI j.symm];exact cG) O;have G:y M=none:=by
   rw[cI W.symm,cI Yk.symm,cI W.symm,cI I.symm]at O;exact O
  refine⟨_,rfl,c,_,rfl,.inl<|cP.of<|by rw[cI cx,cI<|cH (i _ _ hc) G];exact k2 _ _ (i _ _ hc) cx,λR L=>⟨_,rfl,x,C,q,_,rfl,by rw[cI<|cH cG L];exact cG,T.cl,T.nY,by show 3<1000;decide,?_⟩⟩;have xy:x≠R:=cH cG L;have ac:M≠R:=cH (by rw[cI W.symm];exact cG) L;have Y:s≠R:=cH (by rw[cI D.symm,cI Yk,cI D.symm];exact cG) L;have ad:m≠R:=cH (by rw[cI j.symm,cI I,cI j.symm,cI r,cI j.symm];exact cG) L;have ab:y R=none:=by
   rw[cI xy.symm,cI ac.symm,cI xy.symm,cI Y.symm,cI xy.symm,cI ad.symm]at L;exact L
  refine k m s M R _ (i.free np) (i.free U) (i.free G) (i.free ab) ⟨⟨q,cG⟩,?_,?_,?_,?_⟩ λd o e n=>?_
  ·rw[cI j.symm,cI ad,cI j.symm,cI I,cI j.symm,cI r,cI j.symm]
   exact cG
  ·rw[cI D.symm,cI Y,cI D.symm,cI Yk,cI D.symm]
   exact cG
  ·rw[cI W.symm,cI ac,cI W.symm]
   exact cG
  ·rw[cI xy.symm]
   exact cG
  ·rw[cI n,cI<|cH (i _ _ e) ab,cI n,cI<|cH (i _ _ e) G]
   exact k2 d o (i _ _ e) n
abbrev TD:=Yc×Yc×Yc
def dW(k:Nat)(d:TD):Yb (Nat×Yc×Yc):=if d.2.2= "both" then [(k,d.1,d.2.1),(k,d.2.1,d.1)] else [(k,d.1,d.2.1)]
def fF(k:Nat):Yb TD->Yb (Nat×Yc×Yc)
 |[]=>[]
 |d::r=>dW k d++fF (k+1) r
theorem qx(d:TD):∀(l:Yb TD) (k:Nat),fF k (l++[d])=fF k l++dW (k+l.length) d
 |[],k=>by
  show dW k d++[]=[]++dW (k+0) d;grind
 |e::r,k=>by
  show dW k e++fF (k+1) (r++[d])=(dW k e++fF (k+1) r)++dW (k+(r.length+1)) d;rw[qx d r<|k+1,R8,show k+1+r.length=k+(r.length+1) by lia]
def yY(k:Nat)(d:TD):(dW k d).length<=2:=by
 unfold dW;split
 ·exact R9 2
 ·exact VP 1
theorem kL:∀(l:Yb TD) (k:Nat),(fF k l).length<=2*l.length
 |[],_=>R9 0
 |d::r,k=>by
  show(dW k d++fF (k+1) r).length<=2*(r.length+1);rw[R3];have:=yY k d;have:=kL r<|k+1;lia
inductive OI  (H:Hp)(v:V)(d:TD):Prop
 |mk(a:X4)(h:Int)(h0:v=.ref a)(e:H a=some (.tup [.int h,.str d.1,.str d.2.1,.str d.2.2]))
def NW(H:Hp)(a:Yb V)(e:Yb TD):Prop:=a.length=e.length/\∀(i:Nat) v d,a[i]? =some v->e[i]? =some d->OI H v d
def NW.mono(s:Tk H H')(h:NW H ts td):NW H' ts td:=⟨h.1,λi v d g f=>by
 obtain⟨a,t,e,j⟩:=h.2 i v d g f;exact⟨a,t,e,s _ _ j⟩⟩
inductive rY  (H:Hp)(v:V)(t:Nat×Yc×Yc):Prop
 |mk(a:X4)(h0:v=.ref a)(e:H a=some (.tup [.int t.1,.str t.2.1,.str t.2.2]))
def d6(H:Hp)(us:Yb V)(a:Yb (Nat×Yc×Yc)):Prop:=us.length=a.length/\∀(i:Nat) u t,us[i]? =some u->a[i]? =some t->rY H u t
def rY.mono(s:Tk H H')(h:rY H v t):rY H' v t:=by
 obtain⟨a,e,f⟩:=h;exact⟨a,e,s _ _ f⟩
def d6.mono(s:Tk H H')(h:d6 H us ks):d6 H' us ks:=⟨h.1,λi u t a e=>(h.2 i u t a e).mono s⟩
def d6.nil:d6 H [] []:=⟨rfl,λi u t a=>by cases a⟩
def d6.snoc{H:Hp}{us:Yb V}{l:Yb (Nat×Yc×Yc)}{u:V}{t:Nat×Yc×Yc}(h:d6 H us l)(n:rY H u t):d6 H (us++[u]) (l++[t]):=by
 refine⟨by rw[R3,R3,h.1];rfl,λi x e a f=>?_⟩;by_cases m:i<us.length
 ·rw[Sr m]at a
  rw[Sr<|by rw[<-h.1];exact m]at f;exact h.2 i x e a f
 ·rw[Sf<|by lia]at a
  rw[Sf<|by rw[<-h.1];lia,<-h.1]at f;cases g:i-us.length with
  |zero=>
   rw[g]at a f;cases a;cases f;exact n
  |succ j=>
   rw[g]at a;cases a
inductive yj  (C:X4)(vs:Yb V)(H:Hp)(Q:VK):Prop
 |mk(x p s t y:X4)(ps:Yb Yc)(ss a ys:Yb V)(e:Yb TD)(h0:vs=[.ref x])(h:Bk C H x p s t y ps ss a ys)(f:NW H a e)(i:a.length<=120)(g:∀(l:X4)(us:Yb V)(H':Hp),cJ H H'->H l=none->H' l=some (.lst us)->d6 H' us (fF 0 e)->Q (.ref l) H')
def jb  (C:X4):Sp:=λa H Q _=>yj C a H Q
inductive Oc(x l:X4)(H:Hp)(f:Yb TD)(i:Nat)(σ:St)(a:Hp):Prop
 |mk(us:Yb V)(g h:X8 V)(e:σ=[some (.ref x),some (.ref l),g,h])(s:cJ H a)(m:a l=some (.lst us))(j:d6 a us (fF 0 (f.take i)))
def Ah{a:Yb TD}{i:Nat}{d:TD}(hd:a[i]? =some d)(t:d6 H us (fF 0<|a.take i)):
  (d.2.2= "both" ->∀u v,rY H u (i,d.1,d.2.1)->rY H v (i,d.2.1,d.1)->d6 H ((us++[u])++[v]) (fF 0<|a.take<|i+1))/\(d.2.2≠ "both" ->∀u,rY H u (i,d.1,d.2.1)->d6 H (us++[u]) (fF 0<|a.take<|i+1)):=by
 have j:=(gI0.mp hd).1;have e:fF 0 (a.take<|i+1)=fF 0 (a.take i)++dW i d:=by
  rw[SU,hd];show fF 0 (a.take i++[d])=_;rw[qx,Tp,Uq,VJ<|Vo j]
 rw[e];refine⟨λg u v f h=>?_,λg u f=>?_⟩
 ·rw[show dW i d=[(i,d.1,d.2.1)]++[(i,d.2.1,d.1)] by unfold dW;rw[Sb g];rfl,<-R8]
  exact(t.snoc f).snoc h
 ·rw[show dW i d=[(i,d.1,d.2.1)] by unfold dW;rw[R7 g]]
  exact t.snoc f
def rN:cL ["self","told","k","talk"] ["self"] (cK eL):={}
def xH {fd:FuncData}(F:oI K "tellings" "Book.tellings" eL f fd) (me:Meth K C "tellings" f) (bi:Binds K fd ["self"] []) (T:Txt K mg kw C):Md P w K mg base 1 C "tellings" (jb C):=by
 refine cy F me bi T.cl rN (λvs H Q E h=>?_) λX H vs Q E B h=>?_
 ·obtain⟨x,p,s,t,y,ps,ss,ts,ys,S,rfl,_⟩:=h
  rfl
 ·obtain⟨x,p,s,t,y,ps,ss,ts,ys,S,rfl,bk,D,an,k⟩:=h
  obtain⟨S0,S1,S2,O,_⟩:=B.fA [0,1,2,3];obtain rfl:=B.fK;have Yu:=Sq;obtain⟨⟨dx,hx⟩,_,_,ht,_⟩:=id bk;refine⟨_,(af (aB S1 B.nd<|bg bF)
 (af (bh B.own B.calm (J.pD (B.b T.b_enumerate)<|ao<|cv<|aa S0) (b8 B.calm<|a6 (aR S2 B.nd)<|a6 (aR O B.nd) bO)
 (af (bw<|bA Ti SE SG bG (aa S1)<|ao<|aN<|aO (aa S2) (ah aG (aa O) ae ak)<|ah aG (aa O) ae ak)
 (ag (aK (aI aS (ah aG (aa O) ae ak) aw<|cM _)
 (ag<|bw<|bA Ti SE SG bG (aa S1)<|ao<|aN<|aO (aa S2) (ah aG (aa O) ae ak)<|ah aG (aa O) ae ak)
 aL))))
 (ag<|aD<|aa S1))),?_⟩
  refine⟨by decide,λl hl=>?_⟩;have s1:=cJ.upd (o:=.lst []) hl;refine⟨_,rfl,x,C,dx,_,_,rfl,s1 _ _ hx,T.cl,T.nT,Kj _ _ _ _,t,rfl,⟨_,cP.of<|s1 _ _ ht⟩,Ee (xs:=ts) (Oc x l H S)
   ⟨[],none,none,rfl,s1,cG,d6.nil⟩ ?_ ?_ ?_⟩
  ·rintro i σ H2 ⟨_,_,_,_,R,_⟩
   exact cP.of<|R _ _ ht
  ·rintro i v q σ H2 hv hq ⟨j,e1,e2,rfl,R,M,tl⟩
   have hi:=(gI0.mp hv).1;have hd:S[i]? =some (S[i]'(by rw[<-D.1];exact hi)):=RY _;generalize (S[i]'(by grind))=d at hd;obtain⟨a,h,rfl,ha⟩:=D.2 i v d hv hd;have ul:j.length<=240:=by
    have:=kL (S.take i) 0;rw[Tp]at this;have:=tl.1;have:=D.1;lia
   refine⟨q,_,rfl,fc.of cG,rfl,_,_,rfl,_,_,rfl,rfl,?_⟩;have s3:=cJ.upd (o:=.tup [.int i,.ref a]) hq;have r:=s3 _ _<|R _ _ ha;have m:=s3 _ _ M;have Z:=tl.mono<|Tk.of s3;have ad:=R.trans s3;generalize upd H2 q (.tup [.int i,.ref a])=Y at r m Z ad;refine⟨_,rfl,.inl ⟨rfl,_,cP.of m⟩,_,rfl,_,rfl,xT r rfl ⟨_,rfl,xT r rfl ⟨tL,λg ab=>?_⟩⟩⟩;have W:=cJ.upd (o:=.tup [.int i,.str d.1,.str d.2.1]) ab;refine⟨l,j,.ref g,rfl,rfl,W _ _ m,by lia,?_⟩;have al:=p7 r m (by intro z;cases z);have ai:=(cH m ab).symm;have A:upd (upd Y g<|.tup [.int i,.str d.1,.str d.2.1]) l (.lst<|j++[.ref g]) a=some (.tup [.int h,.str d.1,.str d.2.1,.str d.2.2]):=by
    rw[cI al];exact W _ _ r
   have G:rY (upd (upd Y g<|.tup [.int i,.str d.1,.str d.2.1]) l<|.lst<|j++[.ref g]) (.ref g) (i,d.1,d.2.1):=⟨g,rfl,by rw[cI ai];exact cG⟩;have aj:=(Tk.of W).trans<|Tk.upd (W _ _ m) (ys:=j++[.ref g]);have N:=Z.mono aj;have n:upd (upd Y g<|.tup [.int i,.str d.1,.str d.2.1]) l (.lst<|j++[.ref g]) l=some (.lst<|j++[.ref g]):=cG;have L:cJ H (upd (upd Y g<|.tup [.int i,.str d.1,.str d.2.1]) l<|.lst<|j++[.ref g]):=λb o e=>by
    rw[cI<|cH e hl];exact W _ _<|ad _ _ e
   generalize upd (upd Y g<|.tup [.int i,.str d.1,.str d.2.1]) l (.lst<|j++[.ref g])=H5 at A G N n L;refine⟨_,rfl,xT A rfl ⟨rfl,_,rfl,dJ (λhb=>?_) λhb=>?_⟩⟩
   ·have I:d.2.2= "both" :=V.str.inj (Sj hb)
    refine⟨_,rfl,.inl ⟨rfl,_,cP.of n⟩,_,rfl,_,rfl,xT A rfl ⟨_,rfl,xT A rfl ⟨tL,λt2 ac=>?_⟩⟩⟩;have s6:=cJ.upd (o:=.tup [.int i,.str d.2.1,.str d.1]) ac;refine⟨l,_,.ref t2,rfl,rfl,s6 _ _ n,by rw[R3];show j.length+1<_;lia,?_⟩;have am:t2≠l:=(cH n ac).symm;have U:=(Tk.of s6).trans<|Tk.upd (s6 _ _ n) (ys:=(j++[.ref g])++[.ref t2]);refine⟨_,_,_,rfl,λb o e=>?_,cG,(Ah hd<|N.mono U).1 I _ _ (G.mono U) ⟨t2,rfl,?_⟩⟩
    ·rw[cI<|cH e hl]
     exact s6 _ _<|L _ _ e
    ·rw[cI am]
     exact cG
   ·have I:d.2.2≠ "both" :=λe=>hb (dT0<|SY V.str e)
    exact⟨_,_,_,rfl,L,n,(Ah hd N).2 I _ G⟩
  ·rintro σ H2 ⟨j,e1,e2,rfl,R,M,tl⟩
   rw[D.1,Tj]at tl;exact⟨_,rfl,k l j H2 R hl M tl⟩
inductive SD where
 |knew (p:Yc)(h:Int)
 |unh (p:Yc)(h:X8 Int)
 |sil (p:Yc)(b e:Int)
 |bar (p q:Yc)
def oV:X8 Int->V
 |none=>.non
 |some h=>.int h
def SD.tup:SD->Yb V
 |.knew p h=>[.str "knew",.str p,.int h]
 |.unh p h=>[.str "unheard",.str p,oV h]
 |.sil p b e=>[.str "silent",.str p,.int b,.int e]
 |.bar p q=>[.str "barred",.str p,.str q]
def Ja(ps:Yb Yc):SD->Prop
 |.knew p h=>p∈ps/\dC h
 |.unh p h=>p∈ps/\∀i,h=some i->dC i
 |.sil p b e=>p∈ps/\dC b/\dC e/\b<=e
 |.bar p q=>p∈ps/\q∈ps/\p≠q
inductive Cp  (H:Hp)(v:V)(d:SD):Prop
 |mk(a:X4)(h0:v=.ref a)(e:H a=some (.tup d.tup))
def Sys(H:Hp)(ys:Yb V)(sd:Yb SD):Prop:=ys.length=sd.length/\∀(i:Nat) v d,ys[i]? =some v->sd[i]? =some d->Cp H v d
def Sys.mono(s:Tk H H')(h:Sys H ys sd):Sys H' ys sd:=⟨h.1,λi v d g f=>by
 obtain⟨a,e,j⟩:=h.2 i v d g f;exact⟨a,e,s _ _ j⟩⟩
def Sys.nil:Sys H [] []:=⟨rfl,λi v d a=>by cases a⟩
def Sys.at{H:Hp}{ys:Yb V}{sd:Yb SD}{i:Nat}{v:V}(h:Sys H ys sd)(f:ys[i]? =some v):∃d a,sd[i]? =some d/\v=.ref a/\H a=some (.tup d.tup):=by
 have g:i<sd.length:=by
  rw[<-h.1];exact(gI0.mp f).1
 obtain⟨a,e,j⟩:=h.2 i v sd[i] f (RY g);exact⟨sd[i],a,RY g,e,j⟩
def Gb(h:jy ps H v):∃d,Cp H v d/\Ja ps d:=by
 obtain⟨a,e,h⟩:=h;obtain ⟨p,h,g,j,f⟩|⟨p,b,g,j,f⟩|⟨p,h,k,g,j,f,l,m⟩|⟨p,q,g,j,f,l⟩:=h
 ·exact⟨.knew p h,⟨a,e,g⟩,j,f⟩
 ·obtain rfl|⟨h,rfl,f⟩:=f
  ·exact⟨.unh p none,⟨a,e,g⟩,j,λi z=>by cases z⟩
  ·exact⟨.unh p<|some h,⟨a,e,g⟩,j,λi z=>by cases z;exact f⟩
 ·exact⟨.sil p h k,⟨a,e,g⟩,j,f,l,m⟩
 ·exact⟨.bar p q,⟨a,e,g⟩,j,f,l⟩
theorem tT{ps:Yb Yc}{H:Hp}:∀{ys:Yb V},(∀v∈ys,jy ps H v)->∃sd,Sys H ys sd/\∀d∈sd,Ja ps d
 |[],_=>⟨[],Sys.nil,λd m=>by cases m⟩
 |v::r,h=>by
  obtain⟨sd,⟨l,g⟩,k⟩:=tT λu f=>h u<|Ta _ f;obtain⟨d,m,n⟩:=Gb<|h v<|SO ..;refine⟨d::sd,⟨by rw[Te,Te,l],λi u e f a=>?_⟩,λe a=>?_⟩
  ·cases i with
   |zero=>
    cases f;cases a;exact m
   |succ j=>exact g j u e f a
  ·obtain rfl|a:=SS.mp a
   ·exact n
   ·exact k e a
def gA{l:Yb α}{i:Nat}{d:α}(h:l[i]? =some d):l.drop i=d::l.drop (i+1):=by
 obtain⟨a,rfl⟩:=gI0.mp h;exact Xa a
def oO{α:Type}(l:Yb α)(p:α->Bool)(i:Nat):Bool:=match l[i]? with
 |some d=>p d
 |none=>false
def Kq{α:Type}(l:Yb α)(f:α->V)(i:Nat):V:=match l[i]? with
 |some d=>f d
 |none=>.non
def rp(h:l[i]? =some d):oO l p i=p d:=by
 unfold oO;rw[h]
def FT{f:α->V}(h:l[i]? =some d):Kq l f i=f d:=by
 unfold Kq;rw[h]
theorem qq{α:Type}(p:α->Bool)(f:α->V):∀l:Yb α,((List.range l.length).filter<|oO l p).map (Kq l f)=(l.filter p).map f
 |[]=>rfl
 |d::r=>by
  have g:=qq p f r;have a:(oO (d::r) p ∘ Nat.succ)=oO r p:=rfl;have h:(Kq (d::r) f ∘ Nat.succ)=Kq r f:=rfl;rw[Te,V5,TV,List.filter_map,a];have e:oO (d::r) p 0=p d:=rfl;rw[e,TV];cases p d with
  |true=>
   rw[Sb rfl,Sb rfl,SV,SV,Ut,h,g];rfl
  |false=>grind
def xG(z:Yc):SD->Bool
 |.unh q _=>decide<|q=z
 |_=>false
def SD.hr:SD->X8 Int
 |.unh _ h=>h
 |_=>none
def uZ(z:Yc)(sd:Yb SD):Yb (X8 Int):=(sd.filter<|xG z).map SD.hr
def NG(a:Int):Yb (X8 Int)->X8 Int
 |[]=>some a
 |none::_=>none
 |some h::r=>NG (if h > a then h else a) r
def floorOf(z:Yc)(sd:Yb SD):X8 Int:=NG (-1)<|uZ z sd
def gS(h:xG z d=false):uZ z (d::r)=uZ z r:=by
 unfold uZ;grind
def wj:uZ z (.unh z h::r)=h::uZ z r:=by
 unfold uZ;rw[TV,Sb<|show xG z (.unh z h)=true from dT0 rfl];rfl
inductive Fw  (C:X4)(M:X4->X4->X4->X4->X4)(vs:Yb V)(H:Hp)(Q:VK):Prop
 |mk(x p s t y:X4)(xs:Yb V)(h0:vs=[.ref x])(f:(∃a,H x=some (.ins C a (oZ p s t y))))(e:H (M p s t y)=some (.lst xs))(g:∀l,H l=none->Q (.ref l) (upd H l (.lst xs)))
def dq  (C:X4)(M:X4->X4->X4->X4->X4):Sp:=λa H Q _=>Fw C M a H Q
inductive Lc(C:X4)(vs:Yb V)(H:Hp)(Q:VK):Prop
 |mk(x p s t y:X4)(ps:Yb Yc)(ss a ys:Yb V)(z:Yc)(sd:Yb SD)(e:vs=[.ref x,.str z])(bk:Bk C H x p s t y ps ss a ys)(f:Sys H ys sd)(l:ys.length<=60)(k:∀H',cJ H H'->Q (oV (floorOf z sd)) H')
def Bz(C:X4):Sp:=λa H Q _=>Lc C a H Q
def vz:cL ["self"] ["self"] (cK ft):={}
def vv (F:oI K "sayings" "Book.sayings" ft f fd) (m:Meth K C "sayings" f) (bi:Binds K fd ["self"] []) (T:Txt K mg kw C):Md P w K mg base 1 C "sayings" (dq C λ_ _ _ y=>y):=by
 refine cy F m bi T.cl vz (λe H Q E h=>?_) λX H e Q E a h=>?_
 ·obtain⟨x,p,s,t,y,i,rfl,_⟩:=h
  rfl
 ·obtain⟨x,p,s,t,y,i,rfl,⟨l,n⟩,g,k⟩:=h
  obtain⟨j,_⟩:=a.fA [0];obtain rfl:=a.fK;exact⟨_,ag<|aD<|bu (a.b T.b_list) bH dQ<|ao<|cv<|aa j,_,rfl,x,C,l,_,_,rfl,n,T.cl,T.nY,NJ _ _ _ _,_,_,rfl,.inl<|cP.of g,k⟩
def xR:cL ["book","person","floor","saying"] ["book","person"] (cK lX):={}
def yw {f:X4}{fd:FuncData}(D:Df K mg "floor_of" lX ["book","person"] f fd) (T:Txt K mg kw C) (R:Md P w K mg base 1 C "sayings" (dq C λ_ _ _ y=>y)):Gd P w K mg base 2 "floor_of" (Bz C):=by
 refine aJ D xR λX H vs Q E r h=>?_;obtain⟨x,p,s,t,y,ps,ss,ts,I,z,sd,rfl,bk,S,YB,k⟩:=h;obtain⟨⟨W,U⟩,hp,hs,ht,hy⟩:=id bk;obtain⟨Z,S1,M,L,_⟩:=r.fA [0,1,2,3];refine⟨_,(af (aB M r.nd<|J.xX J.qy ae)
 (af (bh r.own r.calm (aX<|bC (r.met R<|by decide) (aa Z) rfl) (aR L r.nd)
 (ag (aK (a7<|bq (aI aS (ah aG (aa L) ae ak) aw<|cM _)<|bz<|aI aS (ah aG (aa L) ae ak) (aa S1)<|cM _)
 (af (aK (aI J.pQ (ah aG (aa L) ae ak) bS<|cM _)
 (ag<|aD bS)
 aL)
 (ag<|aB M r.nd<|aH (r.b T.b_max) (J.nU r.calm) K3<|aE (aa M)<|ah aG (aa L) ae ak))
 aL)))
 (ag<|aD<|aa M))),?_⟩
 refine⟨_,rfl,_,rfl,x,W,_,rfl,U,fm _ _ _ _ (by decide+kernel) (by decide+kernel) (by decide+kernel)<|by decide+kernel,x,p,s,t,y,I,rfl,⟨W,U⟩,hy,λl hl=>?_⟩;have N:=cJ.upd (o:=.lst I) hl;have F:upd H l (.lst I) l=some (.lst I):=cG;generalize upd H l (.lst I)=H1 at N F;refine⟨l,rfl,⟨_,cP.of F⟩,dw (xs:=I) (λi σ G=>∃(n:Int) (e:X8 V),σ=[some<|.ref x,some<|.str z,some<|.int n,e]/\cJ H1 G/\NG n (uZ z<|sd.drop i)=floorOf z sd)
  ⟨_,none,rfl,cJ.refl _,rfl⟩ ?_ ?_ ?_⟩
 ·rintro i σ G hi ⟨n,e,rfl,m,j⟩
  exact cP.of<|m _ _ F
 ·rintro i v σ G hv ⟨n,e,rfl,m,j⟩
  obtain⟨d,a,Y,rfl,ha⟩:=S.at hv;have g:=m _ _<|N _ _ ha;rw[gA Y]at j;cases d with
  |knew q h=>
   rw[gS rfl]at j;exact⟨_,rfl,xT g rfl ⟨rfl,_,rfl,iN<|dS ⟨n,_,rfl,m,j⟩⟩⟩
  |sil q b e'=>
   rw[gS rfl]at j;exact⟨_,rfl,xT g rfl ⟨rfl,_,rfl,iN<|dS ⟨n,_,rfl,m,j⟩⟩⟩
  |bar q q'=>
   rw[gS rfl]at j;exact⟨_,rfl,xT g rfl ⟨rfl,_,rfl,iN<|dS ⟨n,_,rfl,m,j⟩⟩⟩
  |unh q h=>
   refine⟨_,rfl,xT g rfl ⟨rfl,_,rfl,iP ⟨_,rfl,xT g rfl ⟨_,rfl,rfl,_,rfl,dJ (λO=>?_) λO=>?_⟩⟩⟩⟩
   ·have B:=V.str.inj (Sj O)
    subst B;rw[wj]at j;cases h with
    |none=>
     refine⟨_,rfl,xT g rfl ⟨rfl,_,rfl,fD (dT0 rfl) ?_⟩⟩;have A:=j;have:=k G<|N.trans m
     rwa [<-A]at this
    |some h=>
     refine⟨_,rfl,xT g rfl ⟨rfl,_,rfl,gQ (by rw[Sw];intro e;cases e) ?_⟩⟩;exact⟨_,rfl,_,rfl,xT g rfl ⟨n,h,rfl,_,_,rfl,m,j⟩⟩
   ·have B:xG z (.unh q h)=false:=Se λe=>O (dT0<|SY V.str e)
    rw[gS B]at j;exact⟨n,_,rfl,m,j⟩
 ·rintro σ G ⟨n,e,rfl,m,j⟩
  rw[S.1,List.drop_length]at j;have A:=j;have:=k G<|N.trans m;rw[<-A]at this;exact⟨_,rfl,this⟩
def eT(h:Int):X8 Int->Bool
 |none=>false
 |some m=>decide<|m<h
inductive LH(vs:Yb V)(H:Hp)(Q:VK):Prop
 |mk(h:Int)(f:X8 Int)(e:vs=[.int h,oV f])(k:Q (.bl (eT h f)) H)
def pK:Sp:=λa H Q _=>LH a H Q
def Pr(H:Hp)(d:X4)(ps:Yb Yc)(sd:Yb SD):Prop:=∃a:Yb (Key×V),H d=some (.dK a)/\∀z∈ps,dY a (Sum.inr z)=some (oV<|floorOf z sd)
def Pr.mono(s:cJ H H')(h:Pr H d ps sd):Pr H' d ps sd:=by
 obtain⟨a,e,k⟩:=h;exact⟨a,s _ _ e,k⟩
inductive Gx(C:X4)(vs:Yb V)(H:Hp)(Q:VK):Prop
 |mk(x p s t y:X4)(ps:Yb Yc)(ss a ys:Yb V)(sd:Yb SD)(e:vs=[.ref x])(bk:Bk C H x p s t y ps ss a ys)(pl:ps.length<=24)(f:Sys H ys sd)(l:ys.length<=60)(k:∀d H',cJ H H'->H d=none->Pr H' d ps sd->Q (.ref d) H')
def qr(C:X4):Sp:=λa H Q _=>Gx C a H Q
def uL:cL ["self"] ["self"] (cK fB):={}
def vo (F:oI K "persons" "Book.persons" fB f fd) (m:Meth K C "persons" f) (bi:Binds K fd ["self"] []) (T:Txt K mg kw C):Md P w K mg base 1 C "persons" (dq C λp _ _ _=>p):=by
 refine cy F m bi T.cl uL (λe H Q E h=>?_) λX H e Q E a h=>?_
 ·obtain⟨x,p,s,t,y,i,rfl,_⟩:=h
  rfl
 ·obtain⟨x,p,s,t,y,i,rfl,⟨l,n⟩,g,k⟩:=h
  obtain⟨j,_⟩:=a.fA [0];obtain rfl:=a.fK;exact⟨_,ag<|aD<|bu (a.b T.b_list) bH dQ<|ao<|cv<|aa j,_,rfl,x,C,l,_,_,rfl,n,T.cl,T.nP,Nk _ _ _ _,_,_,rfl,.inl<|cP.of g,k⟩
def wA:cL ["hour","floor"] ["hour","floor"] (cK lG):={}
def yz (D:Df K mg "is_above" lG ["hour","floor"] f fd):Gd P w K mg base 1 "is_above" pK:=by
 refine aJ D wA λX H j Q E g h=>?_;obtain⟨h,f,rfl,k⟩:=h;obtain⟨i,a,_⟩:=g.fA [0,1];refine⟨_,ag<|aD<|aU (aZ J.pC (aa a) bS<|cM _)<|aY<|aZ bV (aa i) (aa a)<|cM _,?_⟩;cases f with
 |none=>exact⟨_,rfl,rfl,_,rfl,iN k⟩
 |some m=>exact⟨_,rfl,rfl,_,rfl,fD (by rw[UX,V3];intro e;cases e) ⟨_,rfl,_,rfl,_,_,rfl,rfl,k⟩⟩
def oy:cL ["book","floors","person"] ["book"] (cK gj):={}
def BP (D:Df K mg "floors_of_all" gj ["book"] f fd) (T:Txt K mg kw C) (O:Md P w K mg base 1 C "persons" (dq C λp _ _ _=>p)) (L:Gd P w K mg base 2 "floor_of" (Bz C)):Gd P w K mg base 3 "floors_of_all" (qr C):=by
 refine aJ D oy λX H vs Q E j h=>?_;obtain⟨x,p,s,t,y,A,ss,ts,ys,sd,rfl,bk,pl,sy,YB,k⟩:=h;have Yu:=Sq;obtain⟨⟨dx,Z⟩,hp,hs,ht,hy⟩:=id bk;obtain⟨W,S,R,_⟩:=j.fA [0,1,2];refine⟨_,(af (aB S j.nd J.kG)
 (af (bh j.own j.calm (aX<|bC (j.met O<|by decide) (aa W) rfl) (aR R j.nd)
 (ag<|bZ (d9 j.room) (aa S) (aa R)<|au (j.eO L rfl (by lia)<|by decide)<|aE (aa W)<|aa R))
 (ag<|aD<|aa S))),?_⟩
 refine λd q=>?_;have I:=cJ.upd (o:=.dK []) q;have B:upd H d (.dK []) d=some (.dK []):=cG;refine⟨_,rfl,x,dx,_,rfl,I _ _ Z,fm _ _ _ _ (by decide+kernel) (by decide+kernel) (by decide+kernel)<|by decide+kernel,x,p,s,t,y,_,rfl,⟨dx,I _ _ Z⟩,I _ _ hp,λl Y=>?_⟩;have N:=cJ.upd (o:=.lst<|A.map V.str) Y;have ld:=(cH B Y).symm;refine⟨l,rfl,⟨_,cP.of cG⟩,dw (xs:=A.map V.str) (λi σ r=>∃(m:Yb (Key×V)) (e:X8 V),σ=[some<|.ref x,some<|.ref d,e]/\cJ H r/\r l=some (.lst<|A.map V.str)/\r d=some (.dK m)/\m.length<=i/\∀z∈A.take i,dY m (Sum.inr z)=some (oV<|floorOf z sd))
  ⟨[],none,rfl,I.trans N,cG,N _ _ B,R9 0,λz G=>by cases G⟩ ?_ ?_ ?_⟩
 ·rintro i σ r hi ⟨m,e,rfl,N,a,_⟩
  exact cP.of a
 ·rintro i v σ r hv ⟨m,e,rfl,F,a,n,kl,M⟩
  rw[Sk]at hv;obtain⟨z,G,rfl⟩:=Th.mp hv;have hi:=(gI0.mp G).1;refine⟨_,rfl,_,rfl,x,p,s,t,y,A,ss,ts,ys,z,sd,rfl,bk.mono F,sy.mono<|Tk.of F,YB,λH5 U=>?_⟩;refine⟨_,rfl,_,rfl,d,_,rfl,l7.k (k:=Sum.inr z) (U _ _ n)<|by lia,_,_,rfl,λb o e=>?_,?_,cG,?_,λz' g=>?_⟩
  ·rw[cI<|cH e q]
   exact U _ _<|F _ _ e
  ·rw[cI ld]
   exact U _ _ a
  ·have:=dH m (Sum.inr z:Key) (oV<|floorOf z sd)
   lia
  ·rw[cU]
   by_cases c:(Sum.inr z':Key)=Sum.inr z
   ·grind
   ·rw[R7 c]
    rw[SU,G,Sz]at g;obtain g|g:=g
    ·grind
    ·grind
 ·rintro σ r ⟨m,e,rfl,F,a,n,kl,M⟩
  rw[R5,Tj]at M;exact⟨_,rfl,k d r F q ⟨m,n,M⟩⟩
def Lz{α:Type}(R:Hp->V->α->Prop)(H:Hp)(xs:Yb V)(ds:Yb α):Prop:=xs.length=ds.length/\∀(i:Nat) v d,xs[i]? =some v->ds[i]? =some d->R H v d
def Lz.mono(m:∀v d,R H v d->R H' v d)(h:Lz R H xs ds):Lz R H' xs ds:=⟨h.1,λi v d e a=>m v d<|h.2 i v d e a⟩
def Lz.at{i:Nat}{v:V}(h:Lz R H xs ds)(e:xs[i]? =some v):∃d,ds[i]? =some d/\R H v d:=by
 have a:i<ds.length:=by
  rw[<-h.1];grind
 exact⟨ds[i],RY a,h.2 i v ds[i] e (RY a)⟩
theorem uE{α:Type}{R:Hp->V->α->Prop}{H:Hp}{Ok:α->Prop}:∀{xs:Yb V},(∀v∈xs,∃d,R H v d/\Ok d)->∃ds,Lz R H xs ds/\∀d∈ds,Ok d
 |[],_=>⟨[],⟨rfl,λi v d n=>by cases n⟩,λd m=>by cases m⟩
 |v::r,h=>by
  obtain⟨ds,⟨l,g⟩,k⟩:=uE λu f=>h u<|Ta _ f;obtain⟨d,m,o⟩:=h v<|SO ..;refine⟨d::ds,⟨by rw[Te,Te,l],λi u e f a=>?_⟩,λe a=>?_⟩
  ·cases i with
   |zero=>
    cases f;cases a;exact m
   |succ j=>exact g j u e f a
  ·obtain rfl|a:=SS.mp a
   ·exact o
   ·exact k e a
abbrev GD:=Yc×Int
inductive dz  (H:Hp)(v:V)(d:GD):Prop
 |mk(a ta:X4)(h0:v=.ref a)(e:H a=some (.tup [.str d.1,.int d.2,.ref ta]))
def dz.mono(s:Tk H H')(v:V)(d:GD)(h:dz H v d):dz H' v d:=by
 obtain⟨a,f,e,g⟩:=h;exact⟨a,f,e,s _ _ g⟩
def yF(h:∀v∈ss,dU ps H v):∃f,Lz dz H ss f/\∀d∈f,d.1∈ps/\dC d.2:=
 uE λv g=>by
  obtain⟨a,z,i,l,o,e,j,n,m,_⟩:=h v g;exact⟨(z,i),⟨a,l,e,j⟩,n,m⟩
def cR(sd:Yb SD)(d:GD):Bool:=eT d.2<|floorOf d.1 sd
def lY(a:Yb GD)(sd:Yb SD)(n:Nat):Yb V:=((List.range n).filter<|oO a<|cR sd).map λi=>V.int (i:Nat)
def Aa(a:Yb GD)(sd:Yb SD)(n:Nat):(lY a sd n).length<=n:=by
 unfold lY;grind
inductive Ma(C:X4)(vs:Yb V)(H:Hp)(Q:VK):Prop
 |mk(x p s t y:X4)(ps:Yb Yc)(ss f ys:Yb V)(a:Yb GD)(sd:Yb SD)(e:vs=[.ref x])(bk:Bk C H x p s t y ps ss f ys)(pl:ps.length<=24)(sl:ss.length<=24)(h:Lz dz H ss a)(g:∀d∈a,d.1∈ps)(i:Sys H ys sd)(l:ys.length<=60)
   (k:∀l H',cJ H H'->H l=none->H' l=some (.lst (lY a sd a.length))->Q (.ref l) H')
def uR(C:X4):Sp:=λa H Q _=>Ma C a H Q
def xn:cL ["self"] ["self"] (cK fL):={}
def xo (F:oI K "sights" "Book.sights" fL f fd) (m:Meth K C "sights" f) (bi:Binds K fd ["self"] []) (T:Txt K mg kw C):Md P w K mg base 1 C "sights" (dq C λ_ s _ _=>s):=by
 refine cy F m bi T.cl xn (λe H Q E h=>?_) λX H e Q E a h=>?_
 ·obtain⟨x,p,s,t,y,i,rfl,_⟩:=h
  rfl
 ·obtain⟨x,p,s,t,y,i,rfl,⟨l,n⟩,g,k⟩:=h
  obtain⟨j,_⟩:=a.fA [0];obtain rfl:=a.fK;exact⟨_,ag<|aD<|bu (a.b T.b_list) bH dQ<|ao<|cv<|aa j,_,rfl,x,C,l,_,_,rfl,n,T.cl,T.nS,NX _ _ _ _,_,_,rfl,.inl<|cP.of g,k⟩
def rD:cL ["book","floors"] ["book"] (cK gV):={}
def qP {fd:FuncData}(D:Df K mg "open_sights" gV ["book"] f fd) (T:Txt K mg kw C) (I:Md P w K mg base 1 C "sights" (dq C λ_ s _ _=>s)) (O:Gd P w K mg base 3 "floors_of_all" (qr C)) (N:Gd P w K mg base 1 "is_above" pK):Gd P w K mg base 4 "open_sights" (uR C):=by
 refine aJ D rD λX H vs Q E j h=>?_;obtain⟨x,p,s,t,y,ps,m,ts,ys,B,sd,rfl,bk,pl,sl,gs,gp,sy,YB,k⟩:=h;have Yu:=Sq;obtain⟨Y,S1,_⟩:=j.fA [0,1];refine⟨_,(af (aB S1 j.nd<|au (j.eO O rfl (by lia)<|by decide)<|ao<|aa Y)
 (ag<|aD<|bN (is:=[1]) (xs:=["i","sight"]) (ns:=["floors"]) j.calm (J.pD (j.b T.b_enumerate)<|ao<|bC (j.met I<|by decide) (aa Y) rfl) {} (λ_ _ _ _ _=>J.vK (n:=2) j.calm<|a6 (br (i:=0))<|a6 (br (i:=1)) bO) (λ_ _ _ _ _=>bP<|bo<|au ((j.rR N (by lia)<|by decide).lg rfl)<|aE (ah bE (aT (i:=1)) ae ak)<|aM (d9 j.room) (a5 (i:=2)) (ah bE (aT (i:=1)) ae ak) cA) (λ_ _ _ _ _=>aT (i:=0)) j.hsc j.hN)),?_⟩
 refine⟨_,rfl,x,p,s,t,y,ps,m,ts,ys,sd,rfl,bk,pl,sy,YB,λd H1 F dn fl=>?_⟩;obtain⟨⟨dx,hx⟩,hp,hs,ht,hy⟩:=bk.mono F;refine⟨_,rfl,x,dx,_,rfl,hx,fm _ _ _ _ (by decide+kernel) (by decide+kernel) (by decide+kernel)<|by decide+kernel,x,p,s,t,y,m,rfl,⟨dx,hx⟩,hs,λl hl=>?_⟩;have M:=cJ.upd (o:=.lst m) hl;refine⟨l,rfl,⟨_,cP.of cG⟩,DY (xs:=m) (oO B<|cR sd) (λi=>V.int (i:Nat)) (cP.of cG) (by lia) ?_ ?_⟩
 ·intro i os v q H2 K1 K2 hv R s3 hq W k2
  match os,R with
  |[o1,o2],_=>
   obtain⟨g,Z,a,ta,rfl,ha⟩:=gs.at hv;rw[rp Z]at W k2;have G:=cJ.upd (o:=.tup [.int i,.ref a]) hq;have z:=(M.trans s3).trans G;have r:=z _ _<|F _ _ ha;obtain⟨Yj,S,hk⟩:=fl.mono z;have dg:dP (upd H2 q<|.tup [.int i,.ref a]) d (.str g.1) (some<|oV<|floorOf g.1 sd):=by
    rw[<-hk g.1 (gp g<|R4 Z)];exact dP.k (k:=Sum.inr g.1) S
   refine⟨q,_,rfl,fc.of cG,rfl,_,_,rfl,_,_,rfl,rfl,⟨[_,_],rfl,rfl⟩,_,rfl,xT r rfl ⟨_,rfl,_,rfl,xT r rfl ⟨d,_,rfl,dg,g.2,floorOf g.1 sd,rfl,_,rfl,dJ (λL=>⟨_,rfl,W L _ G⟩) λL=>k2 (VG L) _ G⟩⟩⟩
 ·intro D' H' U s' A
  have e:((List.range m.length).filter<|oO B<|cR sd).map (λi=>V.int (i:Nat))=lY B sd B.length:=by
   rw[gs.1];rfl
  rw[e]at A;exact k D' H' ((F.trans M).trans s') ((F.trans M).free U) A
def mI(z:Yc):SD->Bool
 |.sil q _ _=>decide<|q=z
 |_=>false
def oR(h:Int):SD->Bool
 |.sil _ b e=>if b<=h then decide (h<=e) else false
 |_=>false
def q9(z:Yc)(h:Int)(d:SD):Bool:=mI z d&&oR h d
def wM(he a:Yc):SD->Bool
 |.bar p q=>decide (p=he)&&decide (q=a)
 |_=>false
theorem xU{α β:Type}{f:α->Bool}{g:β->Bool}:∀{xs:Yb α}{ds:Yb β},xs.length=ds.length->(∀(i:Nat) v d,xs[i]? =some v->ds[i]? =some d->f v=g d)->xs.any f=ds.any g
 |[],[],_,_=>rfl
 |[],_::_,h,_=>by cases h
 |_::_,[],h,_=>by cases h
 |x::xs,d::ds,h,k=>by
  rw[Uu,Uu,k 0 x d rfl rfl,xU (Ua h) λi v e a j=>k (i+1) v e a j]
theorem BG{α β:Type}:∀{xs:Yb α}{ds:Yb β}{i:Nat}{p:α×β},(xs.zip ds)[i]? =some p->xs[i]? =some p.1/\ds[i]? =some p.2
 |[],_,_,_,h=>by cases h
 |_::_,[],_,_,h=>by cases h
 |x::xs,d::ds,i,p,h=>by
  cases i with
  |zero=>
   cases h;exact⟨rfl,rfl⟩
  |succ j=>
   have a:(xs.zip ds)[j]? =some p:=h;exact BG (xs:=xs) (ds:=ds) (i:=j) a
theorem zp{α β:Type}:∀{xs:Yb α}{ds:Yb β}{i:Nat}{v:α}{d:β},xs[i]? =some v->ds[i]? =some d->(xs.zip ds)[i]? =some (v,d)
 |[],_,_,_,_,h,_=>by cases h
 |_::_,[],_,_,_,_,h=>by cases h
 |x::xs,e::ds,i,v,d,h,h'=>by
  cases i with
  |zero=>
   cases h;cases h';rfl
  |succ j=>exact zp (xs:=xs) (ds:=ds) (i:=j) h h'
theorem Ao{α β:Type}(f:β->Bool):∀{xs:Yb α}{ds:Yb β},xs.length=ds.length->((xs.zip ds).any λp=>f p.2)=ds.any f
 |[],[],_=>rfl
 |[],_::_,h=>by cases h
 |_::_,[],h=>by cases h
 |x::xs,d::ds,h=>by
  show(f d||(xs.zip ds).any λp=>f p.2)=(f d||ds.any f);rw[Ao f<|Ua h]
inductive PQ(vs:Yb V)(H:Hp)(Q:VK):Prop
 |mk(y:X4)(ys:Yb V)(z:Yc)(h:Int)(sd:Yb SD)(e:vs=[.ref y,.str z,.int h])(a:H y=some (.lst ys))(f:Sys H ys sd)(l:ys.length<=60)(k:∀H',cJ H H'->Q (.bl (sd.any (q9 z h))) H')
def Ay:Sp:=λa H Q _=>PQ a H Q
inductive Qa(vs:Yb V)(H:Hp)(Q:VK):Prop
 |mk(y:X4)(ys:Yb V)(he a:Yc)(sd:Yb SD)(e:vs=[.ref y,.str he,.str a])(f:H y=some (.lst ys))(g:Sys H ys sd)(k:∀H',cJ H H'->Q (.bl (sd.any (wM he a))) H')
def Aj:Sp:=λa H Q _=>Qa a H Q
def jD(d:SD):d.tup.all dI=true:=by
 cases d with
 |unh q h=>cases h<;>rfl
 |_=>rfl
def Bj(he a:Yc)(d:SD):xO d.tup [.str "barred",.str he,.str a]=wM he a d:=by
 cases d with
 |knew p h=>exact Wc.mpr (λh=>absurd h (by
   rw[Tv];intro k;exact absurd (k 0<|TU.mpr<|lt_min.mpr ⟨WZ _,WZ _⟩)<|by show ¬(("knew" :Yc) == "barred")=true;decide+kernel))
 |unh p h=>exact Wc.mpr (λh=>absurd h (by
   rw[Tv];intro k;exact absurd (k 0<|TU.mpr<|lt_min.mpr ⟨WZ _,WZ _⟩)<|by show ¬(("unheard" :Yc) == "barred")=true;decide+kernel))
 |sil p b e=>exact Wc.mpr (λh=>absurd h (by
   rw[Tv];intro k;exact absurd (k 0<|TU.mpr<|lt_min.mpr ⟨WZ _,WZ _⟩)<|by show ¬(("silent" :Yc) == "barred")=true;decide+kernel))
 |bar p q=>
  show((("barred" :Yc) == "barred")&&((p==he)&&((q==a)&&true))&&true)=(decide (p=he)&&decide (q=a));rw[show(("barred" :Yc) == "barred")=true from Tz _,To,Vs,Vs]
  congr 1<;>exact beq_eq_decide _ _
def HF(h:Cp H v d):Mr H xs v=xO d.tup xs:=by
 obtain⟨a,rfl,e⟩:=h;show(match H a with|some (.tup zs)=>xO zs xs|_=>false)=_;rw[e]
def uW:cL ["sayings","person","hour","own"] ["sayings","person","hour"] (cK jJ):={}
def v5 {fd:FuncData}(D:Df K mg "is_silent" jJ ["sayings","person","hour"] f fd) (T:Txt K mg kw C):Gd P w K mg base 1 "is_silent" Ay:=by
 refine aJ D uW λX H vs Q E j h=>?_;obtain⟨y,m,z,h,sd,rfl,hy,L,YB,k⟩:=h;have Yu:=Sq;obtain⟨S0,S1,S2,S3,_⟩:=j.fA [0,1,2,3];refine⟨_,(af (cj (is:=[1]) (xs:=["saying"]) (ns:=["person"]) S3 j.nd j.calm (aX<|aa S0) {} (λ_ _ _ _ _=>br (i:=0)) (λ_ _ _ _ _=>bP<|a7<|bq (aI aS (ah bE (aT (i:=0)) ae ak) aw<|cM _)<|bz<|aI aS (ah bE (aT (i:=0)) ae ak) (a5 (i:=1))<|cM _) (λ_ _ _ _ _=>aT (i:=0)) j.hsc j.hN (by decide+kernel))
 (ag<|aD<|aH (j.b T.b_any) (J.ng j.calm) LA<|ao<|bN (is:=[2]) (xs:=["saying"]) (ns:=["hour"]) j.calm (aX<|aa S3) {} (λ_ _ _ _ _=>br (i:=0)) (λ_ _ _ _ _=>bX) (λ_ _ _ _ _=>J.j3 bB bB (ah bE (aT (i:=0)) ae ak) (a5 (i:=1)) (ah bE (aT (i:=0)) ae ak) iZ) j.hsc j.hN)),?_⟩
 have zl:(m.zip sd).length=m.length:=by
  rw[WX,<-L.1,Xy]
 refine⟨_,rfl,y,rfl,⟨_,cP.of hy⟩,yc (xs:=m) (oO (m.zip sd) λp=>mI z p.2) (Kq (m.zip sd) λp=>p.1) (cP.of hy) (by lia) ?_ ?_⟩
 ·intro i O v n K1 K2 F A R x r
  match O,A with
  |[o],_=>
   obtain⟨d,a,Z,rfl,Y⟩:=L.at F;have g:=R _ _ Y;rw[rp<|zp F Z]at x r;rw[FT<|zp F Z]at x;refine⟨⟨[some<|.ref a],rfl,rfl⟩,?_⟩;cases d with
   |knew q h=>exact⟨_,rfl,xT g rfl ⟨rfl,_,rfl,iN<|dS<|r rfl n<|cJ.refl _⟩⟩
   |unh q h=>exact⟨_,rfl,xT g rfl ⟨rfl,_,rfl,iN<|dS<|r rfl n<|cJ.refl _⟩⟩
   |bar q q'=>exact⟨_,rfl,xT g rfl ⟨rfl,_,rfl,iN<|dS<|r rfl n<|cJ.refl _⟩⟩
   |sil q b e=>
    refine⟨_,rfl,xT g rfl ⟨rfl,_,rfl,iP ⟨_,rfl,xT g rfl ⟨_,rfl,rfl,_,rfl,dJ (λN=>?_) λN=>?_⟩⟩⟩⟩
    ·have W:=V.str.inj (Sj N)
     exact⟨_,rfl,x (dT0 W) n<|cJ.refl _⟩
    ·exact r (Se λe=>N<|dT0<|SY V.str e) n<|cJ.refl _
 ·intro o H' ho s' s
  rw[<-zl,qq (λp=>mI z p.2) (λp=>p.1)<|m.zip sd]at s;have om:∀p∈(m.zip sd).filter λp=>mI z p.2,Cp H p.1 p.2/\mI z p.2=true:=λp I=>by
   obtain⟨M,S⟩:=Su.mp I;obtain⟨i,hi⟩:=So M;obtain⟨h1,h2⟩:=BG hi;exact⟨L.2 i _ _ h1 h2,S⟩
  have ol:((m.zip sd).filter λp=>mI z p.2).length<=60:=by grind
  have ev:(((m.zip sd).filter λp=>mI z p.2).any λp=>oR h p.2)=sd.any (q9 z h):=by
   rw[List.any_filter];exact Ao (λd=>mI z d&&oR h d) L.1
  generalize (m.zip sd).filter (λp=>mI z p.2)=l at s om ol ev;refine⟨_,rfl,o,rfl,⟨_,cP.of s⟩,yc (xs:=l.map λp=>p.1) (oO l λ_=>true) (Kq l λp=>V.bl<|oR h p.2) (cP.of s) (by grind) ?_ ?_⟩
  ·intro i O v n K1 K2 F A R x r
   match O,A with
   |[o],_=>
    rw[Sk]at F;obtain⟨p,I,rfl⟩:=Th.mp F;obtain⟨⟨a,ea,Y⟩,U⟩:=om p<|R4 I;have g:=R _ _<|s' _ _ Y;rw[rp I]at x;rw[FT I]at x;have kk:=x rfl;refine⟨⟨[some p.1],rfl,rfl⟩,eU (B:=K2 n) ?_⟩;obtain⟨v,d⟩:=p;subst ea;cases d with
    |sil q b e=>
     refine⟨_,rfl,xT g rfl ⟨_,rfl,_,_,rfl,rfl,_,rfl,?_⟩⟩;have r:K1 (V.bl<|if b<=h then decide (h<=e) else false) n:=kk n<|cJ.refl _;refine dJ (λhb=>?_) λhb=>?_
     ·rw[Sb<|Sj hb]at r
      exact⟨_,rfl,xT g rfl ⟨_,_,rfl,rfl,r⟩⟩
     ·grind
    |knew q h=>exact absurd U bF0
    |unh q h=>exact absurd U bF0
    |bar q q'=>exact absurd U bF0
  ·intro D2 H3 ab s3 G
   have e2:((List.range (l.map λp=>p.1).length).filter<|oO l λ_=>true).map (Kq l λp=>V.bl<|oR h p.2)=(l.map λp=>oR h p.2).map V.bl:=by
    rw[R5,qq (λ_=>true) (λp=>V.bl<|oR h p.2) l,Wo.mpr λ_ _=>rfl,Ut];rfl
   rw[e2]at G;refine⟨D2,_,rfl,cP.of G,?_⟩;have e3:(l.map λp=>oR h p.2).any id=sd.any (q9 z h):=by simp_all
   rw[e3];exact k H3<|s'.trans s3
def uH:cL ["sayings","hearer","teller"] ["sayings","hearer","teller"] (cK jE):={}
def uV {fd:FuncData}(D:Df K mg "is_barred" jE ["sayings","hearer","teller"] f fd):Gd P w K mg base 1 "is_barred" Aj:=by
 refine aJ D uH λX H L Q E n h=>?_;obtain⟨y,F,p,m,sd,rfl,B,x,k⟩:=h;obtain⟨s,G,A,_⟩:=n.fA [0,1,2];refine⟨_,ag<|aD<|aZ (J.l0<|d9 n.room) (aN<|aO aw (aa G)<|aa A) (aa s) cq,?_⟩;refine⟨_,rfl,_,rfl,tL,λq z=>?_⟩;have j:=cJ.upd (o:=.tup [.str "barred",.str p,.str m]) z;have g:=x.mono<|Tk.of j;refine⟨_,rfl,q,y,_,F,rfl,rfl,cG,cP.of<|j _ _ B,rfl,λv l=>?_,?_⟩
 ·obtain⟨i,C⟩:=So l
  obtain⟨d,a,_,e,I⟩:=g.at C;exact⟨a,d.tup,e,I,jD d⟩
 ·rw[xU g.1 λi v d l r=>(HF<|g.2 i v d l r).trans<|Bj p m d]
  exact k _ j
abbrev QD:=Int×Yc×Yc×Yc
inductive dD  (H:Hp)(v:V)(d:QD):Prop
 |mk(a:X4)(h0:v=.ref a)(e:H a=some (.tup [.int d.1,.str d.2.1,.str d.2.2.1,.str d.2.2.2]))
def dD.mono(s:Tk H H')(v:V)(d:QD)(h:dD H v d):dD H' v d:=by
 obtain⟨a,e,f⟩:=h;exact⟨a,e,s _ _ f⟩
def lS(ps:Yb Yc)(d:QD):Prop:=dC d.1/\d.2.1∈ps/\d.2.2.1∈ps/\(d.2.2.2= "both" \/d.2.2.2= "one")
def KP(h:∀v∈ts,fg ps H v):∃f,Lz dD H ts f/\∀d∈f,lS ps d:=
 uE λv m=>by
  obtain⟨a,i,p,q,w,e,n,o,g,l,_,j⟩:=h v m;exact⟨(i,p,q,w),⟨a,e,n⟩,o,g,l,j⟩
def fH(a:Yb QD):Yb TD:=a.map λd=>d.2
def Dy(h:Lz dD H ts qd):NW H ts (fH qd):=by
 refine⟨by rw[h.1];exact(R5 ..).symm,λi v d j f=>?_⟩;unfold fH at f;rw[Sk]at f;obtain⟨q,g,rfl⟩:=Th.mp f;obtain⟨a,e,l⟩:=h.2 i v q j g;exact⟨a,q.1,e,l⟩
def cN(a:Yb QD)(k:Nat):Int:=match a[k]? with
 |some d=>d.1
 |none=>0
def iG(h:qd[k]? =some d):cN qd k=d.1:=by
 unfold cN;rw[h]
abbrev TK:=Nat×Yc×Yc
def dj(a:Yb QD)(sd:Yb SD)(t:TK):Bool:=eT (cN a t.1) (floorOf t.2.2 sd) && !(sd.any (q9 t.2.1<|cN a t.1)||sd.any (wM t.2.2 t.2.1))
theorem mz{t:TK}:∀{l:Yb TD}{k:Nat},t∈fF k l->∃(j:Nat) (d:TD),l[j]? =some d/\t.1=k+j/\(t.2=(d.1,d.2.1)\/t.2=(d.2.1,d.1))
 |[],_,h=>by cases h
 |d::r,k,h=>by
  obtain h|h:=Sz.mp h
  ·refine⟨0,d,rfl,?_⟩
   unfold dW at h;split at h
   ·grind
   ·grind
  ·obtain⟨j,e,a,g,f⟩:=mz h
   exact⟨j+1,e,a,by lia,f⟩
def PY(ok:∀d∈qd,lS ps d)(h:t∈fF 0 (fH qd)):∃q,qd[t.1]? =some q/\t.2.2∈ps:=by
 obtain⟨j,d,e,g,a⟩:=mz h;unfold fH at e;rw[Sk]at e;obtain⟨q,f,rfl⟩:=Th.mp e;rw[Uq]at g;have:=ok q<|R4 f;refine⟨q,by rw[g];exact f,?_⟩;obtain a|a:=a
 ·rw[a]
  exact this.2.2.1
 ·rw[a]
  exact this.2.1
def IY(e f:Bool)(j:∀a:VK,(∀H',cJ H H'->a (.bl e) H')->ta σ H a)(i:∀H1 (a:VK),cJ H H1->(∀H',cJ H1 H'->a (.bl f) H')->tb σ H1 a)(q:∀H',cJ H H'->Q (.bl<|e||f) H'):Ip ta tb σ H Q:=by
 refine j _ λH1 g=>⟨_,rfl,?_⟩;cases e with
 |true=>grind
 |false=>exact dS<|i H1 _ g λH' h=>q H'<|g.trans h
def KY(e f:Bool)(h:∀a:VK,(∀H',cJ H H'->a (.bl e) H')->ta (σ.set i<|some v) H a)(g:∀H1 (a:VK),cJ H H1->(∀H',cJ H1 H'->a (.bl f) H')->tb (σ.set i<|some v) H1 a)
  (q:∀H',cJ H H'->u D ((σ.set i<|some v).set j<|some<|.bl<|e||f) H'):eX i v σ H (B7 (wK (Ip ta tb)<|eX j) u D):=IY e f h g q
inductive Mo(C:X4)(vs:Yb V)(H:Hp)(Q:VK):Prop
 |mk(x p s t y:X4)(ps:Yb Yc)(ss f ys:Yb V)(a:Yb QD)(sd:Yb SD)(e:vs=[.ref x])(bk:Bk C H x p s t y ps ss f ys)(pl:ps.length<=24)(g:f.length<=120)(h:Lz dD H f a)(i:∀d∈a,lS ps d)(j:Sys H ys sd)(l:ys.length<=60)
   (k:∀l us H',cJ H H'->H l=none->H' l=some (.lst us)->d6 H' us ((fF 0 (fH a)).filter (dj a sd))->Q (.ref l) H')
inductive Nc(x tb g d f:X4)(q:Hp)(j:Yb TK)(op:TK->Bool)(i:Nat)(σ:St)(a:Hp):Prop
 |mk(us:Yb V)(l p m n h:X8 V)(e:σ=[some (.ref x),some (.ref tb),some (.ref g),some (.ref d),some (.ref f),l,p,m,n,h])(r:∀b o,q b=some o->b≠f->a b=some o)(hf:a f=some (.lst us))(ul:us.length<=i)(s:d6 a us ((j.take i).filter op))
def vF(C:X4):Sp:=λa H Q _=>Mo C a H Q
def zf:cL ["self"] ["self"] (cK gF):={}
def zk (F:oI K "talks" "Book.talks" gF f fd) (m:Meth K C "talks" f) (bi:Binds K fd ["self"] []) (T:Txt K mg kw C):Md P w K mg base 1 C "talks" (dq C λ_ _ t _=>t):=by
 refine cy F m bi T.cl zf (λe H Q E h=>?_) λX H e Q E a h=>?_
 ·obtain⟨x,p,s,t,y,i,rfl,_⟩:=h
  rfl
 ·obtain⟨x,p,s,t,y,i,rfl,⟨l,n⟩,g,k⟩:=h
  obtain⟨j,_⟩:=a.fA [0];obtain rfl:=a.fK;exact⟨_,ag<|aD<|bu (a.b T.b_list) bH dQ<|ao<|cv<|aa j,_,rfl,x,C,l,_,_,rfl,n,T.cl,T.nT,Kj _ _ _ _,_,_,rfl,.inl<|cP.of g,k⟩
def nB:cL ["book","talks","sayings","floors","found","k","teller","hearer","hour","hushed"] ["book"] (cK gh):={}
def ox (D:Df K mg "open_tellings" gh ["book"] f fd) (T:Txt K mg kw C) (Zt:Md P w K mg base 1 C "talks" (dq C λ_ _ t _=>t)) (bv:Md P w K mg base 1 C "sayings" (dq C λ_ _ _ y=>y)) (a4:Md P w K mg base 1 C "tellings" (jb C))
  (bb:Gd P w K mg base 3 "floors_of_all" (qr C)) (bj:Gd P w K mg base 1 "is_above" pK) (a3:Gd P w K mg base 1 "is_silent" Ay) (bc:Gd P w K mg base 1 "is_barred" Aj):Gd P w K mg base 4 "open_tellings" (vF C):=by
 refine aJ D nB λX H vs Q E l h=>?_;obtain⟨x,p,s,t,y,ps,ss,U,O,A,sd,rfl,bk,pl,tl,qs,qk,sy,YB,k⟩:=h;have Yu:=Sq;obtain⟨⟨dx,hx⟩,hp,hs,ht,hy⟩:=id bk;obtain⟨S0,S1,S2,S3,S4,S5,S6,S7,S8,S9,_⟩:=l.fA [0,1,2,3,4,5,6,7,8,9];refine⟨_,(af (aB S1 l.nd<|bC (l.met Zt<|by decide) (aa S0) rfl)
 (af (aB S2 l.nd<|bC (l.met bv<|by decide) (aa S0) rfl)
 (af (aB S3 l.nd<|au (l.eO bb rfl (by lia)<|by decide)<|ao<|aa S0)
 (af (aB S4 l.nd<|bg bF)
 (af (bh l.own l.calm (aX<|bC (l.met a4<|by decide) (aa S0) rfl) (b8 l.calm<|a6 (aR S5 l.nd)<|a6 (aR S6 l.nd)<|a6 (aR S7 l.nd) bO)
 (af (aB S8 l.nd<|ah aG (ah aP (aa S1) (aa S5) aQ) ae ak)
 (af (aB S9 l.nd<|J.Bh (au (l.eO a3 rfl (by lia)<|by decide)<|aO (aa S2) (aa S6)<|aa S8)<|aY<|au (l.eO bc rfl (by lia)<|by decide)<|aO (aa S2) (aa S7)<|aa S6)
 (ag (aK (a7<|bq (bo<|au (l.eO bj rfl (by lia)<|by decide)<|aE (aa S8)<|aM (d9 l.room) (aa S3) (aa S7) aQ)<|bz<|bp<|J.Bs<|aa S9)
 (ag<|bw<|bA Ti SE SG bG (aa S4)<|ao<|aN<|aO (aa S5) (aa S6)<|aa S7)
 aL)))))
 (ag<|aD<|aa S4)))))),?_⟩
 refine⟨_,rfl,x,dx,_,rfl,hx,fm _ _ _ _ (by decide+kernel) (by decide+kernel) (by decide+kernel)<|by decide+kernel,x,p,s,t,y,U,rfl,⟨dx,hx⟩,ht,λtb a2=>?_⟩;have s1:=cJ.upd (o:=.lst U) a2;have B:upd H tb (.lst U) tb=some (.lst U):=cG;generalize upd H tb (.lst U)=H1 at s1 B;refine⟨_,rfl,x,dx,_,rfl,s1 _ _ hx,fm _ _ _ _ (by decide+kernel) (by decide+kernel) (by decide+kernel)<|by decide+kernel,x,p,s,t,y,O,rfl,⟨dx,s1 _ _ hx⟩,s1 _ _ hy,λyb a1=>?_⟩;have s2:=cJ.upd (o:=.lst O) a1;have F:upd H1 yb (.lst O) yb=some (.lst O):=cG;generalize upd H1 yb (.lst O)=H2 at s2 F;have S:=s1.trans s2;refine⟨_,rfl,x,p,s,t,y,ps,ss,U,O,sd,rfl,bk.mono S,pl,sy.mono<|Tk.of S,YB,λd H3 s3 dn fl=>?_⟩;have aj:=S.trans s3;refine⟨Km,λM I=>?_⟩;have s4:=cJ.upd (o:=.lst []) I;have G:=aj.trans s4;have r:upd H3 M (.lst []) M=some (.lst []):=cG;have ad:H M=none:=aj.free I;have ar:=fl.mono s4;have Y:=s4 _ _<|s3 _ _<|s2 _ _ B;have W:=s4 _ _<|s3 _ _ F;have an:tb≠M:=cH (s3 _ _<|s2 _ _ B) I;have al:yb≠M:=cH (s3 _ _ F) I;have bf:d≠M:=by
  obtain⟨Yj,e,_⟩:=fl;exact cH e I
 generalize upd H3 M (.lst [])=H4 at s4 G r ar Y W;clear s1 B s2 F S s3 fl aj I s4;refine⟨_,rfl,x,dx,_,rfl,G _ _ hx,fm _ _ _ _ (by decide+kernel) (by decide+kernel) (by decide+kernel)<|by decide+kernel,x,p,s,t,y,ps,ss,U,O,fH A,rfl,bk.mono G,(Dy qs).mono<|Tk.of G,tl,λm vs H5 s5 mn hm tm=>?_⟩;have be:m≠M:=(cH r mn).symm;have ml:vs.length<=240:=by
  have:=kL (fH A) 0;have:=tm.1;have:=(Dy qs).1;lia
 refine⟨m,rfl,⟨_,cP.of hm⟩,dw (K:=X.K) (a:=m) (xs:=vs) (Nc x tb yb d M H5 (fF 0<|fH A)<|dj A sd)
  ⟨[],none,none,none,none,none,rfl,λb o e _=>e,s5 _ _ r,R9 0,d6.nil⟩ ?_ ?_ ?_⟩
 ·rintro i σ H6 hi ⟨R,e1,e2,e3,e4,e5,rfl,N,_⟩
  exact cP.of<|N _ _ hm be
 ·rintro i v σ H6 hv ⟨R,e1,e2,e3,e4,e5,rfl,N,ai,ul,tu⟩
  have hi:i<vs.length:=(gI0.mp hv).1;obtain⟨g,YI⟩:∃g,(fF 0<|fH A)[i]? =some g:=⟨_,RY<|by rw[<-tm.1];exact hi⟩;obtain⟨a,rfl,ha⟩:=tm.2 i v g hv YI;obtain⟨q,hq,bd⟩:=PY qk<|R4 YI;have ay:∀b xs,H b=some (.tup xs)->H6 b=some (.tup xs):=λb xs e=>N b _ (s5 _ _<|G _ _ e)<|cH e ad;have bi:=N _ _ ha (p7 ha (s5 _ _ r)<|by intro z;cases z);have ap:=N _ _ (s5 _ _ Y) an;have Z:=N _ _ (s5 _ _ W) al;obtain⟨Yj,ab,hk⟩:=ar;have ab:=N _ _ (s5 _ _ ab) bf;obtain⟨vq,ax⟩:∃vq,U[g.1]? =some vq:=⟨_,RY<|by rw[qs.1];exact(gI0.mp hq).1⟩;obtain⟨aq,rfl,bm⟩:=qs.2 _ _ _ ax hq;have am:=ay _ _ bm;have as:Sys H6 O sd:=sy.mono ay;refine⟨a,_,rfl,fc.of bi,rfl,_,_,rfl,_,_,rfl,_,_,rfl,rfl,?_⟩;refine⟨_,rfl,_,rfl,xL ap (c8 ax)<|xT am rfl ?_⟩;rw[<-iG hq];refine KY (i:=8) (j:=9) (ta:=jO Ay [] E0<|dF (gC 2)<|dF (gC 6)<|dF (gC 8) kU) (tb:=jO Aj [] E0<|dF (gC 2)<|dF (gC 7)<|dF (gC 6) kU) (sd.any<|q9 g.2.1<|cN A g.1) (sd.any<|wM g.2.2 g.2.1) (λQ' q'=>⟨_,rfl,_,rfl,_,rfl,yb,O,g.2.1,cN A g.1,sd,rfl,Z,as,YB,q'⟩) (λH7 Q' s7 q'=>⟨_,rfl,_,rfl,_,rfl,yb,O,g.2.2,g.2.1,sd,rfl,s7 _ _ Z,as.mono<|Tk.of s7,q'⟩) λH7 s7=>?_;have dg:dP H7 d (.str g.2.2) (some<|oV<|floorOf g.2.2 sd):=by
   rw[<-hk _ bd];exact dP.k (k:=Sum.inr g.2.2)<|s7 _ _ ab
  have et:(fF 0<|fH A).take (i+1)=(fF 0<|fH A).take i++[g]:=by
   rw[SU,YI];rfl
  have L:=s7 _ _ ai;have ac:∀b o,H5 b=some o->b≠M->H7 b=some o:=λb o e n=>s7 _ _<|N b o e n;have a9:=tu.mono<|Tk.of s7;have no:dj A sd g=false->d6 H7 R (((fF 0<|fH A).take<|i+1).filter<|dj A sd):=λh=>by grind
  refine⟨_,rfl,_,rfl,_,rfl,d,_,rfl,dg,cN A g.1,floorOf g.2.2 sd,rfl,_,rfl,dJ (λa0=>⟨_,rfl,_,rfl,dJ (λhs=>?_) λhs=>?_⟩) λa0=>dS ?_⟩
  ·have ot:dj A sd g=true:=by
    unfold dj;rw[a0,hs];rfl
   refine⟨_,rfl,.inl ⟨rfl,_,cP.of L⟩,_,rfl,_,rfl,_,rfl,tL,λt1 av=>?_⟩;have s8:=cJ.upd (o:=.tup [.int g.1,.str g.2.1,.str g.2.2]) av;have bn:t1≠M:=(cH L av).symm;refine⟨M,R,.ref t1,rfl,rfl,s8 _ _ L,by lia,R++[.ref t1],_,_,_,_,_,rfl,λb o e n=>?_,cG,by rw[R3];show R.length+1<=i+1;lia,?_⟩
   ·rw[cI n]
    exact s8 _ _<|ac b o e n
   ·rw[et,T7,TV,Sb ot,List.filter_nil]
    refine(a9.mono<|(Tk.of s8).trans<|Tk.upd<|s8 _ _ L).snoc ⟨t1,rfl,?_⟩;rw[cI bn];exact cG
  ·refine⟨R,_,_,_,_,_,rfl,ac,L,by lia,no ?_⟩
   unfold dj;rw[VG hs,TX]
  ·refine⟨R,_,_,_,_,_,rfl,ac,L,by lia,no ?_⟩
   unfold dj;grind
 ·rintro σ H6 ⟨R,e1,e2,e3,e4,e5,rfl,N,ai,ul,tu⟩
  rw[tm.1,Tj]at tu;exact⟨_,rfl,k M R H6 (λb o e=>N b o (s5 _ _<|G _ _ e)<|cH e ad) ad ai tu⟩
variable {P:X6}{w:X7}{K:Frag}{mg:Yh}{base:Heap}{kw C:X4}{f:X4}{fd:FuncData}
def Pe{a:TE}{σ:St}{H:Hp}{e:VK}{g:Hp->Prop}(h:a σ H e):xI σ H λb f=>if b=true then a σ f e else g f:=h
def II(bs:Yb Bool):OD bs=bs.all id:=by
 unfold OD;rw[VB,Tv,Tv];constructor
 ·intro h b f
  obtain⟨i,e,rfl⟩:=WG f;have:=h i<|TU.mpr e;rw[Tn,RY e]at this;exact this
 ·intro h i e
  have a:=TU.mp e;rw[Tn,RY a];exact h _<|UN a
def BJ{J:It}{n:Nat}{is:Yb Nat}{g:TG}{M:TE}{σ:St}{H:Hp}{Q:VK}{N:Nat}(R:Nat->Hp->V->Prop)(mono:∀j v H H',Tk H H'->R j H v->R j H' v)(Z:N<=sizeLine)(U:∀i a,cJ H a->i<N->J.go i a)(W:∀a,cJ H a->J.stop N a)
  (he:∀(i:Nat)(F:St) v a E (L:VK),i<N->F.length=n->cJ H a->J.yld i a v E->(∀y x,cJ a x->R i x y->L y x)->
   g v (F++eF is σ) E λf H4=>(∃s:St,s.length=n/\f=s++eF is σ)/\M f H4 L)
  (T:∀v σ H (P S:St->Hp->Prop),(∀f H',P f H'->S f H')->g v σ H P->g v σ H S)
  (q:∀D ys H',H D=none->cJ H H'->H' D=some (.lst ys)->ys.length=N->(∀(j:Nat) v,ys[j]? =some v->R j H' v)->Q (.ref D) H'):eN J n is g xI M σ H Q:=by
 intro D p;refine⟨λi m ys a=>m=N-i/\i<=N/\cJ H a/\a D=some (.lst ys)/\ys.length=i/\∀(j:Nat) v,ys[j]? =some v->R j a v,⟨_,rfl,Tq _,cJ.upd p,cG,rfl,λj v h=>by cases h⟩,?_⟩;rintro i m ys a ⟨rfl,hi,r,A,rfl,I⟩;refine⟨A,?_⟩;by_cases l:ys.length<N
 ·refine .inr ⟨U _ a r l,λF v E G y=>?_⟩
  refine T _ _ _ _ _ (λf H' h=>⟨h.1,eU (B:=∃O,O<N-ys.length/\O=N-(ys.length+1)/\ys.length+1<=N/\cJ H H'/\H' D=some (.lst ys)/\ys.length=ys.length+1/\∀(j:Nat) v,ys[j]? =some v->R j H' v) h.2⟩) (he _ F v a E _ l G r y λz x C X=>⟨C _ _ A,by lia,N-(ys.length+1),by lia,rfl,l,λb o e=>?_,cG,by rw[R3];rfl,λj u w=>?_⟩)
  ·rw[cI<|cH e p]
   exact C _ _<|r _ _ e
  ·have K:=Tk.upd (C _ _ A) (ys:=ys++[z])
   by_cases Y:j<ys.length
   ·rw[Sr Y]at w
    exact mono _ _ _ _ ((Tk.of C).trans K)<|I j u w
   ·have e:j=ys.length:=by
     have:=(gI0.mp w).1;rw[R3]at this;have:j<ys.length+1:=this;lia
    subst e;rw[Sf<|R9 _,Xx]at w;cases w;exact mono _ _ _ _ K X
 ·have e:ys.length=N:=by lia
  exact .inl ⟨by rw[e];exact W a r,q D ys a p r A e I⟩
def xN{K:Frag}{is:Yb Nat}{p:TE}{σ:St}{H:Hp}{Q:VK}{a:X4}{xs:Yb V}(R:Nat->Hp->V->Prop)(mono:∀j v H H',Tk H H'->R j H v->R j H' v)(m:cP K H a xs)(x:xs.length<=sizeLine)
  (he:∀(i:Nat) v f (g:VK),xs[i]? =some v->cJ H f->(∀y l,cJ f l->R i l y->g y l)->p ([some v]++eF is σ) f g)
  (q:∀D ys H',H D=none->cJ H H'->H' D=some (.lst ys)->ys.length=xs.length->(∀(j:Nat) v,ys[j]? =some v->R j H' v)->Q (.ref D) H'):eN (GQ K a) 1 is (eX 0) xI p σ H Q:=
 BJ R mono x (λi f e r=>⟨xs,xs[i],e.seq m,by simp[r]⟩) (λf e=>⟨xs,e.seq m,R9 _⟩) (λi w v f z g r n e y s=>by
  obtain⟨rfl,y⟩:=y
  match w,n with
  |[o],_=>exact⟨⟨[some v],rfl,rfl⟩,he i v _ g (y xs<|e.seq m) e s⟩) (λ_ _ _ _ _ h k=>h _ _ k) q
def Dd{is:Yb Nat}{m:TE}{σ:St}{H:Hp}{Q:VK}{lo:Int}{N:Nat}(R:Nat->Hp->V->Prop)(mono:∀j v H H',Tk H H'->R j H v->R j H' v)(s:N<=sizeLine)
  (he:∀(i:Nat) a (e:VK),i<N->cJ H a->(∀y f,cJ a f->R i f y->e y f)->m ([some<|.int<|lo+i]++eF is σ) a e)
  (q:∀D ys H',H D=none->cJ H H'->H' D=some (.lst ys)->ys.length=N->(∀(j:Nat) v,ys[j]? =some v->R j H' v)->Q (.ref D) H'):eN (HN lo N) 1 is (eX 0) xI m σ H Q:=
 BJ R mono s (λi a _ g=>g) (λa _=>R9 N) (λi r v a w e g l p y n=>by
  obtain⟨rfl,rfl⟩:=y
  match r,l with
  |[o],_=>exact⟨⟨[some _],rfl,rfl⟩,he i _ e g p n⟩) (λ_ _ _ _ _ h k=>h _ _ k) q
def Hz{i:Nat}{v:V}{h:TT}{u e:TS}{D:Ends}{σ:St}{H:Hp}(R:St->Hp->Prop)(g:∀a H',R a H'->e D a H')(b:Bool)(n:∀Q:Bool->Hp->Prop,Q b H->h (σ.set i<|some v) H Q)(m:b=true->(∀a H',R a H'->e D a H')->u { D with nx:=e D } (σ.set i<|some v) H)(l:b=false->R (σ.set i<|some v) H):
  eX i v σ H (λf j=>B7 (Dh h u AH) e D f j):=by
 refine n _ ?_;cases b with
 |true=>exact eU<|m rfl g
 |false=>exact dS<|g _ _<|l rfl
def EM{K:Frag}{is:Yb Nat}{A:TT}{C:TE}{σ:St}{H:Hp}{Q:VK}{a:X4}{xs:Yb V}(s:cP K H a xs)(M:xs.length<=sizeLine)
  (he:∀(i:Nat) v f (B:VK)(z:Hp->Prop),xs[i]? =some v->cJ H f->(∀r,cJ f r->B v r)->(∀n,cJ f n->z n)->A ([some v]++eF is σ) f λb n=>if b=true then C ([some v]++eF is σ) n B else z n)
  (q:∀D ys H',H D=none->cJ H H'->H' D=some (.lst ys)->ys.length<=xs.length->(∀v∈ys,v∈xs)->Q (.ref D) H'):eN (GQ K a) 1 is (eX 0) A C σ H Q:=by
 intro D l;refine⟨λi m ys f=>m=xs.length-i/\i<=xs.length/\cJ H f/\f D=some (.lst ys)/\ys.length<=i/\∀v∈ys,v∈xs,⟨_,rfl,Tq _,cJ.upd l,cG,R9 0,λv h=>by cases h⟩,?_⟩;rintro i m ys f ⟨rfl,O,j,p,I,E⟩;refine⟨p,?_⟩;by_cases g:i<xs.length
 ·refine .inr ⟨⟨xs,xs[i],j.seq s,by simp[g]⟩,λG v L w y=>?_⟩
  obtain⟨rfl,y⟩:=y;have J:=y xs<|j.seq s
  match G,w with
  |[o],_=>
   refine⟨⟨[some v],rfl,rfl⟩,he i v _ _ _ J j (λr x=>⟨x _ _ p,by lia,xs.length-(i+1),by lia,rfl,g,λb o e=>?_,cG,?_,λu N=>?_⟩) λn F=>⟨xs.length-(i+1),by lia,rfl,g,j.trans F,F _ _ p,by lia,E⟩⟩
   ·rw[cI<|cH e l]
    exact x _ _<|j _ _ e
   ·grind
   ·grind
 ·have e:i=xs.length:=by lia
  subst e;exact .inl ⟨⟨xs,j.seq s,R9 _⟩,q D ys f l j p I E⟩
def Cs(us:Yb Int)(lo a:X8 Int):eB (us.map V.int) lo a=(((us.drop<|HT.iA us.length 0 lo).take<|HT.iA us.length us.length a-HT.iA us.length 0 lo)).map V.int:=by
 unfold eB;rw[R5,List.map_take,List.map_drop]
def Dw(us:Yb Int){k:Int}(h0:0<=k):∃vs:Yb Int,eB (us.map V.int) none (some k)=vs.map V.int/\vs.length<=k.toNat:=by
 refine⟨_,Cs ..,?_⟩;have e:HT.iA us.length us.length (some k)=min k.toNat us.length:=by
  show(if k<0 then(k+(us.length:Int)).toNat else min k.toNat us.length)=_;rw[R7<|Int.not_lt.mpr h0]
 rw[Tp,T3,HT.jR,e];exact SF (WW _ _)<|SF (sub_le _ _)<|WW _ _
def Lf{ps:Yb Yc}{H:Hp}{v:V}{d:SD}(h:Cp H v d)(k:Ja ps d):jy ps H v:=by
 obtain⟨a,e,f⟩:=h;refine⟨a,e,?_⟩;cases d with
 |knew p h=>exact .inl ⟨p,h,f,k.1,k.2⟩
 |unh p h=>
  refine .inr<|.inl ⟨p,oV h,f,k.1,?_⟩;cases h with
  |none=>exact .inl rfl
  |some i=>exact .inr ⟨i,rfl,k.2 i rfl⟩
 |sil p b e=>exact .inr<|.inr<|.inl ⟨p,b,e,f,k.1,k.2.1,k.2.2.1,k.2.2.2⟩
 |bar p q=>exact .inr<|.inr<|.inr ⟨p,q,f,k.1,k.2.1,k.2.2⟩
def AR{ps:Yb Yc}{i:Int}(h0:0<=i)(f:i<ps.length):∃z,mZ (ps.map V.str) i=some (.str z)/\z∈ps:=by
 have a:i.toNat<ps.length:=by lia
 have e:((i.toNat:Nat):Int)=i:=T9 h0;have:=c8 (xs:=ps.map V.str) (j:=i.toNat) (v:=V.str ps[i.toNat]) (by rw[Sk,RY a];rfl);rw[e]at this;exact⟨_,this,UN a⟩
def DF{α:Type}{l:Yb α}{p:α->Bool}{i:Nat}{d:α}(h:l[i]? =some d):oO l p i=p d:=by
 unfold oO;rw[h]
def Lz.snoc{α:Type}{R:Hp->V->α->Prop}{H:Hp}{xs:Yb V}{ds:Yb α}{v:V}{d:α}(h:Lz R H xs ds)(j:R H v d):Lz R H (xs++[v]) (ds++[d]):=by
 refine⟨by rw[R3,R3,h.1];rfl,λi u e a f=>?_⟩;by_cases g:i<xs.length
 ·rw[Sr g]at a
  rw[Sr<|by rw[<-h.1];exact g]at f;exact h.2 i u e a f
 ·rw[Sf<|by lia]at a
  rw[Sf<|by rw[<-h.1];lia,<-h.1]at f;obtain⟨l,n⟩:=gI0.mp a;have m:i-xs.length=0:=by
   have:i-xs.length<1:=l;lia
  rw[m]at a f;cases a;cases f;exact j
def qh{ps:Yb Yc}{g:Yb QD}(n:∀d∈g,lS ps d){e:TK}(h:e∈fF 0 (fH g)):∃q,g[e.1]? =some q/\e.2.1∈ps/\e.2.2∈ps:=by
 obtain⟨j,o,i,l,a⟩:=mz h;unfold fH at i;rw[Sk]at i;obtain⟨q,m,rfl⟩:=Th.mp i;have f:=n q<|R4 m;rw[Uq]at l;refine⟨q,by rw[l];exact m,?_⟩;obtain a|a:=a
 ·rw[a]
  exact⟨f.2.1,f.2.2.1⟩
 ·rw[a]
  exact⟨f.2.2.1,f.2.1⟩
def CS{α:Type}{l:Yb α}{i:Nat}{x y:α}(h:l[i]? =some x)(m:y∈l.take (i+1)):y∈l.take i\/y=x:=by
 rw[SU,h,Sz]at m;obtain m|m:=m
 ·exact .inl m
 ·exact .inr<|Sd.mp m
abbrev FH:=Yc->X8 Int
def fV(F:FH)(g:GD):FH:=λy=>if y=g.1 then some (match F g.1 with
 |none=>g.2
 |some j=>if j<g.2 then j else g.2) else F y
def c4(a:Yb GD):FH:=a.foldl fV λ_=>none
def p6(a:Yb GD)(g:GD):c4 (a++[g])=fV (c4 a) g:=by
 unfold c4;rw[WJ];rfl
structure lq(Yj:Yb (Key×V))(F:FH):Prop where
 get:∀z,dY Yj (Sum.inr z)=(F z).map V.int
def lq.put{Yj:Yb (Key×V)}{F:FH}{g:GD}{m:Int}(d:lq Yj F)(e:fV F g g.1=some m):lq (putK Yj (Sum.inr g.1)<|.int m) (fV F g):=⟨λz=>by
 rw[cU];by_cases h:z=g.1
 ·rw[Sb<|by rw[h],h,e]
  rfl
 ·rw[R7 λq=>h<|Up q,d.get z]
  show _=(if z=g.1 then _ else F z).map V.int;rw[R7 h]⟩
def i6(e:Yb GD)(a:Yb Nat):Yb GD:=a.filterMap λi=>e[i]?
def xV(p:GD->Bool):∀a:Yb GD,i6 a ((List.range a.length).filter<|oO a p)=a.filter p:=λa=>by
 have g:∀n,n<=a.length->i6 a ((List.range n).filter<|oO a p)=(a.take n).filter p:=λn=>by
  induction n with
  |zero=>exact λ_=>rfl
  |succ n h=>
   intro i;have f:a[n]? =some a[n]:=RY (by lia);have e:=h (by lia);unfold i6 at e ⊢;rw[range_succ,T7,XJ,e,SU,f,T7]
   congr 1
   show List.filterMap _ (List.filter (oO a p) [n])=List.filter p [a[n]];rw[TV,TV,DF f];grind
 grind
inductive Oe(C:X4)(vs:Yb V)(H:Hp)(Q:VK):Prop
 |mk(x p s t y:X4)(ps:Yb Yc)(ss f ys:Yb V)(a:Yb GD)(sd:Yb SD)(e:vs=[.ref x])(bk:Bk C H x p s t y ps ss f ys)(pl:ps.length<=24)(sl:ss.length<=24)(h:Lz dz H ss a)(g:∀d∈a,d.1∈ps)(i:Sys H ys sd)(l:ys.length<=60)
   (k:∀d Yj H',cJ H H'->H d=none->H' d=some (.dK Yj)->lq Yj (c4 (a.filter (cR sd)))->Q (.ref d) H')
def zW(C:X4):Sp:=λa H Q _=>Oe C a H Q
inductive Jv(x tb d l:X4)(H1:Hp)(j:Yb GD)(h:Yb Nat)(i:Nat)(σ:St)(a:Hp):Prop
 |mk(f g:X8 V)(Yj:Yb (Key×V))(e:σ=[some (.ref x),some (.ref tb),some (.ref d),f,g])(m:∀b o,H1 b=some o->b≠d->a b=some o)(hd:a d=some (.dK Yj))(n:Yj.length<=i)(sn:lq Yj (c4 (i6 j (h.take i))))
def gK(F:FH)(p:Yc)(h:Int):Bool:=match F p with
 |none=>false
 |some j=>decide<|j<h
inductive ME  (vs:Yb V)(H:Hp)(Q:VK):Prop
 |mk(d:X4)(Yj:Yb (Key×V))(F:FH)(p:Yc)(h:Int)(h0:vs=[.ref d,.str p,.int h])(e:H d=some (.dK Yj))(a:lq Yj F)(f:Q (.bl (gK F p h)) H)
def EG  :Sp:=λa H Q _=>ME  a H Q
def o4:cL ["seen","person","hour"] ["seen","person","hour"] (cK gH):={}
def LF (D:Df K mg "saw_ahead_of" gH ["seen","person","hour"] f fd):Gd P w K mg base 1 "saw_ahead_of" EG:=by
 refine aJ D o4 λX H r Q E g h=>?_;obtain⟨d,s,F,p,h,rfl,n,q,k⟩:=h;have m:=d9 g.room;obtain⟨l,i,o,_⟩:=g.fA [0,1,2];refine⟨_,ag<|aD<|aU (J.vS m (aa i)<|aa l)<|aY<|aZ b6 (aM m (aa l) (aa i) aQ) (aa o)<|cM _,?_⟩;have a:=dP.k (k:=Sum.inr p) n;rw[q.get]at a;unfold gK at k;cases e:F p with
 |none=>
  rw[e]at a k;exact⟨_,rfl,_,rfl,d,_,rfl,a,_,rfl,gQ bF0 k⟩
 |some j=>
  rw[e]at a k;exact⟨_,rfl,_,rfl,d,_,rfl,a,_,rfl,fD rfl ⟨_,rfl,_,rfl,d,_,rfl,a,_,rfl,_,_,rfl,rfl,k⟩⟩
def rS:cL ["book","sights","hours","i","person"] ["book"] (cK jf):={}
def HJ (D:Df K mg "seen_hours" jf ["book"] f fd) (T:Txt K mg kw C) (ab:Md P w K mg base 1 C "sights" (dq C λ_ s _ _=>s)) (ad:Gd P w K mg base 4 "open_sights" (uR C)):Gd P w K mg base 5 "seen_hours" (zW C):=by
 refine aJ D rS λX H vs Q E A h=>?_;obtain⟨x,p,s,t,y,ps,ss,ts,ys,q,sd,rfl,bk,pl,sl,gs,gp,sy,YB,k⟩:=h;have hu:=d9 A.room;have Yu:=Sq;obtain⟨⟨dx,hx⟩,hp,hs,ht,hy⟩:=id bk;obtain⟨S0,S1,S2,S3,S4,_⟩:=A.fA [0,1,2,3,4];refine⟨_,(af (aB S1 A.nd<|bC (A.met ab<|by decide) (aa S0) rfl)
 (af (aB S2 A.nd J.kG)
 (af (bh A.own A.calm (aX<|au (A.c ad)<|ao<|aa S0) (aR S3 A.nd)
 (af (aB S4 A.nd<|ah aG (ah aP (aa S1) (aa S3) aQ) ae ak)
 (ag<|bZ hu (aa S2) (aa S4)<|aH (A.b T.b_min) (J.iw A.calm) zB<|aE (ah aG (ah aP (aa S1) (aa S3) aQ) ae ak)<|J.Pc hu (aa S2) (aa S4)<|ah aG (ah aP (aa S1) (aa S3) aQ) ae ak)))
 (ag<|aD<|aa S2)))),?_⟩
 refine⟨_,rfl,x,dx,_,rfl,hx,fm _ _ _ _ (by decide+kernel) (by decide+kernel) (by decide+kernel)<|by decide+kernel,x,p,s,t,y,ss,rfl,⟨dx,hx⟩,hs,λtb ai=>?_⟩;generalize aj:upd H tb _=H1;obtain⟨s1,G⟩:=nx ai aj;intro d nd;generalize an:upd H1 d _=H2;obtain⟨s2,S⟩:=nx nd an;have F:=s1.trans s2;refine⟨_,rfl,x,p,s,t,y,ps,ss,ts,ys,q,sd,rfl,bk.mono F,pl,sl,gs.mono<|dz.mono<|Tk.of F,gp,sy.mono<|Tk.of F,YB,λl H3 s3 ln hl=>?_⟩;have e1:lY q sd q.length=((List.range q.length).filter<|oO q<|cR sd).map λi=>V.int (i:Nat):=rfl;rw[e1]at hl;have W:=F.trans s3;have al:=s2.trans s3;have il:∀i∈(List.range q.length).filter (oO q<|cR sd),i<q.length:=λi hi=>TU.mp (Su.mp hi).1;have dl:=xV (cR sd) q;have am:((List.range q.length).filter<|oO q<|cR sd).length<=24:=by
  have:=Ts (oO q<|cR sd)<|List.range q.length;rw[UU]at this;have:=gs.1;lia
 generalize (List.range q.length).filter (oO q<|cR sd)=L at hl il dl am;have ac:=s3 _ _ S;have M:H d=none:=s1.free nd;refine⟨l,rfl,⟨_,cP.of hl⟩,dw (xs:=L.map λi=>V.int (i:Nat)) (Jv x tb d l H3 q L) ⟨none,none,[],rfl,λb o e _=>e,ac,R9 0,⟨λ_=>rfl⟩⟩ ?_ ?_ ?_⟩
 ·rintro i σ R hi ⟨e3,e4,Z,rfl,N,I,kl,O⟩
  exact cP.of<|N _ _ hl (cH S ln).symm
 ·rintro i v σ R hv ⟨e3,e4,Z,rfl,N,I,kl,O⟩
  rw[Sk]at hv;obtain⟨n,hn,rfl⟩:=Th.mp hv;have Y:=il n<|R4 hn;have ap:i<L.length:=(gI0.mp hn).1;obtain⟨g,hg⟩:∃g,q[n]? =some g:=⟨_,RY Y⟩;obtain⟨vg,z⟩:∃vg,ss[n]? =some vg:=⟨_,RY<|by rw[gs.1];exact Y⟩;obtain⟨a,ta,rfl,ha⟩:=gs.2 _ _ _ z hg;have keep:∀{b:X4}{o:HO},H b=some o->R b=some o:=λe=>N _ _ (W _ _ e)<|cH e M;have B:=keep ha;have r:=N _ _ (al _ _ G)<|cH G nd;have U:=dP.k (k:=Sum.inr g.1) I;rw[O.get]at U;have lk:Z.length<sizeLine:=by lia
  have dA:i6 q (L.take<|i+1)=i6 q (L.take i)++[g]:=by
   unfold i6;rw[SU,hn,XJ];show _++List.filterMap _ [n]=_;rw[WA,hg];rfl
  have put:∀m:Int,fV (c4<|i6 q<|L.take i) g g.1=some m->Jv x tb d l H3 q L (i+1) [some<|.ref x,some<|.ref tb,some<|.ref d,some<|.int (n:Nat),some<|.str g.1] (upd R d<|.dK<|putK Z (Sum.inr g.1)<|.int m):=λm em=>
   ⟨_,_,_,rfl,λb o e n'=>by rw[cI n'];exact N b o e n',cG,SF (dH _ _ _)<|by lia,by
    rw[dA,p6];exact O.put em⟩
  refine⟨_,rfl,_,rfl,xL r (c8 z)<|xT B rfl ?_⟩;cases hF:c4 (i6 q<|L.take i) g.1 with
  |none=>
   rw[hF]at U;exact⟨_,rfl,_,rfl,xL r (c8 z)<|xT B rfl ⟨_,rfl,d,rfl,.inl ⟨_,.inl I⟩,_,rfl,_,rfl,_,rfl,xL r (c8 z)<|xT B rfl ⟨_,U,g.2,g.2,rfl,_,rfl,_,rfl,d,_,rfl,l7.k (k:=Sum.inr g.1) I lk,put _<|by unfold fV;rw[Sb rfl,hF,R7<|Int.lt_irrefl _]⟩⟩⟩
  |some j=>
   rw[hF]at U;exact⟨_,rfl,_,rfl,xL r (c8 z)<|xT B rfl ⟨_,rfl,d,rfl,.inl ⟨_,.inl I⟩,_,rfl,_,rfl,_,rfl,xL r (c8 z)<|xT B rfl ⟨_,U,g.2,j,rfl,_,rfl,_,rfl,d,_,rfl,l7.k (k:=Sum.inr g.1) I lk,put _<|by unfold fV;rw[Sb rfl,hF]⟩⟩⟩
 ·rintro σ R ⟨e3,e4,Z,rfl,N,I,kl,O⟩
  rw[R5,Tj,dl]at O;exact⟨_,rfl,k d Z R (λb o e=>N _ _ (W _ _ e)<|cH e M) M I O⟩
def rB(t:TK):Yb Key:=[Sum.inl (t.1:Int),Sum.inr t.2.1,Sum.inr t.2.2]
def vN{a b:TK}(h:rB a=rB b):a=b:=by
 obtain⟨k,t,e⟩:=a;obtain⟨f,g,i⟩:=b;injection h with h1 h2
 injection h2 with h2 h3
 injection h3 with h3 _
 have q:=Sum.inl.inj h1;have q1:k=f:=by lia
 have j:=Up h2;grind
def Rm(Yj:Yb (Yb Key×V))(a:Yb QD)(e:Yb TK):Prop:=∀t∈e,dY Yj (rB t)=some (.int<|cN a t.1)
def Px(Yj:Yb (Yb Key×V))(e:Yb QD)(a:Yb TK):Prop:=∀t:TK,dY Yj (rB t)=if t∈a then some (.int<|cN e t.1) else none
theorem tZ(a:Yb QD):∀(f done:Yb TK) (Yj:Yb (Yb Key×V)),Px Yj a done->Px (jd Yj<|f.map λt=>(rB t,V.int<|cN a t.1)) a (done++f)
 |[],done,Yj,h=>by
  rw[SH];exact h
 |t::r,done,Yj,h=>by
  have:=tZ a r (done++[t]) (putK Yj (rB t)<|.int<|cN a t.1) λu=>by
   rw[cU,h u];by_cases e:u=t
   ·grind
   ·rw[R7 λq=>e<|vN q]
    by_cases m:u∈done
    ·rw[Sb m,Sb<|SM _ m]
    grind
  rwa [R8]at this
theorem qU:∀(a Yj:Yb (Yb Key×V)),(jd Yj a).length<=Yj.length+a.length
 |[],Yj=>R9 _
 |p::r,Yj=>by
  have e:=qU r<|putK Yj p.1 p.2;have f:=dH Yj p.1 p.2;show(jd (putK Yj p.1 p.2) r).length<=_;grind
theorem su:∀(i Yj:Yb (Yb Key×V)) (g:Yb Key×V),g∈jd Yj i->(∃q∈Yj,g.1=q.1)\/∃q∈i,g.1=q.1
 |[],Yj,g,h=>.inl ⟨g,h,rfl⟩
 |p::r,Yj,g,h=>by
  obtain ⟨q,a,e⟩|⟨q,a,e⟩:=su r (putK Yj p.1 p.2) g h
  ·unfold putK at a
   split at a
   ·obtain⟨f,j,rfl⟩:=SQ.mp a
    refine .inl ⟨f,j,?_⟩;rw[e];split<;>rfl
   ·obtain a|a:=Sz.mp a
    ·exact .inl ⟨q,a,e⟩
    ·rw[Sd.mp a]at e
     exact .inr ⟨p,.head _,e⟩
  ·exact .inr ⟨q,.tail _ a,e⟩
inductive Qd(C:X4)(vs:Yb V)(H:Hp)(Q:VK):Prop
 |mk(x p s t y:X4)(ps:Yb Yc)(ss f ys:Yb V)(a:Yb QD)(e:vs=[.ref x])(bk:Bk C H x p s t y ps ss f ys)(g:f.length<=120)(h:Lz dD H f a)(i:∀d∈a,lS ps d)
   (k:∀d Yj H',cJ H H'->H d=none->H' d=some (.dT Yj)->Rm Yj a (fF 0 (fH a))->Q (.ref d) H')
def Ks(C:X4):Sp:=λa H Q _=>Qd C a H Q
inductive Oa(x tb d:X4)(H1:Hp)(f:Yb QD)(h:Yb TK)(i:Nat)(σ:St)(a:Hp):Prop
 |mk(g:X8 V)(Yj:Yb (Yb Key×V))(e:σ=[some (.ref x),some (.ref tb),some (.ref d),g])(j:∀b o,H1 b=some o->b≠d->a b=some o)(hd:a d=some (.dT Yj))(l:Yj.length<=i)(sn:Rm Yj f (h.take i))
inductive QJ(C:X4)(vs:Yb V)(H:Hp)(Q:VK):Prop
 |mk(x p s t y:X4)(ps:Yb Yc)(ss f ys:Yb V)(a:Yb QD)(sd:Yb SD)(e:vs=[.ref x])(bk:Bk C H x p s t y ps ss f ys)(pl:ps.length<=24)(h:f.length<=120)(i:Lz dD H f a)(j:∀d∈a,lS ps d)(m:Sys H ys sd)(l:ys.length<=60)
   (k:∀d Yj H',cJ H H'->H d=none->H' d=some (.dT Yj)->Px Yj a ((fF 0 (fH a)).filter (dj a sd))->Yj.length<=240->(∀g∈Yj,∃t∈(fF 0 (fH a)).filter (dj a sd),g.1=rB t)->Q (.ref d) H')
def Ju(C:X4):Sp:=λa H Q _=>QJ C a H Q
def dO(e:Yb QD)(a b:TK):Bool:=decide (a.2.2=b.2.1)&&decide (cN e a.1<cN e b.1)
def lC(H:Hp)(a:X4)(t:TK):Prop:=H a=some (.tup [.int (t.1:Nat),.str t.2.1,.str t.2.2])
def dP.tr{H:Hp}{a b:X4}{Yj:Yb (Yb Key×V)}{k:Yb Key}(e:Rd H a (.dT Yj))(f:H b=some (.tup<|k.map kV)):dP H a (.ref b) (dY Yj k):=.inr ⟨Yj,k,b,e,rfl,f,rfl⟩
inductive Hm  (vs:Yb V)(H:Hp)(Q:VK):Prop
 |mk(d a b:X4)(Yj:Yb (Yb Key×V))(f:Yb QD)(e:Yb TK)(t u:TK)(h0:vs=[.ref d,.ref a,.ref b])(j:Rd H d (.dT Yj))(h:Px Yj f e)(n:lC H a t)(i:lC H b u)(m:t∈e)(g:u∈e)(l:Q (.bl (dO f t u)) H)
def yP  :Sp:=λa H Q _=>Hm  a H Q
def yB:cL ["hours","telling","later"] ["hours","telling","later"] (cK l5):={}
def Dv (D:Df K mg "leads_to" l5 ["hours","telling","later"] f fd):Gd P w K mg base 1 "leads_to" yP:=by
 refine aJ D yB λX H z Q E o h=>?_;obtain⟨d,a,b,A,y,B,t,u,rfl,g,n,q,j,v,x,k⟩:=h;have p:=d9 o.room;obtain⟨i,s,m,_⟩:=o.fA [0,1,2];refine⟨_,ag<|aD<|aU (aZ aS (ah aG (aa s) ae ak) (ah aG (aa m) ae ak)<|cM _)<|aY<|aZ b6 (aM p (aa i) (aa s) aQ) (aM p (aa i) (aa m) aQ)<|cM _,?_⟩;have l:=dP.tr (k:=rB t) g q;have r:=dP.tr (k:=rB u) g j;rw[n t,Sb v]at l;rw[n u,Sb x]at r;unfold dO at k;refine⟨_,rfl,xT q rfl ⟨_,rfl,xT j rfl ⟨rfl,_,rfl,dJ (λe=>?_) λno=>?_⟩⟩⟩
 ·rw[dT0<|V.str.inj<|Sj e,To]at k
  exact⟨_,rfl,_,rfl,d,_,rfl,l,_,rfl,_,rfl,d,_,rfl,r,_,_,rfl,rfl,k⟩
 ·simp_all
def jX:cL ["book","talks","hours","telling"] ["book"] (cK eR):={}
def KI (D:Df K mg "hours_of_tellings" eR ["book"] f fd) (T:Txt K mg kw C) (Zt:Md P w K mg base 1 C "talks" (dq C λ_ _ t _=>t)) (ad:Md P w K mg base 1 C "tellings" (jb C)):Gd P w K mg base 2 "hours_of_tellings" (Ks C):=by
 refine aJ D jX λX H vs Q E j h=>?_;obtain⟨x,p,s,t,y,ps,ss,ts,ys,B,rfl,bk,tl,R,qk,k⟩:=h;have hu:=d9 j.room;have Yu:=Sq;obtain⟨⟨dx,hx⟩,hp,hs,Y,hy⟩:=id bk;obtain⟨S0,S1,S2,S3,_⟩:=j.fA [0,1,2,3];refine⟨_,(af (aB S1 j.nd<|bC (j.met Zt<|by decide) (aa S0) rfl)
 (af (aB S2 j.nd J.N9)
 (af (bh j.own j.calm (aX<|bC (j.met ad<|by decide) (aa S0) rfl) (aR S3 j.nd)
 (ag<|bZ hu (aa S2) (aa S3)<|ah aG (ah aP (aa S1) (ah aG (aa S3) ae ak) cA) ae ak))
 (ag<|aD<|aa S2)))),?_⟩
 refine⟨_,rfl,x,dx,_,rfl,hx,fm _ _ _ _ (by decide+kernel) (by decide+kernel) (by decide+kernel)<|by decide+kernel,x,p,s,t,y,ts,rfl,⟨dx,hx⟩,Y,λtb ab=>?_⟩;generalize ac:upd H tb _=H1;obtain⟨s1,n⟩:=nx ab ac;intro d nd;generalize ai:upd H1 d _=H2;obtain⟨s2,A⟩:=nx nd ai;have m:=s1.trans s2;have z:=s1.free nd;refine⟨_,rfl,x,dx,_,rfl,m _ _ hx,fm _ _ _ _ (by decide+kernel) (by decide+kernel) (by decide+kernel)<|by decide+kernel,x,p,s,t,y,ps,ss,ts,ys,fH B,rfl,bk.mono m,Dy<|R.mono<|dD.mono<|Tk.of m,tl,λl us H3 S ln hl G=>?_⟩;have N:=m.trans S;have ul:us.length<=240:=by
  have:=kL (fH B) 0;have:=G.1;have:=(Dy R).1;lia
 have mem:∀g∈fF 0 (fH B),∃q,B[g.1]? =some q/\g.2.1∈ps/\g.2.2∈ps:=λg hk=>qh qk hk;generalize fF 0 (fH B)=ks at G k mem;refine⟨l,rfl,⟨_,cP.of hl⟩,dw (a:=l) (xs:=us) (Oa x tb d H3 B ks) ⟨none,[],rfl,λb o e _=>e,S _ _ A,R9 0,λt Y=>by cases Y⟩ ?_ ?_ ?_⟩
 ·rintro i σ Z hi ⟨e3,W,rfl,r,U,kl,O⟩
  exact cP.of<|r _ _ hl (cH A ln).symm
 ·rintro i v σ Z hv ⟨e3,W,rfl,r,U,kl,O⟩
  have aj:=(gI0.mp hv).1;obtain⟨g,YI⟩:∃g,ks[i]? =some g:=⟨_,RY<|by rw[<-G.1];exact aj⟩;obtain⟨a,rfl,ha⟩:=G.2 _ _ _ hv YI;obtain⟨q,hq,_,_⟩:=mem g<|R4 YI;obtain⟨vq,I⟩:∃vq,ts[g.1]? =some vq:=⟨_,RY<|by rw[R.1];exact(gI0.mp hq).1⟩;obtain⟨aq,rfl,M⟩:=R.2 _ _ _ I hq;have F:=r _ _ ha (λe=>by rw[e,S _ _ A]at ha;cases ha);have L:=r _ _ ((s2.trans S) _ _ n)<|cH n nd;have lk:W.length<sizeLine:=by lia
  have eh:=iG hq;refine⟨_,rfl,_,rfl,xT F rfl<|xL L (c8 I)<|xT (r _ _ (N _ _ M)<|cH M z) rfl ⟨_,rfl,_,rfl,d,_,rfl,l7.t (k:=rB g) U F lk,_,_,rfl,λb o e n'=>by rw[cI n'];exact r b o e n',cG,SF (dH _ _ _)<|by lia,λu hu=>?_⟩⟩;rw[cU];by_cases e:u=g
  ·grind
  ·rw[R7 λq=>e<|vN q]
   exact O u<|(CS YI hu).resolve_right e
 ·rintro σ Z ⟨e3,W,rfl,r,U,kl,O⟩
  rw[G.1,Tj]at O;exact⟨_,rfl,k d W Z (λb o e=>r _ _ (N _ _ e)<|cH e z) z U O⟩
def oF:cL ["book","hours"] ["book"] (cK gf):={}
def MO (D:Df K mg "hours_of_open" gf ["book"] f fd) (T:Txt K mg kw C) (W:Gd P w K mg base 2 "hours_of_tellings" (Ks C)) (O:Gd P w K mg base 4 "open_tellings" (vF C)):Gd P w K mg base 5 "hours_of_open" (Ju C):=by
 refine aJ D oF λX H vs Q E m h=>?_;obtain⟨x,p,s,t,y,ps,ss,ts,ys,g,sd,rfl,bk,pl,tl,U,qk,sy,YB,k⟩:=h;have o:=d9 m.room;have Yu:=Sq;obtain⟨S0,S1,_⟩:=m.fA [0,1];refine⟨_,(af (aB S1 m.nd<|au (m.eO W rfl (by lia)<|by decide)<|ao<|aa S0)
 (ag<|aD<|bu (m.b T.b_dict) (J.fN (Lp m.room) m.calm) AW<|ao<|bN (is:=[1]) (xs:=["telling"]) (ns:=["hours"]) m.calm (aX<|au (m.eO O rfl (by lia)<|by decide)<|ao<|aa S0) {} (λ_ _ _ _ _=>br (i:=0)) (λ_ _ _ _ _=>bX) (λ_ _ _ _ _=>aN<|aE (aT (i:=0))<|aM o (a5 (i:=1)) (aT (i:=0)) aQ) m.hsc m.hN)),?_⟩
 refine⟨_,rfl,x,p,s,t,y,ps,ss,ts,ys,g,rfl,bk,tl,U,qk,λd Yj H1 L nd hd R=>?_⟩;refine⟨_,rfl,x,p,s,t,y,ps,ss,ts,ys,g,sd,rfl,bk.mono L,pl,tl,U.mono<|dD.mono<|Tk.of L,qk,sy.mono<|Tk.of L,YB,λl us H2 s2 ln hl r=>?_⟩;have ul:us.length<=240:=by
  have:=kL (fH g) 0;have:=r.1;have:=(Dy U).1;have:=Ts (dj g sd)<|fF 0<|fH g;lia
 have om:∀t∈(fF 0<|fH g).filter (dj g sd),t∈fF 0 (fH g):=λt R=>(Su.mp R).1;generalize (fF 0<|fH g).filter (dj g sd)=G at r k om;refine⟨l,rfl,⟨_,cP.of hl⟩,xN (λj H v=>∃(u:TK) (a b:X4),G[j]? =some u/\v=.ref a/\H a=some (.tup [.ref b,.int<|cN g u.1])/\lC H b u) (λ_ _ _ _ tk ⟨u,a,b,e,ev,Y,A⟩=>⟨u,a,b,e,ev,tk _ _ Y,tk _ _ A⟩) (cP.of hl) (by lia) ?_ ?_⟩
 ·intro i v H3 K1 N M k1
  obtain⟨u,o⟩:∃u,G[i]? =some u:=⟨_,RY<|by rw[<-r.1];exact(gI0.mp N).1⟩;obtain⟨b,rfl,A⟩:=r.2 _ _ _ N o;have B:=M _ _ A;have dg:=dP.t (k:=rB u) (M _ _<|s2 _ _ hd) B;rw[R u<|om u<|R4 o]at dg;exact⟨_,rfl,_,rfl,_,rfl,d,_,rfl,dg,uk,λt2 F=>k1 _ _ (cJ.upd F) ⟨u,t2,b,o,rfl,cG,cJ.upd F _ _ B⟩⟩
 ·intro q1 zs H3 ab M Z zl zr
  refine⟨q1,zs,G.map λt=>(rB t,V.int<|cN g t.1),rfl,cP.of Z,by rw[zl,r.1,R5],λi v kv N n=>?_,λe ne=>?_⟩
  ·obtain⟨u,a,b,o,rfl,Y,A⟩:=zr i v N
   rw[Sk,o]at n;cases n;exact⟨a,b,rfl,Y,A⟩
  ·have I:=(L.trans s2).trans M
   exact k e _ _ (I.trans<|cJ.upd ne) (I.free ne) cG (tZ g G [] [] λt=>by rw[R7 λh=>by cases h];rfl) (by
    have h:=qU (G.map λt=>(rB t,V.int<|cN g t.1)) [];rw[R5,<-r.1]at h;have z:([]:Yb (Yb Key×V)).length=0:=rfl;lia) λkv n=>by
    obtain ⟨q,hq,_⟩|⟨q,hq,e⟩:=su _ _ kv n
    ·cases hq
    ·obtain⟨t,S,rfl⟩:=SQ.mp hq
     exact⟨t,S,e⟩
def jY(f:Yb QD)(e:Yb TK):Bool:=(List.range<|e.length-1).all λk=>match e[k]?,e[k+1]? with
 |some a,some b=>dO f a b
 |_,_=>false
def pX(F:FH)(f:Yb QD)(g:Yb TK)(e:Yb TK)(p:Yc)(h:Int):Bool:=match e.head?,e.getLast? with
 |some a,some b=>(e.all λt=>decide<|t∈g)&&(gK F a.2.1 (cN f a.1)&&(jY f e&&(decide (b.2.2=p)&&decide (cN f b.1<=h))))
 |_,_=>false
def DV{α:Type}{xs:Yb α}(h:1<=xs.length):mZ xs (-1)=xs[xs.length-1]? :=by
 have e:J4 xs.length (-1)=some (xs.length-1):=by
  unfold J4;grind
 unfold mZ;rw[e];rfl
inductive Gw  (K:Frag)(vs:Yb V)(H:Hp)(Q:VK):Prop
 |mk(sc:X4)(ns:Yb Int)(k:Int)(h0:vs=[.ref sc,.int k])(e:cP K H sc (ns.map V.int))(a:0<=k)(f:∀c:Int,Q (.int c) H)
def yO  (K:Frag):Sp:=λa H Q _=>Gw K a H Q
inductive LW  (vs:Yb V)(H:Hp)(Q:VK):Prop
 |mk(c k:Int)(h0:vs=[.int c,.int k])(e:0<=k)(a:k<=1000)(f:∀m:Int,0<=m->m<2147483587->Q (.int m) H)
def sJ  :Sp:=λa H Q _=>LW  a H Q
def du(a:Int){m:Int}(h:0<m):0<=a%m/\a%m<m:=⟨Int.emod_nonneg _<|by lia,Int.emod_lt_of_pos _ h⟩
def vA:cL ["_law_script","_law_k"] ["_law_script","_law_k"] (cK jP):={}
def GI (D:Df K mg "_law_cell_at" jP ["_law_script","_law_k"] f fd) (T:Txt K mg kw C):Gd P w K mg base 1 "_law_cell_at" (yO K):=by
 refine aJ D vA λX H r Q E g h=>?_;obtain⟨i,n,k,rfl,a,p,q⟩:=h;rw[<-g.fK]at a;obtain⟨m,l,_⟩:=g.fA [0,1];refine⟨_,(af (aK (aI b6 (aa l) (aH (g.b T.b_len) aV cZ<|ao<|aa m)<|cM _)
 (ag<|aD<|ah aP (aa m) (aa l) aQ)
 aL)
 (ag<|aD ae)),?_⟩
 refine⟨_,rfl,_,rfl,i,_,rfl,.inl a,_,_,rfl,rfl,_,rfl,dJ (λlt=>?_) λ_=>?_⟩
 ·rw[Sw,R5]at lt
  have e:((k.toNat:Nat):Int)=k:=T9 p;have o:=c8 (xs:=n.map V.int) (j:=k.toNat) (v:=V.int<|n[k.toNat]'(by lia)) (by rw[Sk,RY<|by lia];rfl);rw[e]at o;exact⟨_,rfl,_,rfl,i,_,_,_,rfl,rfl,a,o,q _⟩
 ·exact q 0
def Fo:cL ["_law_cell","_law_k","_law_number"] ["_law_cell","_law_k"] (cK vB):={}
def L3 (D:Df K mg "_law_mix" vB ["_law_cell","_law_k"] f fd):Gd P w K mg base 1 "_law_mix" sJ:=by
 refine aJ D Fo λX H n Q E g h=>?_;obtain⟨c,k,rfl,o,l,q⟩:=h;obtain⟨i,a,e,_⟩:=g.fA [0,1,2];refine⟨_,(af (aB e g.nd<|aF ba (aF bM (aF bD (aF bD (aF bD (aF ba (aa i)<|aF J.ou ae ae)<|aF bM (aF bM ae<|aa a)<|aa a)<|aF bM (aF bM ae<|aa a)<|aa a) ae) ae) ae)
 (ag<|aD<|aF ba (aF bM (aa e)<|aa e) ae)),?_⟩
 refine⟨_,rfl,_,_,rfl,rfl,⟨by decide,by decide,by decide⟩,_,_,rfl,rfl,by decide+kernel,_,rfl,_,_,rfl,rfl,.inl ⟨by decide,by decide⟩,_,rfl,_,_,rfl,rfl,.inr ⟨by lia,by lia⟩,_,_,rfl,rfl,_,rfl,_,_,rfl,rfl,.inl ⟨by decide,by decide⟩,_,rfl,_,_,rfl,rfl,.inr ⟨by lia,by lia⟩,_,_,rfl,rfl,_,_,rfl,rfl,_,_,rfl,rfl,.inr ⟨by decide,by decide⟩,_,_,rfl,rfl,by decide,?_⟩;have j:=du ((c%10^Int.toNat 15+104729*k*k+31*k*k+1)*48271) (m:=2147483629) (by decide);dsimp only;generalize (c%10^Int.toNat 15+104729*k*k+31*k*k+1)*48271%2147483629=S at j;have r:=du (S*S) (m:=2147483587) (by decide);exact⟨_,rfl,_,rfl,_,_,rfl,rfl,.inl ⟨by lia,by lia⟩,_,_,rfl,rfl,by decide,q _ r.1 r.2⟩
def az:Yc:= "abcdefghijklmnopqrstuvwxyz"
def Ih(z:Yc):Prop:=∀c∈z.cps.toList,c∈az.cps.toList
def Jf:∀c∈az.cps.toList,jK (.str ⟨#[c]⟩)=true:=by decide+kernel
def hU:Yb Yc:=["j","q","x","z","jz","qz","xz","zj","zq","zx"]
def mark(c:Nat):Bool:=c==106||c==113||c==120||c==122
def Bv:∀z∈hU,1<=z.length/\z.length<=2/\(z.cps.toList.any mark)=true/\(z.cps.toList.all λc=>az.cps.toList.contains c)=true:=by decide+kernel
def ID:hU.Nodup:=by decide+kernel
def De:∀w∈kept,(w.cps.toList.any mark)=false:=by decide+kernel
def ER{z:Yc}(h:Ih z)(n:1<=z.length)(m:z.length<=12)(hm:(z.cps.toList.any mark)=true):d7 z=true:=by
 unfold d7;rw[dT0<|by lia,dT0<|by lia,To,To,Uj];refine⟨?_,?_⟩
 ·rw[all_map,Tv]
  intro v i;obtain⟨c,j,rfl⟩:=SQ.mp i;exact Jf c<|h c j
 ·cases e:J6 (.str z) (kept.map V.str) with
  |false=>rfl
  |true=>
   have f:(kept.map V.str).any (λy=>tf y<|.str z)=true:=e;rw[any_map,V7]at f;obtain⟨w,g,l⟩:=f;have a:=De w g;rw[eq_of_beq l,hm]at a;cases a
theorem AQ:∀zs:Yb Yc,(∀z∈zs,Ih z)->Ih (Str.join "" zs)
 |[],_=>λc a=>by
  have:c∈([]:Yb Nat):=a;cases this
 |[z],h=>h z<|SO ..
 |z::y::r,h=>λc a=>by
  have e:(Str.join "" (z::y::r)).cps.toList=z.cps.toList++(Str.join "" (y::r)).cps.toList:=by
   show(z++ "" ++Str.join "" (y::r)).cps.toList=_;rw[iW,iW];show z.cps.toList++[]++_=_;rw[SH]
  rw[e]at a;obtain a|a:=Sz.mp a
  ·exact h z (SO ..) c a
  ·exact AQ (y::r) (λu f=>h u<|Ta _ f) c a
def Gj(i:Int):Nat:=az.cps.toList.getD i.toNat 0
def D7:∀i:Fin 26,mZ az.cps.toList ((i.val:Nat):Int)=some (Gj (i.val:Nat))/\Gj (i.val:Nat)∈az.cps.toList:=by decide+kernel
def Ai{i:Int}(h0:0<=i)(a:i<26):mZ az.cps.toList i=some (Gj i)/\Gj i∈az.cps.toList:=by
 have:=D7 ⟨i.toNat,by lia⟩;grind
def ki(i:Int):Yc:=hU.getD i.toNat ""
def Eo{i:Int}(h0:0<=i)(f:i<10):mZ (hU.map V.str) i=some (.str<|ki i)/\ki i∈hU:=by
 have a:i.toNat<hU.length:=by
  show i.toNat<10;lia
 have e:((i.toNat:Nat):Int)=i:=T9 h0;have g:hU[i.toNat]? =some hU[i.toNat]:=RY a;have d:ki i=hU[i.toNat]:=by
  unfold ki;rw[Tn,g];rfl
 have:=c8 (xs:=hU.map V.str) (j:=i.toNat) (v:=V.str hU[i.toNat]) (by rw[Sk,g];rfl);rw[e]at this;rw[d];exact⟨this,UN a⟩
def GN{i j:Int}(h0:0<=i)(l:i<10)(g:0<=j)(g1:j<10)(h:ki i=ki j):i=j:=by
 have f:i.toNat<hU.length:=by
  show i.toNat<10;lia
 have e:j.toNat<hU.length:=by
  show j.toNat<10;lia
 have d:∀{k:Int}(a:k.toNat<hU.length),ki k=hU[k.toNat]:=λa=>by
  unfold ki;grind
 rw[d f,d e]at h;have:=(Uy ID).mp h;lia
def rh(B:Yc)(A c:Int)(k:Nat):Yc:=nG B none (some A)++ki (((k:Int)+c)%10)++nG B (some A) none
def F4{B:Yc}{lo a:X8 Int}(h:Ih B):Ih (nG B lo a):=λc e=>h c<|Wi<|Ub e
def N3{B:Yc}{A c:Int}{k:Nat}(e:Ih B)(o:B.length<=9)(g:0<=A)(a1:A<=B.length):d7 (rh B A c k)=true:=by
 have m:=du ((k:Int)+c) (m:=10) (by decide);obtain⟨p,n,h,l⟩:=Bv _ (Eo m.1 m.2).2;have f:=T9 g;have i:(nG B none<|some A).length=A.toNat:=by
  have:=L1 (z:=B) (k:=A.toNat) (by lia);rw[f]at this;rw[<-mO,this,Tp,mO];lia
 have j:(nG B (some A) none).length=B.length-A.toNat:=by
  have:=Ml (z:=B) (k:=A.toNat) (by lia);rw[f]at this;rw[<-mO,this,T3,mO]
 have len:(rh B A c k).length=A.toNat+(ki<|((k:Int)+c)%10).length+(B.length-A.toNat):=by
  unfold rh;rw[vV,vV,i,j]
 refine ER (λx a=>?_) (by lia) (by lia) ?_
 ·unfold rh at a
  rw[iW,iW]at a;obtain a|a:=Sz.mp a
  ·obtain a|a:=Sz.mp a
   ·exact F4 e x a
   grind
  ·exact F4 e x a
 ·unfold rh
  rw[iW,iW,XM,XM,h,Bool.or_true,Bool.true_or]
def Ol{B:Yc}{A c:Int}{i j:Nat}(h:i<j)(l:j<10):rh B A c i≠rh B A c j:=by
 intro e;have a:=SY (λz:Yc=>z.cps.toList) e;unfold rh at a;simp only[iW]at a;have g:=du ((i:Int)+c) (m:=10) (by decide);have f:=du ((j:Int)+c) (m:=10) (by decide);have:=GN g.1 g.2 f.1 f.2<|HH<|List.append_cancel_left<|List.append_cancel_right a;lia
def nodup_range{f:Nat->Yc}{n:Nat}(h:∀i j,i<j->j<n->f i≠f j):((List.range n).map f).Nodup:=by
 unfold List.Nodup;rw[WL];exact Xh (λ{a b} _ g e=>h a b e<|TU.mp g) XE
theorem Bm:∀ys:Yb V,(∀v∈ys,∃c∈az.cps.toList,v=V.str ⟨#[c]⟩)->∃zs:Yb Yc,ys=zs.map V.str/\∀z∈zs,z.length=1/\Ih z
 |[],_=>⟨[],rfl,λz f=>by cases f⟩
 |v::r,h=>by
  obtain⟨zs,e,f⟩:=Bm r λu i=>h u<|Ta _ i;obtain⟨c,j,rfl⟩:=h v SO;refine⟨⟨#[c]⟩::zs,by rw[SV,<-e],λz a=>?_⟩;obtain rfl|a:=SS.mp a
  ·exact⟨rfl,λd g=>by
    have:d∈[c]:=g;rw[Sd.mp this];exact j⟩
  ·exact f z a
theorem yA:∀zs:Yb Yc,(∀z∈zs,z.length=1)->(zs.map (·.length)).sum=zs.length
 |[],_=>rfl
 |z::r,h=>by
  rw[SV,UG,yA r λy a=>h y<|Ta _ a,h z SO,Te];lia
inductive BZ  (vs:Yb V)(H:Hp)(Q:VK):Prop
 |mk(c m:Int)(h0:vs=[.int c,.int m])(e:1<=m)(a:m<=10)(f:∀(l:X4)(us:Yb Yc)(H':Hp),cJ H H'->H l=none->H' l=some (.lst (us.map V.str))->gd us->us.length=m.toNat->Q (.ref l) H')
def w8  :Sp:=λa H Q _=>BZ  a H Q
def zb:cL ["_law_cell","_law_many","_law_letters","_law_signs","_law_base","_law_at"] ["_law_cell","_law_many"] (cK nN):={}
def C5 (D:Df K mg "_law_names" nN ["_law_cell","_law_many"] f fd) (T:Txt K mg kw C) (ZC:Gd P w K mg base 1 "_law_mix" sJ):Gd P w K mg base 2 "_law_names" w8:=by
 refine aJ D zb λX H vs Q E a h=>?_;obtain⟨c,m,rfl,m1,al,k⟩:=h;have y:=a.eO ZC rfl (by lia) (by decide);have Yu:=Sq;obtain⟨S0,S1,S2,S3,S4,S5,_⟩:=a.fA [0,1,2,3,4,5];have s:=a.b T.b_range;refine⟨_,(af (aB S2 a.nd aw)
 (af (aB S3 a.nd<|bg<|b9 aw<|b9 aw<|b9 aw<|b9 aw<|b9 aw<|J.Qp aw aw aw aw aw)
 (af (aB S4 a.nd<|bA PySem.F.plainAttrs_str PySem.F.slot_str_join PySem.F.type_str_join J.uP aw<|ao<|bN (is:=[0,2]) (xs:=["_law_k"]) (ns:=["_law_cell","_law_letters"]) a.calm (cb s<|ao<|aF ba (au y<|aE (aa S0) ae) ae) {} (λ_ _ _ _ _=>br (i:=0)) (λ_ _ _ _ _=>bX) (λ_ _ _ _ _=>ah J.zj (a5 (i:=2)) (aF ba (au ((a.rR ZC (by lia)<|by decide).lg rfl)<|aE (a5 (i:=1))<|aF bD ae<|aT (i:=0)) ae) bK) a.hsc a.hN)
 (af (aB S5 a.nd<|aF ba (au y<|aE (aa S0) ae)<|aF bD (aH (a.b T.b_len) J.gx cZ<|ao<|aa S4) ae)
 (ag<|aD<|bN (is:=[0,3,4,5]) (xs:=["_law_k"]) (ns:=["_law_cell","_law_signs","_law_base","_law_at"]) a.calm (cb s<|ao<|aa S1) {} (λ_ _ _ _ _=>br (i:=0)) (λ_ _ _ _ _=>bX) (λ_ _ _ _ _=>aF J.i8 (aF J.i8 (bW J.uB (a5 (i:=3)) b7<|b5<|a5 (i:=4))<|ah J.mB (a5 (i:=2)) (aF ba (aF bD (aT (i:=0))<|a5 (i:=1)) ae) bK)<|bW J.uB (a5 (i:=3)) (b5<|a5 (i:=4)) b7) a.hsc a.hN))))),?_⟩
 refine⟨by decide,λsl ad=>?_⟩;have s1:=cJ.upd (o:=.lst<|hU.map V.str) ad;have x:upd H sl (.lst<|hU.map V.str) sl=some (.lst<|hU.map V.str):=cG;generalize ab:upd H sl (.lst<|hU.map V.str)=H1 at s1 x;show eX 3 (.ref sl) _ (upd H sl<|.lst<|hU.map V.str) _;rw[ab];refine⟨rfl,_,rfl,c,_,rfl,by decide,by decide,λM M0 M1=>?_⟩;have mm:=du M (m:=10) (by decide);refine⟨_,_,rfl,rfl,by decide,?_⟩;dsimp only;generalize M%10=N at mm;refine⟨N,rfl,by lia,by lia,Dd (lo:=0) (N:=N.toNat) (λ_ _ v=>∃c∈az.cps.toList,v=.str ⟨#[c]⟩) (λ_ _ _ _ _ h=>h) (by lia) (λi H2 K1 hi Y G=>?_) λD' ys H2 nD Y hD yl yr=>?_⟩
 ·refine⟨_,rfl,_,rfl,_,rfl,_,_,rfl,rfl,c,_,rfl,by lia,by lia,λm' aj ai=>?_⟩
  have g:=du m' (m:=26) (by decide);exact⟨_,_,rfl,rfl,by lia,az,_,_,rfl,rfl,by decide+kernel,(Ai g.1 g.2).1,G _ H2 (cJ.refl _) ⟨_,(Ai g.1 g.2).2,rfl⟩⟩
 ·obtain⟨p,rfl,ones⟩:=Bm ys λv hv=>by
   obtain⟨j,hj⟩:=So hv;exact yr j v hj
  rw[R5]at yl;have L:=PySem.W.KT.join_ones p λz q=>(ones z q).1;have sL:Ih (Txt.join "" p):=by
   show Ih (Builtin.Str.glued "" p);rw[StrLaws.glued_eq_join];exact AQ p λz q=>(ones z q).2
  refine⟨"",D',p,rfl,rfl,cP.of hD,?_,?_⟩
  ·rw[yA p λz q=>(ones z q).1]
   have:("" :Yc).length=0:=by decide+kernel
   rw[this];lia
  ·generalize Txt.join "" p=B at L sL
   have bl:B.length<=9:=by lia
   have r:=s1.trans Y;refine⟨_,rfl,c,_,rfl,by decide,by decide,λR R0 R1=>⟨_,rfl,B,rfl,by lia,_,_,rfl,rfl,_,_,rfl,rfl,by lia,?_⟩⟩;have I:=du R (m:=(B.length:Int)+1) (by lia);dsimp only;generalize R%((B.length:Int)+1)=A at I;have aA:=T9 I.1;have c1:=jM B none<|some A;have c2:=jM B (some A) none;refine⟨_,rfl,m,rfl,by lia,by lia,sI (lo:=0) (N:=m.toNat) (λ_=>true) (λj=>.str<|rh B A c j) (by lia) ?_ ?_⟩
   ·intro i os S K1 K2 hi ac s3 G k2
    have n:=du ((i:Int)+c) (m:=10) (by decide);obtain⟨sa,sm⟩:=Eo n.1 n.2;obtain⟨q1,q2,_⟩:=Bv _ sm;have U:mZ (hU.map V.str) ((0+(i:Int)+c)%10)=some (.str<|ki<|((i:Int)+c)%10):=by
     rw[WN];exact sa
    match os,ac with
    |[o1],_=>
     refine⟨⟨[_],rfl,rfl⟩,Pe ⟨_,rfl,_,rfl,_,rfl,B,rfl,by lia,_,rfl,_,rfl,_,rfl,_,_,rfl,rfl,_,_,rfl,rfl,by show(0:Int)<10;decide,xL (s3 _ _<|Y _ _ x) U ⟨_,_,rfl,rfl,by lia,_,rfl,_,rfl,_,rfl,B,rfl,by lia,_,_,rfl,rfl,?_,G rfl S<|cJ.refl _⟩⟩⟩;rw[vV];lia
   ·intro l S nl s3 Z
    rw[Wo.mpr λ_ _=>rfl]at Z;have e:((List.range m.toNat).map λj=>V.str<|rh B A c j)=((List.range m.toNat).map<|rh B A c).map V.str:=by
     rw[Ut];rfl
    rw[e]at Z;refine k l _ S (r.trans s3) (r.free nl) Z ⟨by rw[R5,UU];lia,by rw[R5,UU];lia,nodup_range λi j O hj=>Ol O<|by lia,λz q=>?_⟩ (by rw[R5,UU]);obtain⟨j,hj,rfl⟩:=SQ.mp q;exact N3 sL bl I.1 (by lia)
def both{G A:Prop}(h:G)(k:G->A):A:=k h
def zY{u k:Int}(a:0<=u)(e:u<=1000000000000000)(k0:0<=k)(k1:k<=60):0<=u*k/\u*k<=60000000000000000:=
 ⟨Int.mul_nonneg a k0,Int.mul_le_mul e k1 k0<|by decide⟩
inductive Jl  (vs:Yb V)(H:Hp)(Q:VK):Prop
 |mk(c u:Int)(p q:Yc)(ps:Yb Yc)(h0:vs=[.int c,.str p,.str q,.int u])(g:0<=u)(e:u<=1000000000000000)(i:p∈ps)(f:q∈ps)(h:p≠q)(a:∀(v:V)(d:SD) H',cJ H H'->Cp H' v d->Ja ps d->Q v H')
def Ed  :Sp:=λa H Q _=>Jl  a H Q
def yi:cL ["_law_cell","_law_one","_law_other","_law_unit","_law_kind","_law_hour_here"] ["_law_cell","_law_one","_law_other","_law_unit"] (cK lF):={}
def Ig (D:Df K mg "_law_saying" lF ["_law_cell","_law_one","_law_other","_law_unit"] f fd) (T:Txt K mg kw C) (W:Gd P w K mg base 1 "_law_mix" sJ):Gd P w K mg base 2 "_law_saying" Ed:=by
 refine aJ D yi λX H vs Q E y h=>?_;obtain⟨c,u,p,q,ps,rfl,N,O,x,hq,L,k⟩:=h;have l:=y.eO W rfl (by lia) (by decide);obtain⟨v,F,S2,S,z,r,_⟩:=y.fA [0,1,2,3,4,5];refine⟨_,(af (aB z y.nd<|aF ba (au l<|aE (aa v) ae) ae)
 (af (aB r y.nd<|aF bM (aa S)<|aF ba (au l<|aE (aa v) ae) ae)
 (af (aK (aI aS (aa z) ae<|cM _)
 (ag<|aD<|aN<|aO aw (aa F)<|aa r)
 aL)
 (af (aK (aI aS (aa z) ae<|cM _)
 (ag<|aD<|aN<|aO aw (aa F)<|ah aP (bg<|aO (aF bQ (aa r) ae) (aa r) bS) (aF ba (au l<|aE (aa v) ae) ae) bK)
 aL)
 (af (aK (aI aS (aa z) ae<|cM _)
 (ag<|aD<|aN<|aO aw (aa F)<|aa S2)
 aL)
 (ag<|aD<|aN<|bL aw (aa F) (aa r)<|aF bD (aa r)<|aF bM (aa S)<|aF ba (au l<|aE (aa v) ae) ae)))))),?_⟩
 have G:(10:Int)^Int.toNat 18=1000000000000000000:=by decide+kernel
 have j:∀{i:Int},0<=i->i<=200000000000000000->dC i:=λa b=>⟨a,by rw[G];lia⟩;refine⟨_,rfl,c,_,rfl,by decide,by decide,λA A0 A1=>⟨_,_,rfl,rfl,by decide,?_⟩⟩;refine⟨_,rfl,_,rfl,c,_,rfl,by decide,by decide,λB B0 B1=>⟨_,_,rfl,rfl,by decide,?_⟩⟩;refine⟨_,_,rfl,rfl,.inl ⟨by lia,by lia⟩,?_⟩;have g:=zY N O (du B (m:=30)<|by decide).1 (by lia);dsimp only;generalize u*(B%30)=h at g;generalize A%5=kd;refine⟨_,rfl,rfl,_,rfl,dJ (λ_=>⟨_,rfl,_,rfl,tL,λt n=>k _ (.knew p h) _ (cJ.upd n) ⟨t,rfl,cG⟩ ⟨x,j g.1<|by lia⟩⟩) λ_=>?_⟩;refine⟨_,rfl,rfl,_,rfl,dJ (λ_=>?_) λ_=>?_⟩
 ·have U:0<=h / 3/\h / 3<=h:=⟨Int.ediv_nonneg g.1<|by decide,Int.ediv_le_self _ g.1⟩
  refine⟨_,rfl,_,rfl,_,_,rfl,rfl,⟨by decide,by decide⟩,_,rfl,tL,λb Z=>⟨_,rfl,c,_,rfl,by decide,by decide,λR R0 R1=>⟨_,_,rfl,rfl,by lia,?_⟩⟩⟩;have M:=du R (m:=3) (by decide);obtain⟨bv,Y,s⟩:=sN (xs:=[V.int<|h / 3,V.int h,V.non]) (i:=R%3) M.1 M.2;have I:∃o:X8 Int,bv=oV o/\∀i,o=some i->dC i:=by
   simp only[mem_cons,not_mem_nil,or_false]at s;obtain rfl|rfl|rfl:=s
   ·exact⟨some _,rfl,λi e=>by cases e;exact j U.1<|by lia⟩
   ·exact⟨some _,rfl,λi e=>by cases e;exact j g.1<|by lia⟩
   ·exact⟨none,rfl,λi e=>by cases e⟩
  obtain⟨o,rfl,oo⟩:=I;exact(xL cG Y ⟨tL,λt n=>k _ (.unh p o) _ ((cJ.upd Z).trans<|cJ.upd n) ⟨t,rfl,cG⟩ ⟨x,oo⟩⟩)
 ·refine⟨_,rfl,rfl,_,rfl,dJ (λ_=>⟨_,rfl,_,rfl,tL,λt n=>k _ (.bar p q) _ (cJ.upd n) ⟨t,rfl,cG⟩ ⟨x,hq,L⟩⟩) λ_=>?_⟩
  refine⟨_,rfl,_,rfl,_,rfl,_,rfl,_,rfl,c,_,rfl,by decide,by decide,λR R0 R1=>⟨_,_,rfl,rfl,by lia,?_⟩⟩;have J:=du R (m:=12) (by decide);have ab:=zY N O J.1 (by lia);refine⟨_,_,rfl,rfl,.inl ⟨by lia,by lia⟩,_,_,rfl,rfl,MU,λt n=>k _ (.sil p h<|h+u*(R%12)) _ (cJ.upd n) ⟨t,rfl,cG⟩ ⟨x,j g.1<|by lia,j (by lia)<|by lia,by lia⟩⟩
def kP{h:TT}{u e:TS}{D:Ends}{σ:St}{H:Hp}(R:St->Hp->Prop)(g:∀a H',R a H'->e D a H')(b:Bool)(l:∀Q:Bool->Hp->Prop,(∀H',cJ H H'->Q b H')->h σ H Q)(j:b=true->∀H',cJ H H'->(∀a H',R a H'->e D a H')->u { D with nx:=e D } σ H')(i:b=false->∀H',cJ H H'->R σ H'):
  B7 (Dh h u AH) e D σ H:=by
 refine l _ λH' f=>?_;cases b with
 |true=>exact eU<|j rfl H' f g
 |false=>exact dS<|g _ _<|i rfl H' f
def Dr{a b:Yc}(h:a≠b):¬(Sum.inr a:Key)=Sum.inr b:=λe=>h<|Up e
def oJ(p s t y:X4):Yb (Key×V):=fO [] [(Sum.inr "persons",V.ref p),(Sum.inr "sights",V.ref s),(Sum.inr "talks",V.ref t),(Sum.inr "sayings",V.ref y)]
def Hq(p s t y:X4):dY (oJ p s t y) (Sum.inr "persons")=some (V.ref p):=by
 unfold oJ fO;rw[TB,TB,TB,TB,Xb];dsimp only;rw[cU,cU,cU,cU,R7<|Dr<|show("persons" :Yc)≠("sayings" :Yc) by decide,R7<|Dr<|show("persons" :Yc)≠("talks" :Yc) by decide,R7<|Dr<|show("persons" :Yc)≠("sights" :Yc) by decide,Sb rfl]
def Hj(p s t y:X4):dY (oJ p s t y) (Sum.inr "sights")=some (V.ref s):=by
 unfold oJ fO;rw[TB,TB,TB,TB,Xb];dsimp only;rw[cU,cU,cU,R7<|Dr<|show("sights" :Yc)≠("sayings" :Yc) by decide,R7<|Dr<|show("sights" :Yc)≠("talks" :Yc) by decide,Sb rfl]
def GR(p s t y:X4):dY (oJ p s t y) (Sum.inr "talks")=some (V.ref t):=by
 unfold oJ fO;rw[TB,TB,TB,TB,Xb];dsimp only;rw[cU,cU,R7<|Dr<|show("talks" :Yc)≠("sayings" :Yc) by decide,Sb rfl]
def Hf(p s t y:X4):dY (oJ p s t y) (Sum.inr "sayings")=some (V.ref y):=by
 unfold oJ fO;rw[TB,TB,TB,TB,Xb];dsimp only;rw[cU,Sb rfl]
structure jc(ps:Yb Yc)(H:Hp)(md p s t y:X4)(ss ts ys:Yb V):Prop where
 hmd:∃Yj,H md=some (.dK Yj)/\Yj.length<=8/\dY Yj (Sum.inr "persons")=some (V.ref p)/\dY Yj (Sum.inr "sights")=some (V.ref s)/\dY Yj (Sum.inr "talks")=some (V.ref t)/\dY Yj (Sum.inr "sayings")=some (V.ref y)
 hp:H p=some (.lst (ps.map V.str))
 hs:H s=some (.lst ss)
 ht:H t=some (.lst ts)
 hy:H y=some (.lst ys)
 ls:ss.length<=24
 lt:ts.length<=64
 ly:ys.length<=60
 gs:∀v∈ss,dU ps H v
 gt:∀v∈ts,fg ps H v
 gy:∀v∈ys,jy ps H v
def jc.mono{ps:Yb Yc}{H H':Hp}{f p s t y:X4}{ss g ys:Yb V}(a:cJ H H')(o:jc ps H f p s t y ss g ys):jc ps H' f p s t y ss g ys:=
 ⟨let ⟨i,h,r⟩:=o.hmd;⟨i,a _ _ h,r⟩,a _ _ o.hp,a _ _ o.hs,a _ _ o.ht,a _ _ o.hy,o.ls,o.lt,o.ly,λv e=>(o.gs v e).mono<|Tk.of a,λv e=>(o.gt v e).mono<|Tk.of a,λv e=>(o.gy v e).mono<|Tk.of a⟩
def jc.Nl{ps:Yb Yc}{H:Hp}{f p s t y:X4}{ss g ys:Yb V}{v:V}(o:jc ps H f p s t y ss g ys)(n:f≠s/\p≠s/\t≠s/\y≠s)(l:ss.length+1<=24)(h:dU ps (upd H s<|.lst<|ss++[v]) v):jc ps (upd H s<|.lst<|ss++[v]) f p s t y (ss++[v]) g ys:=by
 have e:=Tk.upd o.hs (ys:=ss++[v]);refine⟨by rw[cI n.1];exact o.hmd,by rw[cI n.2.1];exact o.hp,cG,by rw[cI n.2.2.1];exact o.ht,by rw[cI n.2.2.2];exact o.hy,by rw[R3];exact l,o.lt,o.ly,λu a=>?_,λu a=>(o.gt u a).mono e,λu a=>(o.gy u a).mono e⟩;obtain a|a:=Sz.mp a
 ·exact(o.gs u a).mono e
 ·grind
def jc.Qw{ps:Yb Yc}{H:Hp}{g p s t y:X4}{ss e ys:Yb V}{v:V}(o:jc ps H g p s t y ss e ys)(n:g≠t/\p≠t/\s≠t/\y≠t)(l:e.length+1<=64)(h:fg ps (upd H t<|.lst<|e++[v]) v):jc ps (upd H t<|.lst<|e++[v]) g p s t y ss (e++[v]) ys:=by
 have f:=Tk.upd o.ht (ys:=e++[v]);refine⟨by rw[cI n.1];exact o.hmd,by rw[cI n.2.1];exact o.hp,by rw[cI n.2.2.1];exact o.hs,cG,by rw[cI n.2.2.2];exact o.hy,o.ls,by rw[R3];exact l,o.ly,λu a=>(o.gs u a).mono f,λu a=>?_,λu a=>(o.gy u a).mono f⟩;obtain a|a:=Sz.mp a
 ·exact(o.gt u a).mono f
 ·grind
def jc.Qi{ps:Yb Yc}{H:Hp}{f p s t y:X4}{ss g ys:Yb V}{v:V}(o:jc ps H f p s t y ss g ys)(n:f≠y/\p≠y/\s≠y/\t≠y)(l:ys.length+1<=60)(h:jy ps (upd H y<|.lst<|ys++[v]) v):jc ps (upd H y<|.lst<|ys++[v]) f p s t y ss g (ys++[v]):=by
 have e:=Tk.upd o.hy (ys:=ys++[v]);refine⟨by rw[cI n.1];exact o.hmd,by rw[cI n.2.1];exact o.hp,by rw[cI n.2.2.1];exact o.hs,by rw[cI n.2.2.2];exact o.ht,cG,o.ls,o.lt,by rw[R3];exact l,λu a=>(o.gs u a).mono e,λu a=>(o.gt u a).mono e,λu a=>?_⟩;obtain a|a:=Sz.mp a
 ·exact(o.gy u a).mono e
 ·grind
def jc.dp{ps:Yb Yc}{H:Hp}{a p s t y:X4}{ss e ys:Yb V}(o:jc ps H a p s t y ss e ys):dP H a (.str "persons") (some<|.ref p):=by
 obtain⟨l,h,_,f,g,j,i⟩:=o.hmd;rw[<-f];exact dP.k (k:=Sum.inr "persons") h
def jc.ds{ps:Yb Yc}{H:Hp}{a p s t y:X4}{ss e ys:Yb V}(o:jc ps H a p s t y ss e ys):dP H a (.str "sights") (some<|.ref s):=by
 obtain⟨l,h,_,i,f,j,g⟩:=o.hmd;rw[<-f];exact dP.k (k:=Sum.inr "sights") h
def jc.dt{ps:Yb Yc}{H:Hp}{a p s t y:X4}{ss e ys:Yb V}(o:jc ps H a p s t y ss e ys):dP H a (.str "talks") (some<|.ref t):=by
 obtain⟨l,h,_,j,g,f,i⟩:=o.hmd;rw[<-f];exact dP.k (k:=Sum.inr "talks") h
def jc.dy{ps:Yb Yc}{H:Hp}{a p s t y:X4}{ss e ys:Yb V}(o:jc ps H a p s t y ss e ys):dP H a (.str "sayings") (some<|.ref y):=by
 obtain⟨l,h,_,i,g,j,f⟩:=o.hmd;rw[<-f];exact dP.k (k:=Sum.inr "sayings") h
def Jo{ps:Yb Yc}{a:Nat}{z:Yc}(nd:ps.Nodup)(A:2<=ps.length)(m:ps[a]? =some z):∃h:Yb Yc,eB (ps.map V.str) (some<|(a:Int)+1) none++eB (ps.map V.str) none (some (a:Int))=h.map V.str/\1<=h.length/\h.length<=ps.length/\∀y∈h,y∈ps/\y≠z:=by
 have x:=(gI0.mp m).1;have s:eB (ps.map V.str) (some<|(a:Int)+1) none=(ps.drop<|a+1).map V.str:=by
  rw[show((a:Int)+1)=((a+1:Nat):Int) by lia,tU,HT.jR,HT.mJ,VJ<|by lia,TJ<|by rw[T3];exact R9 _]
 have p:eB (ps.map V.str) none (some (a:Int))=(ps.take a).map V.str:=by
  rw[tU,HT.jR,HT.mJ,VJ<|by lia,Ve,XD]
 refine⟨ps.drop (a+1)++ps.take a,by rw[s,p,TQ],by rw[R3,T3,Tp];lia,by rw[R3,T3,Tp];lia,λy g=>?_⟩;have i:∃k,k≠a/\ps[k]? =some y:=by
  obtain g|g:=Sz.mp g
  ·obtain⟨j,f⟩:=So g
   rw[Va]at f;exact⟨a+1+j,by lia,f⟩
  ·obtain⟨j,f⟩:=So g
   have q:=(gI0.mp f).1;rw[Tp]at q;rw[Uh<|by lia]at f;exact⟨j,by lia,f⟩
 obtain⟨k,r,l⟩:=i;refine⟨R4 l,λe=>r ?_⟩;obtain⟨v,n⟩:=gI0.mp l;obtain⟨w,o⟩:=gI0.mp m;exact(Uy nd).mp (by rw[n,o,e])
def jc.Qn{ps:Yb Yc}{H:Hp}{a p s t y s':X4}{ss w ys i:Yb V}{Yj:Yb (Key×V)}(o:jc ps H a p s t y ss w ys)(m:H a=some (.dK Yj))(r:H s'=some (.lst i))(l:i.length<=24)(g:∀v∈i,dU ps H v):jc ps (upd H a<|.dK<|putK Yj (Sum.inr "sights")<|.ref s') a p s' t y i w ys:=by
 obtain⟨E,h,C,B,x,D,A⟩:=o.hmd;rw[m]at h;cases h;have j:∀{b:X4}{q:Yb V},H b=some (.lst q)->b≠a:=λe z=>by rw[z,m]at e;cases e
 have n:Tk H (upd H a<|.dK<|putK Yj (Sum.inr "sights")<|.ref s'):=λb q e=>by
  rw[cI λz=>by rw[z,m]at e;cases e];exact e
 refine⟨⟨_,cG,?_,?_,?_,?_,?_⟩,by rw[cI<|j o.hp];exact o.hp,by rw[cI<|j r];exact r,by rw[cI<|j o.ht];exact o.ht,by rw[cI<|j o.hy];exact o.hy,l,o.lt,o.ly,λv f=>(g v f).mono n,λv f=>(o.gt v f).mono n,λv f=>(o.gy v f).mono n⟩
 ·unfold putK
  split
  ·rw[R5]
   exact C
  ·rename_i z
   rw[gI,x]at z;exact absurd rfl z
 ·rw[cU,R7<|Dr<|by decide+kernel]
  exact B
 ·rw[cU,Sb rfl]
 ·rw[cU,R7<|Dr<|by decide+kernel]
  exact D
 ·rw[cU,R7<|Dr<|by decide+kernel]
  exact A
def jc.QR{ps:Yb Yc}{H:Hp}{f p s t y t':X4}{ss D ys a:Yb V}{Yj:Yb (Key×V)}(o:jc ps H f p s t y ss D ys)(m:H f=some (.dK Yj))(q:H t'=some (.lst a))(l:a.length<=64)(g:∀v∈a,fg ps H v):jc ps (upd H f<|.dK<|putK Yj (Sum.inr "talks")<|.ref t') f p s t' y ss a ys:=by
 obtain⟨E,h,B,A,w,C,x⟩:=o.hmd;rw[m]at h;cases h;have j:∀{b:X4}{r:Yb V},H b=some (.lst r)->b≠f:=λe z=>by rw[z,m]at e;cases e
 have n:Tk H (upd H f<|.dK<|putK Yj (Sum.inr "talks")<|.ref t'):=λb r e=>by
  rw[cI λz=>by rw[z,m]at e;cases e];exact e
 refine⟨⟨_,cG,?_,?_,?_,?_,?_⟩,by rw[cI<|j o.hp];exact o.hp,by rw[cI<|j o.hs];exact o.hs,by rw[cI<|j q];exact q,by rw[cI<|j o.hy];exact o.hy,o.ls,l,o.ly,λv i=>(o.gs v i).mono n,λv i=>(g v i).mono n,λv i=>(o.gy v i).mono n⟩
 ·unfold putK
  split
  ·rw[R5]
   exact B
  ·rename_i z
   rw[gI,C]at z;exact absurd rfl z
 ·rw[cU,R7<|Dr<|by decide+kernel]
  exact A
 ·rw[cU,R7<|Dr<|by decide+kernel]
  exact w
 ·rw[cU,Sb rfl]
 ·rw[cU,R7<|Dr<|by decide+kernel]
  exact x
def u9:d7 "word" =true:=by decide+kernel
inductive OZ(sc nl f S g Y:X4)(hd U:Int)(n:Hp)(ps:Yb Yc)(i:Nat)(σ:St)(H':Hp):Prop
 |mk(ss h ys:Yb V)(j p l q m r a:X8 V)(e:σ=[some (.ref sc),some (.int hd),some (.ref nl),some (.int U),some (.ref f),j,p,l,q,m,r,a,none,none])(s:∀b o,n b=some o->b≠S->b≠g->b≠Y->H' b=some o)(ok:jc ps H' f nl S g Y ss h ys)(lt:h.length<=i)(v:ys.length<=50)
inductive NV(K:Frag)(vs:Yb V)(H:Hp)(Q:VK):Prop
 |mk(sc:X4)(ns:Yb Int)(e:vs=[.ref sc])(h:cP K H sc (ns.map V.int))(f:ns.length<=63)
   (k:∀(a p s t y:X4)(ps:Yb Yc)(ss g ys:Yb V)(H':Hp),cJ H H'->H a=none->gd ps->2<=ps.length->jc ps H' a p s t y ss g ys->Q (.ref a) H')
def Fg(K:Frag):Sp:=λa H Q _=>NV K a H Q
def Cj:cL ["_law_script","_law_header","_law_names_here","_law_unit","_law_made_here","_law_k","_law_cell","_law_at","_law_one","_law_rest","_law_other","_law_hour_here","_law_two","_law_more"] ["_law_script"] (cK pV):={}
def sq{t u:TS}{D:Ends}{σ:L2.St}{H:Hp}(h:∀c:Ends,(∀σ H,u D σ H->c.nx σ H)->t c σ H):B7 t u D σ H:=h _ λ_ _ h=>h
def Jg (D:Df K mg "_law_made" pV ["_law_script"] f fd) (T:Txt K mg kw C) (fn:Gd P w K mg base 1 "_law_cell_at" (yO K)) (ZC:Gd P w K mg base 1 "_law_mix" sJ) (f3:Gd P w K mg base 2 "_law_names" w8) (f1:Gd P w K mg base 2 "_law_saying" Ed):Gd P w K mg base 3 "_law_made" (Fg K):=by
 refine aJ D Cj λX H vs Q E y h=>?_;obtain⟨sc,ns,rfl,bn,gm,k⟩:=h;have ct:=y.eO fn rfl (by lia) (by decide);have ey:=y.eO ZC rfl (by lia) (by decide);have hu:=d9 y.room;obtain⟨S0,S1,S2,S3,S4,S5,S6,S7,S8,S9,db,cp,en,ek,_⟩:=y.fA [0,1,2,3,4,5,6,7,8,9,10,11,12,13];have aq:=y.b T.b_len;obtain rfl:=y.fK;have Yu:=Sq;refine⟨_,(af (aB S1 y.nd<|au ey<|aE (au ct<|aE (aa S0) ae) ae)
 (af (aB S2 y.nd<|au (y.eO f3 rfl (by lia)<|by decide)<|aE (au ct<|aE (aa S0) ae)<|aF bD ae<|aF ba (aa S1) ae)
 (af (aB S3 y.nd<|ah aP (bg<|aE ae<|aF bD ae<|aF ba (au ct<|aE (aa S0) ae)<|aF J.ou ae ae) (aF ba (aF bQ (aa S1) ae) ae) bK)
 (af (aB S4 y.nd<|J.O4 aw (aa S2) aw (bg bF) aw (bg bF) aw<|bg bF)
 (af (bh y.own y.calm (J.kK (y.b T.b_range)<|aE ae<|aH (y.b T.b_min) (J.iw y.calm) zB<|aE (aH aq aV cZ<|ao<|aa S0) ae) (aR S5 y.nd)
 (af (aB S6 y.nd<|au ey<|aE (ah aP (aa S0) (aa S5) aQ)<|aa S5)
 (af (aB S7 y.nd<|aF ba (aF bQ (aa S6) ae)<|aH aq aV cZ<|ao<|aa S2)
 (af (aB S8 y.nd<|ah aP (aa S2) (aa S7) aQ)
 (af (aB S9 y.nd<|aF cn (bW cB (aa S2) (b5<|aF bD (aa S7) ae) b7)<|bW cB (aa S2) b7<|b5<|aa S7)
 (af (aB db y.nd<|ah aP (aa S9) (aF ba (aF bQ (aa S6) ae)<|aH aq aV cZ<|ao<|aa S9) bK)
 (af (aB cp y.nd<|aF bM (aa S3)<|aF ba (aF bQ (aa S6) ae) ae)
 (ag (aK (a7<|bq (aI aS (aF ba (aa S6) ae) ae<|cM _)<|bz<|aI b6 (aH aq aV cZ<|ao<|aM hu (aa S4) aw ak) ae<|cM _)
 (ag<|bw<|bA Ti SE SG bG (aM hu (aa S4) aw ak)<|ao<|aN<|aO (aa S8) (aa cp)<|aN<|ao aw)
 (ag (aK (a7<|bq (aI aS (aF ba (aa S6) ae) ae<|cM _)<|bz<|aI b6 (aH aq aV cZ<|ao<|aM hu (aa S4) aw ak) ae<|cM _)
 (ag<|bw<|bA Ti SE SG bG (aM hu (aa S4) aw ak)<|ao<|au (y.eO f1 rfl (by lia)<|by decide)<|bL (aa S6) (aa S8) (aa db)<|aa S3)
 (ag<|bw<|bA Ti SE SG bG (aM hu (aa S4) aw ak)<|ao<|aN<|bL (aa cp) (aa S8) (aa db)<|ah aP (bg<|aE aw aw) (aF ba (aF bQ (aa S6) ae) ae) bK))))))))))))
 (af (aK (aI (cE hu) (aM hu (aa S4) aw ak) (bg bF)<|cM _)
 (ag<|bw<|bA Ti SE SG bG (aM hu (aa S4) aw ak)<|ao<|aN<|aO (ah aP (aa S2) ae ak) ae<|aN<|ao aw)
 aL)
 (af (aK (a7<|bq (aI aS (aF ba (aF bQ (aa S1) ae) ae) ae<|cM _)<|bz<|aI bV (aH aq aV cZ<|ao<|aa S2) ae<|cM _)
 (af (aB en y.nd<|bg<|aE (aN<|aO (ah aP (aa S2) ae ak) ae<|aN<|ao aw)<|aN<|aO (ah aP (aa S2) ae ak) ae<|aN<|ao aw)
 (af (bZ hu (aa S4) aw<|aF cn (aa en)<|bN (is:=[2]) (xs:=["_law_one"]) (ns:=["_law_names_here"]) y.calm (aX<|bW cB (aM hu (aa S4) aw ak) b7<|b5 ae) {} (λ_ _ _ _ _=>br (i:=0)) (λ_ _ _ _ _=>bP<|aI cu (ah bE (aT (i:=0)) ae ak) (ah J.mB (a5 (i:=1)) ae ak)<|cM _) (λ_ _ _ _ _=>aT (i:=0)) y.hsc y.hN)
 (af (aB ek y.nd<|bg<|aE (aN<|bL (aa S3) (ah aP (aa S2) ae ak) (ah aP (aa S2) ae ak) aw)<|aN<|bL (aF bM ae<|aa S3) (ah aP (aa S2) ae ak) (ah aP (aa S2) ae ak) aw)
 (ag<|bZ hu (aa S4) aw<|aF cn (aF cn (aa ek)<|bg<|ao<|aN<|bL (aF bM ae<|aa S3) (ah aP (aa S2) ae ak) (ah aP (aa S2) ae ak) aw)<|aM hu (aa S4) aw ak))))
 aL)
 (ag<|aD<|aa S4)))))))),?_⟩
 have c3:(10:Int)^Int.toNat 15=1000000000000000:=by decide+kernel
 refine sq λzc O=>⟨_,rfl,sc,ns,0,rfl,bn,by decide,λc0=>⟨c0,_,rfl,by decide,by decide,λhd f9 gc=>O _ _ ?_⟩⟩;refine sq λzc O=>⟨_,rfl,sc,ns,0,rfl,bn,by decide,λc1=>⟨_,rfl,_,_,rfl,rfl,by decide,_,_,rfl,rfl,c1,_,rfl,by lia,by lia,λF ps H1 s1 gg ew po pl=>O _ _ ?_⟩⟩;have dg:2<=ps.length:=by lia
 have bd:=s1.seq bn;refine sq λzc O=>⟨_,rfl,sc,ns,1,rfl,bd,by decide,λc2=>⟨_,_,rfl,rfl,⟨by decide,by decide,by decide⟩,_,_,rfl,rfl,by rw[c3];decide,_,_,rfl,rfl,uk,λL c7=>?_⟩⟩;have er:=du c2 (m:=10^Int.toNat 15) (by rw[c3];decide);rw[c3]at er;have h2:=du (hd / 6) (m:=2) (by decide);obtain⟨bv,hb,cx⟩:=sN (xs:=[V.int 1,V.int<|1+c2%10^Int.toNat 15]) (i:=hd / 6%2) h2.1 h2.2;have fz:∃U:Int,bv=.int U/\0<=U/\U<=1000000000000000:=by
  simp only[mem_cons,not_mem_nil,or_false]at cx;obtain rfl|rfl:=cx
  ·grind
  ·grind
 obtain⟨U,rfl,U0,U1⟩:=fz;have s2:=s1.trans<|cJ.upd (o:=.lst [V.int 1,V.int<|1+c2%10^Int.toNat 15]) c7;have ac:=cJ.upd (o:=.lst [V.int 1,V.int<|1+c2%10^Int.toNat 15]) c7 _ _ ew;refine⟨_,rfl,_,_,rfl,rfl,⟨by decide,by decide⟩,_,_,rfl,rfl,by decide,xL cG hb<|O _ _ ?_⟩;generalize upd H1 L (.lst [V.int 1,V.int<|1+c2%10^Int.toNat 15])=H2 at s2 ac;clear hb cx c7 ew bd s1 er h2;refine sq λzc O p aj=>?_;refine⟨_,rfl,Km,λS nS=>⟨Km,λs nT=>⟨Km,λY nY=>?_⟩⟩⟩;have R:=cJ.upd (o:=.dK []) aj;have sS:=cJ.upd (o:=.lst []) nS;have sT:=cJ.upd (o:=.lst []) nT;have sY:=cJ.upd (o:=.lst []) nY;have ab:=sY _ _<|sT _ _<|sS _ _<|show upd H2 p (.dK []) p=some (.dK []) from cG;have a4:=sY _ _<|sT _ _<|show upd (upd H2 p<|.dK []) S (.lst []) S=some (.lst []) from cG;have a9:=sY _ _<|show upd (upd (upd H2 p<|.dK []) S<|.lst []) s (.lst []) s=some (.lst []) from cG;have ar:upd (upd (upd (upd H2 p<|.dK []) S<|.lst []) s<|.lst []) Y (.lst []) Y=some (.lst []):=cG;have da:=((R.trans sS).trans sT).trans sY;have fS:H2 S=none:=R.free nS;have fT:H2 s=none:=(R.trans sS).free nT;have fY:H2 Y=none:=((R.trans sS).trans sT).free nY;refine⟨ab,[(Sum.inr "persons",.ref F),(Sum.inr "sights",.ref S),(Sum.inr "talks",.ref s),(Sum.inr "sayings",.ref Y)],rfl,by show 4<=15;decide,O _ _ ?_⟩;generalize upd (upd (upd (upd H2 p<|.dK []) S<|.lst []) s<|.lst []) Y (.lst [])=H4 at ab a4 a9 ar da;have el:S≠p:=λe=>by rw[e,ab]at a4;cases a4
 have ex:s≠p:=λe=>by rw[e,ab]at a9;cases a9
 have fa:Y≠p:=λe=>by rw[e,ab]at ar;cases ar
 have dd:S≠s:=cH (show upd (upd H2 p<|.dK []) S (.lst []) S=some (.lst []) from cG) nT;have cl:S≠Y:=cH (sT _ _<|show upd (upd H2 p<|.dK []) S (.lst []) S=some (.lst []) from cG) nY;have eo:s≠Y:=cH (show upd (upd (upd H2 p<|.dK []) S<|.lst []) s (.lst []) s=some (.lst []) from cG) nY;clear R sS sT sY nS nT nY;have bj:cJ H2 (upd H4 p<|.dK<|fO [] [(Sum.inr "persons",.ref F),(Sum.inr "sights",.ref S),(Sum.inr "talks",.ref s),(Sum.inr "sayings",.ref Y)]):=λb o e=>by
  rw[cI<|cH e aj];exact da _ _ e
 have eu:jc ps (upd H4 p<|.dK<|fO [] [(Sum.inr "persons",.ref F),(Sum.inr "sights",.ref S),(Sum.inr "talks",.ref s),(Sum.inr "sayings",.ref Y)]) p F S s Y [] [] []:=
  ⟨⟨_,cG,SF (ik _ _)<|by show 0+4<=8;decide,Hq F S s Y,Hj F S s Y,GR F S s Y,Hf F S s Y⟩,bj _ _ ac,by rw[cI el];exact a4,by rw[cI ex];exact a9,by rw[cI fa];exact ar,by decide,by decide,by decide,(λv B=>by cases B),(λv B=>by cases B),λv B=>by cases B⟩
 generalize upd H4 p (.dK<|fO [] [(Sum.inr "persons",V.ref F),(Sum.inr "sights",.ref S),(Sum.inr "talks",.ref s),(Sum.inr "sayings",.ref Y)])=H5 at bj eu;clear ab a4 a9 ar da;have keep:∀{b:X4}{o:HO}{H6:Hp},(∀b o,H5 b=some o->b≠S->b≠s->b≠Y->H6 b=some o)->H2 b=some o->H6 b=some o:=λkp e=>kp _ _ (bj _ _ e) (cH e fS) (cH e fT)<|cH e fY;have cf:(p≠S/\p≠s/\p≠Y):=⟨el.symm,ex.symm,fa.symm⟩;have ad:(F≠S/\F≠s/\F≠Y):=⟨cH ac fS,cH ac fT,cH ac fY⟩;have d0:∀{H6:Hp},cJ H H6->cP X.K H6 sc (ns.map V.int):=λs'=>s'.seq bn;have f6:=s2.trans bj;have eb:∀{H6:Hp},(∀b o,H5 b=some o->b≠S->b≠s->b≠Y->H6 b=some o)->cJ H H6:=λkp b o e=>keep kp<|s2 _ _ e;have fx:(10:Int)^Int.toNat 18=1000000000000000000:=by decide+kernel
 have an:∀{i:Int},0<=i->i<=200000000000000000->dC i:=λa b=>⟨a,by rw[fx];lia⟩;have fi:(ns.map V.int).length=ns.length:=R5 ..;have d3:(ps.map V.str).length=ps.length:=R5 ..;have jl:(if(63:Int)<((ns.map V.int).length:Int) then 63 else((ns.map V.int).length:Int))=(ns.length:Int):=by
  rw[fi];split<;>lia
 refine sq λzc O=>⟨_,rfl,sc,_,rfl,.inl<|d0 f6,_,_,rfl,2,(ns.length:Int),by rw[jl],⟨by decide,by decide,by lia,by lia⟩,iB (lo:=2) (n:=((ns.length:Int)-2).toNat) (OZ sc F p S s Y hd U H5 ps) ⟨[],[],[],none,none,none,none,none,none,none,rfl,λb o e _ _ _=>e,eu,R9 0,by decide⟩ ?_ ?_⟩
 ·rintro i σ H6 hi ⟨ss,ts,ys,e5,e6,e7,e8,e9,YC,e4,rfl,kp,ok,lt,ly⟩
  have be:=d0<|eb kp;have hk:(i+2)<ns.length:=by lia
  have av:mZ (ns.map V.int) ((2:Int)+(i:Int))=some (.int ns[i+2]):=by
   rw[show(2:Int)+(i:Int)=((i+2:Nat):Int) by lia];exact c8 (by rw[Sk,RY hk];rfl)
  refine sq λzc O=>⟨_,rfl,_,rfl,sc,_,_,_,rfl,rfl,be,av,_,rfl,_,_,rfl,by lia,by lia,λN n0 n1=>O _ _ ?_⟩;have om:=du (N / 8) (m:=(ps.length:Int)) (by lia);refine sq λzc O=>⟨_,rfl,_,_,rfl,rfl,⟨by decide,by decide⟩,_,rfl,F,_,rfl,.inl<|cP.of ok.hp,_,_,rfl,rfl,by rw[d3];lia,O _ _ ?_⟩;rw[d3];generalize N / 8%(ps.length:Int)=A at om;have aA:((A.toNat:Nat):Int)=A:=T9 om.1;obtain⟨I,ai⟩:∃z,ps[A.toNat]? =some z:=⟨_,RY<|by lia⟩;have ap:mZ (ps.map V.str) A=some (.str I):=by
   rw[<-aA];exact c8 (by rw[Sk,ai];rfl)
  obtain⟨rs,dl,ga,go,fo⟩:=Jo po.nd dg ai;rw[aA]at dl;refine sq λzc O=>⟨_,rfl,_,rfl,xL ok.hp ap<|O _ _ ?_⟩;have ch:=λlo hi=>jG (ps.map V.str) lo hi;have ge:=po.hi;refine sq λzc O=>⟨_,rfl,_,rfl,_,_,rfl,rfl,_,rfl,F,_,rfl,cP.of ok.hp,λx1 y1=>⟨_,rfl,_,rfl,_,rfl,F,_,rfl,cP.of<|cJ.upd y1 _ _ ok.hp,λx2 y2=>⟨x1,x2,_,_,rfl,rfl,cP.of<|cJ.upd y2 _ _ cG,cP.of cG,by grind,λx3 y3=>O _ _ ?_⟩⟩⟩;have cc:cJ H6 (upd (upd (upd H6 x1<|.lst<|eB (ps.map V.str) (some<|A+1) none) x2<|.lst<|eB (ps.map V.str) none<|some A) x3<|.lst<|eB (ps.map V.str) (some<|A+1) none++eB (ps.map V.str) none (some A)):=((cJ.upd y1).trans<|cJ.upd y2).trans<|cJ.upd y3;have bx:upd (upd (upd H6 x1<|.lst<|eB (ps.map V.str) (some<|A+1) none) x2<|.lst<|eB (ps.map V.str) none<|some A) x3 (.lst<|eB (ps.map V.str) (some<|A+1) none++eB (ps.map V.str) none (some A)) x3=some (.lst<|rs.map V.str):=by
   rw[<-dl];exact cG
  generalize upd (upd (upd H6 x1<|.lst<|eB (ps.map V.str) (some<|A+1) none) x2<|.lst<|eB (ps.map V.str) none<|some A) x3 (.lst<|eB (ps.map V.str) (some<|A+1) none++eB (ps.map V.str) none (some A))=H7 at cc bx;have ff:(rs.map V.str).length=rs.length:=R5 ..;have rm:=du (N / 64) (m:=(rs.length:Int)) (by lia);obtain⟨z2,al,bi⟩:=AR rm.1 rm.2;obtain⟨ej,es⟩:=fo z2 bi;have de:I∈ps:=R4 ai;refine sq λzc O=>⟨_,rfl,_,rfl,_,_,rfl,rfl,⟨by decide,by decide⟩,_,rfl,x3,_,rfl,.inl<|cP.of bx,_,_,rfl,rfl,by rw[ff];lia,xL bx (by rw[ff];exact al)<|O _ _ ?_⟩;have hm:=du (N / 1009) (m:=36) (by decide);have d1:=zY U0 U1 hm.1 (by lia);refine sq λzc O=>⟨_,rfl,_,rfl,_,_,rfl,rfl,⟨by decide,by decide⟩,_,_,rfl,rfl,by show(0:Int)<36;decide,_,_,rfl,rfl,.inl ⟨by lia,by lia⟩,O _ _ ?_⟩;generalize U*(N / 1009%36)=hr at d1;have kH:dC hr:=an d1.1 (by lia);have l:=ok.mono cc;have cm:∀b o,H5 b=some o->b≠S->b≠s->b≠Y->H7 b=some o:=λb o e n1 n2 n3=>cc _ _<|kp b o e n1 n2 n3;have ds:=l.ds;have dt:=l.dt;have dy:=l.dy;clear cc bx ok kp be ap al dl;refine both (G:=_) ?_ λother=>⟨_,rfl,_,_,rfl,rfl,by show(0:Int)<8;decide,rfl,_,rfl,dJ (λ_=>⟨_,rfl,p,_,rfl,ds,S,_,rfl,.inl<|cP.of l.hs,_,_,rfl,rfl,_,rfl,dJ (λfy=>?_) λ_=>other⟩) λ_=>dS other⟩
  ·refine both (G:=_) ?_ λbc=>⟨_,rfl,_,_,rfl,rfl,by show(0:Int)<8;decide,rfl,_,rfl,dJ (λ_=>⟨_,rfl,p,_,rfl,dy,Y,_,rfl,.inl<|cP.of l.hy,_,_,rfl,rfl,_,rfl,dJ (λf5=>?_) λ_=>bc⟩) λ_=>dS bc⟩
   ·obtain⟨wv,hw,et⟩:=sN (xs:=[V.str "both",V.str "one"]) (i:=N / 512%2) (du _<|by decide).1 (du (N / 512) (m:=2)<|by decide).2
    have dk:∃wy:Yc,wv=.str wy/\(wy= "both" \/wy= "one"):=by
     simp only[mem_cons,not_mem_nil,or_false]at et;obtain rfl|rfl:=et
     ·exact⟨_,rfl,.inl rfl⟩
     ·exact⟨_,rfl,.inr rfl⟩
    obtain⟨wy,rfl,dk⟩:=dk;refine⟨_,rfl,p,_,rfl,dt,.inl ⟨rfl,_,cP.of l.ht⟩,_,rfl,_,rfl,_,rfl,uk,λZ ea=>⟨_,rfl,_,_,rfl,rfl,⟨by decide,by decide⟩,_,_,rfl,rfl,by show(0:Int)<2;decide,xL cG hw ⟨MU,λtp M=>?_⟩⟩⟩;have s8:=(cJ.upd (o:=.lst [V.str "both",V.str "one"]) ea).trans<|cJ.upd (o:=.tup [.int hr,.str I,.str z2,.str wy]) M;have g:=l.mono s8;have ay:tp≠s:=(cH (cJ.upd (o:=.lst [V.str "both",V.str "one"]) ea _ _ l.ht) M).symm;refine⟨s,ts,.ref tp,rfl,rfl,g.ht,by lia,?_⟩;refine⟨ss,ts++[.ref tp],ys,_,_,_,_,_,_,_,rfl,λb o e n1 n2 n3=>by rw[cI n2];exact s8 _ _<|cm b o e n1 n2 n3,g.Qw ⟨cf.2.1,ad.2.1,dd,eo.symm⟩ (by lia) ⟨tp,hr,I,z2,wy,rfl,by rw[cI ay];exact cG,kH,de,ej,λe=>es e.symm,dk⟩,by rw[R3];show ts.length+1<=i+1;lia,ly⟩
   ·rw[Sw]at f5
    refine⟨_,rfl,p,_,rfl,dy,.inl ⟨rfl,_,cP.of l.hy⟩,_,rfl,_,rfl,_,rfl,_,rfl,N,U,I,z2,ps,rfl,U0,U1,de,ej,λe=>es e.symm,λv d H8 s8 sd sk=>?_⟩;have g:=l.mono s8;refine⟨Y,ys,v,rfl,rfl,g.hy,by lia,?_⟩;have si:=(Lf sd sk).mono<|Tk.upd g.hy (ys:=ys++[v]);refine⟨ss,ts,ys++[v],_,_,_,_,_,_,_,rfl,λb o e n1 n2 n3=>by rw[cI n3];exact s8 _ _<|cm b o e n1 n2 n3,g.Qi ⟨cf.2.2,ad.2.2,cl,eo⟩ (by lia) si,by lia,by rw[R3];show ys.length+1<=50;lia⟩
  ·rw[Sw]at fy
   refine⟨_,rfl,p,_,rfl,ds,.inl ⟨rfl,_,cP.of l.hs⟩,_,rfl,_,rfl,MW,λta as=>⟨tL,λtp M=>?_⟩⟩;have sa:=cJ.upd (o:=.tup [.str "word"]) as;have s8:=sa.trans<|cJ.upd (o:=.tup [.str I,.int hr,.ref ta]) M;have g:=l.mono s8;have ay:tp≠S:=(cH (sa _ _ l.hs) M).symm;have dm:ta≠S:=(cH l.hs as).symm;refine⟨S,ss,.ref tp,rfl,rfl,g.hs,by lia,?_⟩;refine⟨ss++[.ref tp],ts,ys,_,_,_,_,_,_,_,rfl,λb o e n1 n2 n3=>by rw[cI n1];exact s8 _ _<|cm b o e n1 n2 n3,g.Nl ⟨cf.1,ad.1,dd.symm,cl.symm⟩ (by lia) ⟨tp,I,hr,ta,["word"],rfl,by rw[cI ay];exact cG,de,kH,by rw[cI dm];exact cJ.upd M _ _ cG,by decide,by decide,λx hx=>by rw[Sd]at hx;rw[hx];exact u9⟩,by lia,ly⟩
 ·rintro σ H6 ⟨ss,ts,ys,e5,e6,e7,e8,e9,YC,e4,rfl,kp,ok,lt,ly⟩
  refine O _ _ ?_;have gn:∀{YM:Yb V}{H8:Hp},cJ H H8->jc ps H8 p F S s Y YM ts ys->Q (.ref p) H8:=λs8 g=>k p F S s Y ps _ ts ys _ s8 (s2.free aj) po dg g;have s6:=eb kp;have ds:=ok.ds;refine kP (λed H'=>∃(YM:Yb V),ed=[some<|.ref sc,some<|.int hd,some<|.ref F,some<|.int U,some<|.ref p,e5,e6,e7,e8,e9,YC,e4,none,none]/\cJ H H'/\jc ps H' p F S s Y YM ts ys) ?_ ss.isEmpty (λQ' q'=>?_) (λem H7 s7 hR=>?_) λ_ H7 s7=>?_
  ·rintro ed H8 ⟨YM,rfl,s8,g⟩
   have ret:∀{e3:St}{H9:Hp}{S' T':X4}{f0 fw:Yb V},e3[4]? =some (some<|.ref p)->cJ H H9->jc ps H9 p F S' T' Y f0 fw ys->zm (gC 4) { nx:=λ_ H'=>Q .non H',rt:=Q } e3 H9:=λh s9 fp=>⟨_,h,k p F _ _ Y ps _ _ ys _ s9 (s2.free aj) po dg fp⟩;refine⟨_,rfl,_,_,rfl,rfl,⟨by decide,by decide⟩,_,_,rfl,rfl,by show(0:Int)<3;decide,rfl,_,rfl,dJ (λ_=>⟨_,rfl,F,_,rfl,.inl<|cP.of g.hp,_,_,rfl,rfl,_,rfl,dJ (λh3=>?_) λ_=>ret rfl s8 g⟩) λ_=>dS<|ret rfl s8 g⟩;have gi:3<=ps.length:=by
    rw[Sw,R5]at h3;lia
   clear h3;obtain⟨z0,cd⟩:∃z,ps[0]? =some z:=⟨_,RY<|by lia⟩;obtain⟨I,ai⟩:∃z,ps[1]? =some z:=⟨_,RY<|by lia⟩;obtain⟨z2,b4⟩:∃z,ps[2]? =some z:=⟨_,RY<|by lia⟩;have un:∀{i j:Nat}{a b:Yc},ps[i]? =some a->ps[j]? =some b->i≠j->a≠b:=λh1 h2 n e=>by
    obtain⟨q1,q2⟩:=gI0.mp h1;obtain⟨q3,q4⟩:=gI0.mp h2;exact n ((Uy po.nd).mp<|by rw[q2,q4,e])
   have az:∀{i:Nat}{z:Yc},ps[i]? =some z->mZ (ps.map V.str) (i:Int)=some (.str z):=λh=>c8 (by rw[Sk,h];rfl);have a3:mZ (ps.map V.str) 0=some (.str z0):=az cd;have ap:mZ (ps.map V.str) 1=some (.str I):=az ai;have al:mZ (ps.map V.str) 2=some (.str z2):=az b4;have a0:=R4 cd;have dr:=R4 ai;have bi:=R4 b4;have ez:∀x∈[("word" :Yc)],d7 x=true:=λx hx=>by rw[Sd]at hx;rw[hx];exact u9
   refine⟨_,rfl,xL g.hp a3 ⟨MW,λa1 n1=>⟨tL,λt1 m1=>?_⟩⟩⟩;have R:=cJ.upd (o:=.tup [.str "word"]) n1;have q:=cJ.upd (o:=.tup [.str z0,.int 0,.ref a1]) m1;have g1:dU ps (upd (upd H8 a1<|.tup [.str "word"]) t1<|.tup [.str z0,.int 0,.ref a1]) (.ref t1):=⟨t1,z0,0,a1,["word"],rfl,cG,a0,an (by decide)<|by decide,q _ _ cG,by decide,by decide,ez⟩;have s9:=R.trans q;generalize upd (upd H8 a1<|.tup [.str "word"]) t1 (.tup [.str z0,.int 0,.ref a1])=H9 at s9 g1;clear R q n1 m1;refine⟨_,rfl,xL (s9 _ _ g.hp) ap ⟨MW,λa2 n2=>⟨tL,λt2 m2=>⟨uk,λtw eq=>?_⟩⟩⟩⟩;have R:=cJ.upd (o:=.tup [.str "word"]) n2;have q:=cJ.upd (o:=.tup [.str I,.int 0,.ref a2]) m2;have sC:=cJ.upd (o:=.lst [.ref t1,.ref t2]) eq;have g2:dU ps (upd (upd H9 a2<|.tup [.str "word"]) t2<|.tup [.str I,.int 0,.ref a2]) (.ref t2):=⟨t2,I,0,a2,["word"],rfl,cG,dr,an (by decide)<|by decide,q _ _ cG,by decide,by decide,ez⟩;have g2:=g2.mono<|Tk.of sC;have g1:=g1.mono<|Tk.of<|(R.trans q).trans sC;have dn:upd (upd (upd H9 a2<|.tup [.str "word"]) t2<|.tup [.str I,.int 0,.ref a2]) tw (.lst [.ref t1,.ref t2]) tw=some (.lst [.ref t1,.ref t2]):=cG;have sX:=s9.trans<|(R.trans q).trans sC;generalize upd (upd (upd H9 a2<|.tup [.str "word"]) t2<|.tup [.str I,.int 0,.ref a2]) tw (.lst [.ref t1,.ref t2])=HX at sX g1 g2 dn;clear R q sC n2 m2 eq s9;have ck:=g.mono sX;have ec:eB YM none (some 20)=YM.take 20:=by
    unfold eB;have e1:HT.iA YM.length YM.length (some 20)=min 20 YM.length:=HT.mJ _ _ 20;rw[e1,show HT.iA YM.length 0 none=0 from rfl,XD,Ve,List.take_eq_take_iff];lia
   refine⟨_,rfl,_,rfl,p,_,rfl,ck.ds,_,rfl,S,_,rfl,cP.of ck.hs,λsl dx=>?_⟩;rw[ec];have R:=sX.trans<|cJ.upd (o:=.lst<|YM.take 20) dx;have sY:=cJ.upd (o:=.lst<|YM.take 20) dx;have ce:upd HX sl (.lst<|YM.take 20) sl=some (.lst<|YM.take 20):=cG;generalize upd HX sl (.lst<|YM.take 20)=HY at R sY ce;have b0:=ck.mono sY;have f7:(YM.take 20).length<=20:=X2 _ _;refine⟨sl,rfl,⟨_,cP.of ce⟩,EM (cP.of ce) (by lia) ?_ ?_⟩
   ·intro i v H9 K1 K2 B s9 k1 k2
    obtain⟨a,z,h,ta,ws,rfl,ha,_⟩:=b0.gs v<|Ub<|R4 B;exact⟨_,rfl,xT (s9 _ _ ha) rfl ⟨_,rfl,xL (s9 _ _ b0.hp) al ⟨rfl,_,rfl,dJ (λ_=>⟨_,rfl,k1 _<|cJ.refl _⟩) λ_=>k2 _<|cJ.refl _⟩⟩⟩
   intro lc yl H9 fr s9 e2 f8 f4;have c5:=b0.mono s9;have gZ:∀v∈[V.ref t1,V.ref t2]++yl,dU ps H9 v:=λv B=>by
    obtain B|B:=Sz.mp B
    ·obtain rfl|B:=SS.mp B
     ·exact g1.mono<|Tk.of<|sY.trans s9
     ·rw[Sd.mp B]
      exact g2.mono<|Tk.of<|sY.trans s9
    ·exact c5.gs v<|Ub<|f4 v B
   refine⟨tw,lc,_,_,rfl,rfl,cP.of<|(sY.trans s9) _ _ dn,cP.of e2,by show 2+yl.length<=sizeLine;lia,λs' eh=>?_⟩;have sW:=cJ.upd (o:=.lst<|[V.ref t1,V.ref t2]++yl) eh;have cr:upd H9 s' (.lst<|[V.ref t1,V.ref t2]++yl) s'=some (.lst<|[V.ref t1,V.ref t2]++yl):=cG;have dc:=(s8.trans R).trans<|s9.trans sW;have gW:∀v∈[V.ref t1,V.ref t2]++yl,dU ps (upd H9 s'<|.lst<|[V.ref t1,V.ref t2]++yl) v:=λv B=>(gZ v B).mono<|Tk.of sW;have cg:=c5.mono sW;generalize upd H9 s' (.lst<|[V.ref t1,V.ref t2]++yl)=HW at dc cr gW cg;clear sW gZ c5 eh e2 s9 fr b0 ce dx R sY ck dn g1 g2 sX g s8;obtain⟨Yj,hk,ei,_⟩:=id cg.hmd;have ax:=cg.Qn hk cr (by rw[R3];show 2+yl.length<=24;lia) gW;have ev:cJ H (upd HW p<|.dK<|putK Yj (Sum.inr "sights")<|.ref s'):=λb o e=>by
    rw[cI<|cH e<|s2.free aj];exact dc _ _ e
   refine⟨_,rfl,p,_,rfl,l7.k (k:=Sum.inr "sights") hk<|by lia,?_⟩;generalize upd HW p (.dK<|putK Yj (Sum.inr "sights")<|.ref s')=HV at ax ev;clear gW cr hk cg dc ei;generalize [V.ref t1,V.ref t2]++yl=gk at ax;have uh:∀m:Int,0<=m->m<=38->dC (m*U):=λm m0 m1=>by
    have a1:0<=m*U:=Int.mul_nonneg m0 U0;have a2:m*U<=38*1000000000000000:=Int.mul_le_mul m1 U1 U0 (by decide);exact an a1 (by lia)
   have uo:dC U:=an U0 (by lia);refine⟨_,rfl,_,rfl,xL ax.hp a3 ⟨_,rfl,xL ax.hp ap ⟨MU,λL n1=>?_⟩⟩⟩;have R:=cJ.upd (o:=.tup [.int U,.str z0,.str I,.str "both"]) n1;have q1:fg ps (upd HV L<|.tup [.int U,.str z0,.str I,.str "both"]) (.ref L):=⟨L,U,z0,I,"both",rfl,cG,uo,a0,dr,un cd ai<|by decide,.inl rfl⟩;generalize upd HV L (.tup [.int U,.str z0,.str I,.str "both"])=HA at R q1;have ca:=ax.mono R;refine⟨_,rfl,_,_,rfl,rfl,.inl ⟨by decide,by lia⟩,_,rfl,xL ca.hp a3 ⟨_,rfl,xL ca.hp al ⟨MU,λW n2=>⟨uk,λmo d5=>?_⟩⟩⟩⟩;have q:=cJ.upd (o:=.tup [.int<|37*U,.str z0,.str z2,.str "one"]) n2;have sC:=cJ.upd (o:=.lst [.ref L,.ref W]) d5;have q2:fg ps (upd HA W<|.tup [.int<|37*U,.str z0,.str z2,.str "one"]) (.ref W):=⟨W,_,z0,z2,"one",rfl,cG,uh 37 (by decide)<|by decide,a0,bi,un cd b4<|by decide,.inr rfl⟩;have q2:=q2.mono<|Tk.of sC;have q1:=q1.mono<|Tk.of<|q.trans sC;have am:upd (upd HA W<|.tup [.int<|37*U,.str z0,.str z2,.str "one"]) mo (.lst [.ref L,.ref W]) mo=some (.lst [.ref L,.ref W]):=cG;have sD:=R.trans<|q.trans sC;have bb:=ca.mono<|q.trans sC;show eX 13 (.ref mo) _ (upd (upd HA W<|.tup [.int<|37*U,.str z0,.str z2,.str "one"]) mo<|.lst [.ref L,.ref W]) _;generalize upd (upd HA W<|.tup [.int<|37*U,.str z0,.str z2,.str "one"]) mo (.lst [.ref L,.ref W])=HB at q1 q2 am sD bb;clear R q sC ca n1 n2 d5;refine⟨_,rfl,_,rfl,_,_,rfl,rfl,.inl ⟨by decide,by lia⟩,_,rfl,xL bb.hp ap ⟨_,rfl,xL bb.hp al ⟨MU,λZ n3=>⟨MW,λl3 ep=>?_⟩⟩⟩⟩;have q:=cJ.upd (o:=.tup [.int<|38*U,.str I,.str z2,.str "one"]) n3;have sC:=cJ.upd (o:=.lst [.ref Z]) ep;have q3:fg ps (upd HB Z<|.tup [.int<|38*U,.str I,.str z2,.str "one"]) (.ref Z):=⟨Z,_,I,z2,"one",rfl,cG,uh 38 (by decide)<|by decide,dr,bi,un ai b4<|by decide,.inr rfl⟩;have q3:=q3.mono<|Tk.of sC;have q1:=q1.mono<|Tk.of<|q.trans sC;have q2:=q2.mono<|Tk.of<|q.trans sC;have co:upd (upd HB Z<|.tup [.int<|38*U,.str I,.str z2,.str "one"]) l3 (.lst [.ref Z]) l3=some (.lst [.ref Z]):=cG;have am:=(q.trans sC) _ _ am;have sE:=sD.trans<|q.trans sC;have cs:=bb.mono<|q.trans sC;generalize upd (upd HB Z<|.tup [.int<|38*U,.str I,.str z2,.str "one"]) l3 (.lst [.ref Z])=HC at q1 q2 q3 co am sE cs;clear q sC bb n3 ep sD;refine⟨mo,l3,_,_,rfl,rfl,cP.of am,cP.of co,tL,λc1 d2=>?_⟩;have q:=cJ.upd (o:=.lst<|[V.ref L,V.ref W]++[V.ref Z]) d2;have ef:upd HC c1 (.lst<|[V.ref L,V.ref W]++[V.ref Z]) c1=some (.lst [V.ref L,V.ref W,V.ref Z]):=cG;have q1:=q1.mono<|Tk.of q;have q2:=q2.mono<|Tk.of q;have q3:=q3.mono<|Tk.of q;have bf:=cs.mono q;have sF:=sE.trans q;generalize upd HC c1 (.lst<|[V.ref L,V.ref W]++[V.ref Z])=HD at q1 q2 q3 ef bf sF;clear q d2 co am cs sE;refine⟨_,rfl,p,_,rfl,bf.dt,c1,s,_,_,rfl,rfl,cP.of ef,cP.of bf.ht,by show 3+ts.length<=sizeLine;lia,λt' f2=>?_⟩;have q:=cJ.upd (o:=.lst<|[V.ref L,V.ref W,V.ref Z]++ts) f2;have eg:upd HD t' (.lst<|[V.ref L,V.ref W,V.ref Z]++ts) t'=some (.lst<|[V.ref L,V.ref W,V.ref Z]++ts):=cG;have bm:=bf.mono q;have gE:∀v∈[V.ref L,V.ref W,V.ref Z]++ts,fg ps (upd HD t'<|.lst<|[V.ref L,V.ref W,V.ref Z]++ts) v:=λv B=>by
    obtain B|B:=Sz.mp B
    ·obtain rfl|B:=SS.mp B
     ·exact q1.mono<|Tk.of q
     ·obtain rfl|B:=SS.mp B
      ·exact q2.mono<|Tk.of q
      ·rw[Sd.mp B]
       exact q3.mono<|Tk.of q
    ·exact bm.gt v B
   have sG:=ev.trans<|sF.trans q;generalize upd HD t' (.lst<|[V.ref L,V.ref W,V.ref Z]++ts)=HE at eg bm gE sG;obtain⟨Yj,hk,ei,_⟩:=id bm.hmd;have fv:=bm.QR hk eg (by rw[R3];show 3+ts.length<=64;lia) gE;refine⟨_,rfl,p,_,rfl,l7.k (k:=Sum.inr "talks") hk<|by lia,ret rfl (λb o e=>?_) fv⟩;rw[cI<|cH e<|s2.free aj];exact sG _ _ e
  ·refine⟨_,rfl,p,_,rfl,ds,Km,λe0 n0=>?_⟩
   have s7:=cJ.upd (o:=.lst []) n0;cases ss with
   |nil=>exact .same S e0 [] [] [] rfl rfl (cP.of<|s7 _ _ ok.hs) (cP.of cG) rfl rfl (λi u v c hu=>by cases hu) ⟨_,rfl,q' _ s7⟩
   |cons v r=>exact .other S e0 (v::r) [] rfl rfl (cP.of<|s7 _ _ ok.hs) (cP.of cG) (by show r.length+1≠0;lia) ⟨_,rfl,q' _ s7⟩
  ·have l:=ok.mono s7
   have se:ss=[]:=List.isEmpty_iff.mp em;subst se;obtain⟨z0,a3,a0⟩:=AR (ps:=ps) (i:=0) (by decide) (by lia);refine⟨_,rfl,p,_,rfl,l.ds,.inl ⟨rfl,_,cP.of l.hs⟩,_,rfl,xL l.hp a3 ⟨MW,λta as=>⟨tL,λtp M=>?_⟩⟩⟩;have sa:=cJ.upd (o:=.tup [.str "word"]) as;have s8:=sa.trans<|cJ.upd (o:=.tup [.str z0,.int 0,.ref ta]) M;have g:=l.mono s8;have ay:tp≠S:=(cH (sa _ _ l.hs) M).symm;have dm:ta≠S:=(cH l.hs as).symm;have fj:=s6.trans<|s7.trans s8;refine⟨S,[],.ref tp,rfl,rfl,g.hs,by show 0<sizeLine;decide,hR _ _ ⟨[.ref tp],rfl,λb o e=>?_,g.Nl ⟨cf.1,ad.1,dd.symm,cl.symm⟩ (by decide) ⟨tp,z0,0,ta,["word"],rfl,by rw[cI ay];exact cG,a0,an (by decide)<|by decide,by rw[cI dm];exact cJ.upd M _ _ cG,by decide,by decide,λx hx=>by rw[Sd]at hx;rw[hx];exact u9⟩⟩⟩;rw[cI<|cH e<|s2.free fS];exact fj _ _ e
  ·exact⟨ss,rfl,s6.trans s7,ok.mono s7⟩
def OP(z:Yc)(h:Int):SD->Bool
 |.unh q none=>decide<|q=z
 |.unh q (some i)=>decide (q=z)&&decide (h<=i)
 |_=>false
def Pw(h:Int):X8 Int->Bool
 |none=>false
 |some i=>decide<|i<h
theorem um(h:Int):∀(us:Yb (X8 Int)) (a:Int),eT h (NG a us)=(decide (a<h)&&us.all (Pw h))
 |[],a=>by
  show decide (a<h)=(decide (a<h)&&true);grind
 |none::r,a=>by
  show false=(decide (a<h)&&(false&&r.all (Pw h)));grind
 |some i::r,a=>by
  show eT h (NG (if i > a then i else a) r)=(decide (a<h)&&(decide (i<h)&&r.all (Pw h)));rw[um h r,<-Bool.and_assoc]
  congr 1
  grind
theorem wo(z:Yc)(h:Int):∀sd:Yb SD,(uZ z sd).all (Pw h)= !(sd.any<|OP z h)
 |[]=>rfl
 |d::r=>by
  rw[Uu,Bool.not_or,<-(wo z h r)];cases d with
  |unh q o=>
   by_cases e:q=z
   ·subst e
    rw[wj,W0]
    congr 1
    cases o with
    |none=>
     show false= !(decide<|q=q);rw[dT0 rfl];rfl
    |some i=>
     show decide (i<h)= !(decide (q=q)&&decide (h<=i));rw[dT0 rfl,To];by_cases c:i<h
     ·rw[dT0 c,Se<|by lia]
      rfl
     ·rw[Se c,dT0<|by lia]
      rfl
   ·rw[gS<|show xG z (.unh q o)=false from Se e]
    have:OP z h (.unh q o)=false:=by
     cases o with
     |none=>exact Se e
     |some i=>
      show(decide (q=z)&&decide (h<=i))=false;rw[Se e,Tw]
    rw[this];rfl
  |knew q i=>
   rw[gS rfl];rfl
  |sil q b e=>
   rw[gS rfl];rfl
  |bar q a=>
   rw[gS rfl];rfl
def GU{z:Yc}{h:Int}{sd:Yb SD}(h0:0<=h):eT h (floorOf z sd)= !(sd.any<|OP z h):=by
 unfold floorOf;rw[um,wo,dT0<|show(-1:Int)<h by lia,To]
def Dz{α:Type}{f:α->Bool}{l:Yb α}{i:Nat}{d:α}(h:l[i]? =some d)(h0:(l.take i).any f=false)(a:f d=false):(l.take<|i+1).any f=false:=by
 rw[SU,h,XM,h0];show(false||(f d||false))=false;rw[a];rfl
theorem Ey{α:Type}(f g:α->Bool):∀l:Yb α,(l.any λd=>f d||g d)=(l.any f||l.any g)
 |[]=>rfl
 |d::r=>by
  rw[Uu,Uu,Uu,Ey f g r];cases f d<;>cases g d<;>cases r.any f<;>cases r.any g<;>rfl
def xD(a he:Yc)(h:Int)(d:SD):Bool:=q9 a h d||wM he a d
inductive KN(vs:Yb V)(H:Hp)(Q:VK):Prop
 |mk(a p s t y:X4)(ps:Yb Yc)(ss f ys:Yb V)(z:Yc)(h:Int)(sd:Yb SD)(e:vs=[.ref a,.str z,.int h])(ok:jc ps H a p s t y ss f ys)(g:Sys H ys sd)(h0:0<=h)(k:∀H',cJ H H'->Q (.bl (eT h (floorOf z sd))) H')
def pF:Sp:=λa H Q _=>KN a H Q
inductive MB(vs:Yb V)(H:Hp)(Q:VK):Prop
 |mk(h p s t y a:X4)(ps:Yb Yc)(ss i ys:Yb V)(f:Yb QD)(g:TK)(e:vs=[.ref h,.ref a])(ok:jc ps H h p s t y ss i ys)(j:Lz dD H i f)(l:lC H a g)(lt:g.1<f.length)(k:Q (.int (cN f g.1)) H)
def mQ:Sp:=λa H Q _=>MB a H Q
inductive L8(vs:Yb V)(H:Hp)(Q:VK):Prop
 |mk(f p s t y:X4)(ps:Yb Yc)(ss g ys:Yb V)(a:Yb GD)(sd:Yb SD)(e:vs=[.ref f])(ok:jc ps H f p s t y ss g ys)(h:Lz dz H ss a)(j:∀d∈a,d.1∈ps/\dC d.2)(i:Sys H ys sd)
   (k:∀d Yj H',cJ H H'->H d=none->H' d=some (.dK Yj)->lq Yj (c4 (a.filter (cR sd)))->Q (.ref d) H')
def Al:Sp:=λa H Q _=>L8 a H Q
inductive FP(f d:X4)(H1:Hp)(j:Yb GD)(sd:Yb SD)(i:Nat)(σ:St)(a:Hp):Prop
 |mk(l g h:X8 V)(Yj:Yb (Key×V))(e:σ=[some (.ref f),some (.ref d),l,g,h])(m:∀b o,H1 b=some o->b≠d->a b=some o)(hd:a d=some (.dK Yj))(n:Yj.length<=i)(sn:lq Yj (c4 ((j.take i).filter (cR sd))))
def Cz:cL ["_law_made_here","_law_person","_law_hour_here","_law_one"] ["_law_made_here","_law_person","_law_hour_here"] (cK pW):={}
def FG (D:Df K mg "_law_free" pW ["_law_made_here","_law_person","_law_hour_here"] f fd):Gd P w K mg base 1 "_law_free" pF:=by
 refine aJ D Cz λX H vs Q E x h=>?_;obtain⟨I,p,s,t,y,ps,Y,ts,S,z,h,sd,rfl,ok,G,O,k⟩:=h;have L:=ok.hy;rw[GU O]at k;obtain⟨N,U,R,B,_⟩:=x.fA [0,1,2,3];refine⟨_,(af (bh x.own x.calm (aX<|aM (d9 x.room) (aa N) aw ak) (aR B x.nd)
 (ag (aK (a7<|bq (aI aS (ah aG (aa B) ae ak) aw<|cM _)<|bq (aI aS (ah aG (aa B) ae ak) (aa U)<|cM _)<|bz<|a7<|bI (aI J.pQ (ah aG (aa B) ae ak) bS<|cM _)<|bR<|aI J.AY (ah aG (aa B) ae ak) (aa R)<|cM _)
 (ag<|aD a8)
 aL)))
 (ag<|aD a8)),?_⟩
 refine⟨_,rfl,I,_,rfl,ok.dy,y,rfl,⟨_,cP.of L⟩,dw (xs:=S) (λi σ r=>∃e:X8 V,σ=[some<|.ref I,some<|.str z,some<|.int h,e]/\cJ H r/\(sd.take i).any (OP z h)=false)
  ⟨none,rfl,cJ.refl _,rfl⟩ ?_ ?_ ?_⟩
 ·rintro i σ r hi ⟨e,rfl,m,_⟩
  exact cP.of<|m _ _ L
 ·rintro i v σ r T ⟨e,rfl,m,n⟩
  obtain⟨d,a,M,rfl,W⟩:=G.at T;have g:=m _ _ W;have A:OP z h d=true->Q (.bl false) r:=λZ=>by grind
  have no:=Dz M n;cases d with
  |knew q i'=>exact⟨_,rfl,xT g rfl ⟨rfl,_,rfl,iN<|dS ⟨_,rfl,m,no rfl⟩⟩⟩
  |sil q b e'=>exact⟨_,rfl,xT g rfl ⟨rfl,_,rfl,iN<|dS ⟨_,rfl,m,no rfl⟩⟩⟩
  |bar q q'=>exact⟨_,rfl,xT g rfl ⟨rfl,_,rfl,iN<|dS ⟨_,rfl,m,no rfl⟩⟩⟩
  |unh q o=>
   refine⟨_,rfl,xT g rfl ⟨rfl,_,rfl,iP ⟨_,rfl,xT g rfl ⟨_,rfl,rfl,_,rfl,dJ (λC=>?_) λC=>dS ?_⟩⟩⟩⟩
   ·have l:=V.str.inj (Sj C)
    cases o with
    |none=>exact⟨_,rfl,xT g rfl ⟨rfl,_,rfl,fD (dT0 rfl)<|eU<|A<|dT0 l⟩⟩
    |some j=>
     refine⟨_,rfl,xT g rfl ⟨rfl,_,rfl,gQ (by rw[Sw];intro e;cases e) ⟨_,rfl,xT g rfl ⟨_,rfl,_,_,rfl,rfl,_,rfl,dJ (λF=>A ?_) λF=>⟨_,rfl,m,no ?_⟩⟩⟩⟩⟩
     ·show(decide (q=z)&&decide (h<=j))=true
      rw[dT0 l,F];rfl
     ·show(decide (q=z)&&decide (h<=j))=false
      rw[VG F,TX]
   ·refine⟨_,rfl,m,no ?_⟩
    have l:¬q=z:=λe=>C<|dT0<|SY V.str e;cases o with
    |none=>exact Se l
    |some j=>
     show(decide (q=z)&&decide (h<=j))=false;rw[Se l,Tw]
 ·rintro σ r ⟨e,rfl,m,n⟩
  rw[G.1,Tj]at n;have:=k r m;rw[n]at this;exact this
def CO:cL ["_law_made_here","_law_telling"] ["_law_made_here","_law_telling"] (cK qf):={}
def Fq (D:Df K mg "_law_hour" qf ["_law_made_here","_law_telling"] f fd):Gd P w K mg base 1 "_law_hour" mQ:=by
 refine aJ D CO λX H G Q E m h=>?_;obtain⟨x,p,s,t,y,a,F,B,z,I,v,i,rfl,ok,l,r,lt,k⟩:=h;obtain⟨o,A,_⟩:=m.fA [0,1];refine⟨_,ag<|aD<|ah aG (ah aP (aM (d9 m.room) (aa o) aw ak) (ah aG (aa A) ae ak) cA) ae ak,?_⟩;obtain⟨q,j⟩:∃q,v[i.1]? =some q:=⟨_,RY lt⟩;obtain⟨n,e⟩:∃n,z[i.1]? =some n:=⟨_,RY<|by rw[l.1];exact lt⟩;obtain⟨C,rfl,g⟩:=l.2 _ _ _ e j;rw[iG j]at k;exact⟨_,rfl,x,_,rfl,ok.dt,_,rfl,xT r rfl<|xL ok.ht (c8 e)<|xT g rfl k⟩
def CW:cL ["_law_made_here","_law_seen_here","_law_person","_law_hour_here","_law_tale"] ["_law_made_here"] (cK p8):={}
def Eu (D:Df K mg "_law_seen" p8 ["_law_made_here"] f fd) (T:Txt K mg kw C) (Z:Gd P w K mg base 1 "_law_free" pF):Gd P w K mg base 2 "_law_seen" Al:=by
 refine aJ D CW λX H vs Q E l h=>?_;obtain⟨F,p,s,t,y,ps,ss,ts,ys,z,sd,rfl,ok,gs,gk,sy,k⟩:=h;have hu:=d9 l.room;have Yu:=Sq;have sl:=ok.ls;obtain⟨S0,U,N,R,S4,_⟩:=l.fA [0,1,2,3,4];refine⟨_,(af (aB U l.nd J.kG)
 (af (bh l.own l.calm (aX<|aM hu (aa S0) aw ak) (b8 l.calm<|a6 (aR N l.nd)<|a6 (aR R l.nd)<|a6 (aR S4 l.nd) bO)
 (ag (aK (bo<|au (l.eO Z rfl (by lia)<|by decide)<|aO (aa S0) (aa N)<|aa R)
 (ag<|bZ hu (aa U) (aa N)<|aH (l.b T.b_min) (J.iw l.calm) zB<|aE (aa R)<|J.Pc hu (aa U) (aa N)<|aa R)
 aL)))
 (ag<|aD<|aa U))),?_⟩
 intro d nd;generalize Y:upd H d _=H1;obtain⟨s1,ab⟩:=nx nd Y;have I:=ok.mono s1;have keep:∀{b:X4}{o:HO}{x:Hp},(∀b o,H1 b=some o->b≠d->x b=some o)->H b=some o->x b=some o:=λq e=>q _ _ (s1 _ _ e)<|cH e nd;refine⟨_,rfl,F,_,rfl,I.ds,s,rfl,⟨_,cP.of I.hs⟩,dw (xs:=ss) (FP F d H1 z sd) ⟨none,none,none,[],rfl,λb o e _=>e,ab,R9 0,⟨λ_=>rfl⟩⟩ ?_ ?_ ?_⟩
 ·rintro i σ x hi ⟨e2,e3,e4,A,rfl,q,B,kl,r⟩
  exact cP.of<|keep q ok.hs
 ·rintro i v σ x hv ⟨e2,e3,e4,A,rfl,q,B,kl,r⟩
  have hi:=(gI0.mp hv).1;obtain⟨g,hg,a,ta,rfl,ha⟩:=gs.at hv;have s2:cJ H x:=λb o e=>keep q e;have W:=gk g<|R4 hg;have lk:A.length<sizeLine:=by lia
  have O:(z.take<|i+1).filter (cR sd)=(z.take i).filter (cR sd)++(if cR sd g=true then [g] else []):=by
   rw[SU,hg,T7]
   congr 1
   show List.filter (cR sd) [g]=_;rw[TV];rfl
  refine⟨a,_,rfl,fc.of<|keep q ha,rfl,_,_,rfl,_,_,rfl,_,_,rfl,rfl,?_⟩;refine⟨_,rfl,_,rfl,_,rfl,F,p,s,t,y,ps,ss,ts,ys,g.1,g.2,sd,rfl,ok.mono s2,sy.mono<|Tk.of s2,W.2.1,λH3 S=>⟨_,rfl,dJ (λop=>?_) λno=>?_⟩⟩
  ·have n:=S _ _ B
   have G:=dP.k (k:=Sum.inr g.1) n;rw[r.get]at G;rw[Sb<|show cR sd g=true from op]at O;have put:∀m:Int,fV (c4<|(z.take i).filter<|cR sd) g g.1=some m->FP F d H1 z sd (i+1) [some<|.ref F,some<|.ref d,some<|.str g.1,some<|.int g.2,some<|.ref ta] (upd H3 d<|.dK<|putK A (Sum.inr g.1)<|.int m):=λm em=>
    ⟨_,_,_,_,rfl,λb o e L=>by rw[cI L];exact S _ _<|q b o e L,cG,SF (dH _ _ _)<|by lia,by
     rw[O,p6];exact r.put em⟩
   cases M:c4 ((z.take i).filter<|cR sd) g.1 with
   |none=>
    rw[M]at G;exact⟨_,rfl,_,rfl,d,rfl,.inl ⟨_,.inl n⟩,_,rfl,_,rfl,_,G,g.2,g.2,rfl,_,rfl,_,rfl,d,_,rfl,l7.k (k:=Sum.inr g.1) n lk,put _<|by unfold fV;rw[Sb rfl,M,R7<|Int.lt_irrefl _]⟩
   |some j=>
    rw[M]at G;exact⟨_,rfl,_,rfl,d,rfl,.inl ⟨_,.inl n⟩,_,rfl,_,rfl,_,G,g.2,j,rfl,_,rfl,_,rfl,d,_,rfl,l7.k (k:=Sum.inr g.1) n lk,put _<|by unfold fV;rw[Sb rfl,M]⟩
  ·rw[R7<|show ¬cR sd g=true from no,SH]at O
   exact⟨_,_,_,A,rfl,λb o e L=>S _ _<|q b o e L,S _ _ B,by lia,by rw[O];exact r⟩
 ·rintro σ x ⟨e2,e3,e4,A,rfl,q,B,kl,r⟩
  rw[gs.1,Tj]at r;exact⟨_,rfl,k d A x (λb o e=>keep q e) nd B r⟩
inductive Mc(vs:Yb V)(H:Hp)(Q:VK):Prop
 |mk(f p s t y:X4)(ps:Yb Yc)(ss g ys:Yb V)(a:Yb QD)(sd:Yb SD)(e:vs=[.ref f])(ok:jc ps H f p s t y ss g ys)(h:Lz dD H g a)(i:∀d∈a,lS ps d)(j:Sys H ys sd)
   (k:∀(l:X4)(us:Yb V)(H':Hp),cJ H H'->H l=none->H' l=some (.lst us)->d6 H' us ((fF 0 (fH a)).filter (dj a sd))->Q (.ref l) H')
def Bo:Sp:=λa H Q _=>Mc a H Q
inductive xE  (H:Hp)(v:V)(d:Yc×Yc):Prop
 |mk(a:X4)(h0:v=.ref a)(e:H a=some (.tup [.str d.1,.str d.2]))
def Qr(x y:V)(b:Bool):eB [x,y] none (some<|1+(if b=true then 1 else 0))=if b=true then [x,y] else [x]:=by
 cases b<;>rfl
def Cw{H:Hp}{v1 v2:V}{o t:Yc}{b:Bool}(f:xE H v1 (o,t))(g:xE H v2 (t,o)):Lz xE H (eB [v1,v2] none<|some<|1+(if b=true then 1 else 0)) (if b=true then [(o,t),(t,o)] else [(o,t)]):=by
 rw[Qr];cases b with
 |true=>
  rw[Sb rfl,Sb rfl];refine⟨rfl,λi v d a e=>?_⟩
  match i with
  |0=>
   cases a;cases e;exact f
  |1=>
   cases a;cases e;exact g
  |i+2=>cases a
 |false=>
  rw[R7 bF0,R7 bF0];refine⟨rfl,λi v d a e=>?_⟩
  match i with
  |0=>
   cases a;cases e;exact f
  |i+1=>cases a
inductive Pd(h l:X4)(H:Hp)(g:Yb QD)(op:TK->Bool)(i:Nat)(σ:St)(a:Hp):Prop
 |mk(us:Yb V)(r j n f m o p v q:X8 V)(e:σ=[some (.ref h),some (.ref l),r,j,n,f,m,o,p,v,q])(s:cJ H a)(w:a l=some (.lst us))(ul:us.length<=2*i)(x:d6 a us ((fF 0 ((fH g).take i)).filter op))
inductive NL(n l:X4)(d:QD)(i:Nat)(h:Hp)(m:Yb TK)(f:Yb (Yc×Yc))(op:TK->Bool)(j:Nat)(σ:St)(a:Hp):Prop
 |mk(us:Yb V)(p q s r:X8 V)(e:σ=[some (.ref n),some (.ref l),some (.int i),some (.int d.1),some (.str d.2.1),some (.str d.2.2.1),some (.str d.2.2.2),p,q,s,r])(v:∀b o,h b=some o->b≠l->a b=some o)(w:a l=some (.lst us))(ul:us.length<=2*i+j)(x:d6 a us ((m++(f.take j).map (λg=>(i,g.1,g.2))).filter op))
def CT:cL ["_law_made_here","_law_found","_law_k","_law_hour_here","_law_one","_law_other","_law_way","_law_teller","_law_hearer","_law_good","_law_saying_here"] ["_law_made_here"] (cK qe):={}
def DT (D:Df K mg "_law_open" qe ["_law_made_here"] f fd) (T:Txt K mg kw C) (a4:Gd P w K mg base 1 "_law_free" pF):Gd P w K mg base 2 "_law_open" Bo:=by
 refine aJ D CT λX H vs Q E x h=>?_;obtain⟨md,p,s,t,y,ps,ss,ts,ys,L,sd,rfl,ok,qs,qk,sy,k⟩:=h;have hu:=d9 x.room;have Yu:=Sq;have tl:=ok.lt;obtain⟨S0,S1,S2,S3,S4,S5,S6,S7,S8,S9,N,_⟩:=x.fA [0,1,2,3,4,5,6,7,8,9,10];refine⟨_,(af (aB S1 x.nd<|bg bF)
 (af (bh x.own x.calm (cb (x.b T.b_range)<|ao<|aH (x.b T.b_len) aV cZ<|ao<|aM hu (aa S0) aw ak) (aR S2 x.nd)
 (af (J.asg (ah aP (aM hu (aa S0) aw ak) (aa S2) aQ)<|b8 x.calm<|a6 (aR S3 x.nd)<|a6 (aR S4 x.nd)<|a6 (aR S5 x.nd)<|a6 (aR S6 x.nd) bO)
 (ag (bh x.own x.calm (aX<|bW cB (bg<|aE (aN<|aE (aa S4)<|aa S5)<|aN<|aE (aa S5)<|aa S4) b7<|b5<|aF bD ae<|bu (x.b T.b_int) J.n5 y4<|ao<|aZ aS (aa S6) aw<|cM _) (b8 x.calm<|a6 (aR S7 x.nd)<|a6 (aR S8 x.nd) bO)
 (af (aB S9 x.nd<|au (x.eO a4 rfl (by lia)<|by decide)<|aO (aa S0) (aa S8)<|aa S3)
 (af (bh x.own x.calm (aX<|aM hu (aa S0) aw ak) (aR N x.nd)
 (af (aK (a7<|bq (aI aS (ah aG (aa N) ae ak) aw<|cM _)<|bq (aI aS (ah aG (aa N) ae ak) (aa S7)<|cM _)<|bz<|J.iJ bB bB (ah aG (aa N) ae ak) (aa S3) (ah aG (aa N) ae ak) iZ)
 (ag<|aB S9 x.nd a8)
 aL)
 (ag (aK (aI (J.vU hu) (aa N) (aN<|aO aw (aa S8)<|aa S7)<|cM _)
 (ag<|aB S9 x.nd a8)
 aL))))
 (ag (aK (J.Bs<|aa S9)
 (ag<|bw<|bA Ti SE SG bG (aa S1)<|ao<|aN<|aO (aa S2) (aa S7)<|aa S8)
 aL))))))))
 (ag<|aD<|aa S1))),?_⟩
 refine⟨by decide,λl hl=>?_⟩;have s1:=cJ.upd (o:=.lst []) hl;refine⟨_,rfl,md,_,rfl,(ok.mono s1).dt,t,_,rfl,.inl<|cP.of<|s1 _ _ ok.ht,(ts.length:Int),rfl,by lia,by lia,iB (Pd md l H L<|dj L sd)
  ⟨[],none,none,none,none,none,none,none,none,none,rfl,s1,cG,R9 0,d6.nil⟩ ?_ ?_⟩
 ·rintro i σ H2 hi ⟨us,e2,e3,e4,e5,e6,e7,e8,e9,YC,rfl,s2,W,ul,tu⟩
  rw[WH]at hi;have hv:=RY hi;generalize ts[i]=v at hv;obtain⟨d,hd,a,rfl,ha⟩:=qs.at hv;have aq:(fH L)[i]? =some d.2:=by
   unfold fH;rw[Sk,hd];rfl
  have a1:=ok.mono s2;have av:mZ ts ((0:Int)+(i:Int))=some (.ref a):=by rw[WN];exact c8 hv
  have dk:=qk d<|R4 hd;refine⟨_,rfl,md,_,rfl,a1.dt,_,rfl,xL a1.ht av ⟨a,_,rfl,fc.of<|s2 _ _ ha,rfl,_,_,rfl,_,_,rfl,_,_,rfl,_,_,rfl,rfl,?_⟩⟩;rw[WN];refine⟨_,rfl,_,rfl,uk,λA n1=>⟨_,rfl,_,rfl,uk,λB n2=>⟨uk,λq0 as=>?_⟩⟩⟩;have sA:=cJ.upd (o:=.tup [.str d.2.1,.str d.2.2.1]) n1;have sB:=cJ.upd (o:=.tup [.str d.2.2.1,.str d.2.1]) n2;have sC:=cJ.upd (o:=.lst [.ref A,.ref B]) as;refine⟨_,rfl,rfl,.inr ⟨_,rfl,_,_,rfl,rfl,_,rfl,q0,_,rfl,cP.of cG,λq1 aj=>?_⟩⟩;have sD:=cJ.upd (o:=.lst<|eB [.ref A,.ref B] none<|some<|1+(if decide (V.str d.2.2.2=V.str "both")=true then 1 else 0)) aj;have U:=((sA.trans sB).trans sC).trans sD;have p1:xE (upd (upd (upd (upd H2 A<|.tup [.str d.2.1,.str d.2.2.1]) B<|.tup [.str d.2.2.1,.str d.2.1]) q0<|.lst [.ref A,.ref B]) q1<|.lst<|eB [.ref A,.ref B] none<|some<|1+(if decide (V.str d.2.2.2=V.str "both")=true then 1 else 0)) (.ref A) (d.2.1,d.2.2.1):=⟨A,rfl,sD _ _<|sC _ _<|sB _ _ cG⟩;have p2:xE (upd (upd (upd (upd H2 A<|.tup [.str d.2.1,.str d.2.2.1]) B<|.tup [.str d.2.2.1,.str d.2.1]) q0<|.lst [.ref A,.ref B]) q1<|.lst<|eB [.ref A,.ref B] none<|some<|1+(if decide (V.str d.2.2.2=V.str "both")=true then 1 else 0)) (.ref B) (d.2.2.1,d.2.1):=⟨B,rfl,sD _ _<|sC _ _ cG⟩;have lz:=Cw (b:=decide<|V.str d.2.2.2=V.str "both") p1 p2;have Z:upd (upd (upd (upd H2 A<|.tup [.str d.2.1,.str d.2.2.1]) B<|.tup [.str d.2.2.1,.str d.2.1]) q0<|.lst [.ref A,.ref B]) q1 (.lst<|eB [.ref A,.ref B] none<|some<|1+(if decide (V.str d.2.2.2=V.str "both")=true then 1 else 0)) q1=some (.lst<|eB [.ref A,.ref B] none<|some<|1+(if decide (V.str d.2.2.2=V.str "both")=true then 1 else 0)):=cG;have am:q1≠l:=(cH (sC _ _<|sB _ _<|sA _ _ W) aj).symm;have eo:dW i d.2=(if decide (V.str d.2.2.2=V.str "both")=true then [(d.2.1,d.2.2.1),(d.2.2.1,d.2.1)] else [(d.2.1,d.2.2.1)]).map (λr:Yc×Yc=>(i,r.1,r.2)):=by
   unfold dW;by_cases e:d.2.2.2= "both"
   ·rw[Sb e,dT0<|SY V.str e,Sb rfl]
    rfl
   ·rw[R7 e,Se λq=>e<|V.str.inj q,R7 bF0]
    rfl
  have pm:∀r∈(if decide (V.str d.2.2.2=V.str "both")=true then [(d.2.1,d.2.2.1),(d.2.2.1,d.2.1)] else [(d.2.1,d.2.2.1)]),r.1∈ps/\r.2∈ps:=λr hp=>by
   split at hp
   ·simp only[mem_cons,not_mem_nil,or_false]at hp
    obtain rfl|rfl:=hp
    ·exact⟨dk.2.1,dk.2.2.1⟩
    ·exact⟨dk.2.2.1,dk.2.1⟩
   ·simp only[mem_cons,not_mem_nil,or_false]at hp
    subst hp;exact⟨dk.2.1,dk.2.2.1⟩
  have xl:(eB [V.ref A,V.ref B] none<|some<|1+(if decide (V.str d.2.2.2=V.str "both")=true then 1 else 0)).length<=2:=jG _ _ _;have ab:=Tk.of U;generalize upd (upd (upd (upd H2 A<|.tup [.str d.2.1,.str d.2.2.1]) B<|.tup [.str d.2.2.1,.str d.2.1]) q0<|.lst [.ref A,.ref B]) q1 (.lst<|eB [.ref A,.ref B] none<|some<|1+(if decide (V.str d.2.2.2=V.str "both")=true then 1 else 0))=H6 at U lz Z ab;generalize (if decide (V.str d.2.2.2=V.str "both")=true then [(d.2.1,d.2.2.1),(d.2.2.1,d.2.1)] else [(d.2.1,d.2.2.1)])=ac at lz eo pm;generalize eB [V.ref A,V.ref B] none (some<|1+(if decide (V.str d.2.2.2=V.str "both")=true then 1 else 0))=xs at lz Z xl;clear sA sB sC sD p1 p2 n1 n2 as aj;have es:fF 0 ((fH L).take<|i+1)=fF 0 ((fH L).take i)++dW i d.2:=by
   rw[SU,aq];show fF 0 ((fH L).take i++[d.2])=_;rw[qx,Uq,Tp,VJ<|Vo (gI0.mp aq).1]
  have ay:=U _ _ W;have keep:∀{b:X4}{o:HO}{H7:Hp},(∀b o,H6 b=some o->b≠l->H7 b=some o)->H b=some o->H7 b=some o:=λkp e=>kp _ _ (U _ _<|s2 _ _ e)<|cH e hl;refine⟨q1,rfl,⟨_,cP.of Z⟩,dw (K:=X.K) (a:=q1) (xs:=xs) (NL md l d i H6 (fF 0<|(fH L).take i) ac<|dj L sd) ⟨us,_,_,_,_,rfl,λb o e _=>e,ay,by lia,by rw[Vg,map_nil,SH];exact tu.mono ab⟩ ?_ ?_ ?_⟩
  ·rintro j σ H7 hj ⟨I,f7,f8,f9,al,rfl,kp,O,ar,M⟩
   exact cP.of<|kp _ _ Z am
  ·rintro j v σ H7 a0 ⟨I,f7,f8,f9,al,rfl,kp,O,ar,M⟩
   obtain⟨r,ax,b,rfl,hb⟩:=lz.at a0;have bv:=(gI0.mp a0).1;have bm:H7 b=some (.tup [.str r.1,.str r.2]):=kp _ _ hb (λe=>by rw[e,ay]at hb;cases hb);have s7:cJ H H7:=λb o e=>keep kp e;have bc:=ok.mono s7;have bf:=sy.mono<|Tk.of s7;have bx:=pm r<|R4 ax;have an:(ac.take<|j+1).map (λr=>((i,r.1,r.2):TK))=(ac.take j).map (λr=>(i,r.1,r.2))++[(i,r.1,r.2)]:=by
    rw[SU,ax,TQ];rfl
   have bd:dj L sd (i,r.1,r.2)=(eT d.1 (floorOf r.2 sd) && !(sd.any<|xD r.1 r.2 d.1)):=by
    unfold dj;rw[iG hd,<-Ey];rfl
   refine⟨b,_,rfl,fc.of bm,rfl,_,_,rfl,_,_,rfl,rfl,?_⟩;refine⟨_,rfl,_,rfl,_,rfl,md,p,s,t,y,ps,ss,ts,ys,r.2,d.1,sd,rfl,bc,bf,dk.1.1,λH8 s8=>?_⟩;have a3:cJ H H8:=s7.trans s8;have ai:=ok.mono a3;have be:=sy.mono<|Tk.of a3;have bn:=s8 _ _ O;rw[show eT d.1 (floorOf r.2 sd)=(eT d.1 (floorOf r.2 sd) && !((sd.take 0).any<|xD r.1 r.2 d.1)) by rw[Vg];exact(Vs _).symm];refine⟨_,rfl,md,_,rfl,ai.dy,y,rfl,⟨_,cP.of ai.hy⟩,dw (K:=X.K) (a:=y) (xs:=ys) (λm σ H9=>∃YC:X8 V,σ=[some<|.ref md,some<|.ref l,some<|.int i,some<|.int d.1,some<|.str d.2.1,some<|.str d.2.2.1,some<|.str d.2.2.2,some<|.str r.1,some<|.str r.2,some<|.bl<|eT d.1 (floorOf r.2 sd) && !((sd.take m).any<|xD r.1 r.2 d.1),YC]/\cJ H8 H9) ⟨al,rfl,cJ.refl _⟩ ?_ ?_ ?_⟩
   ·rintro m σ H9 hm ⟨YC,rfl,s9⟩
    exact cP.of<|s9 _ _ ai.hy
   ·rintro m v σ H9 bj ⟨YC,rfl,s9⟩
    obtain⟨g,c,hg,rfl,hc⟩:=be.at bj;have G:=s9 _ _ hc;have bb:(eT d.1 (floorOf r.2 sd) && !((sd.take<|m+1).any<|xD r.1 r.2 d.1))=(((eT d.1 (floorOf r.2 sd) && !((sd.take m).any<|xD r.1 r.2 d.1)) && !(q9 r.1 d.1 g)) && !(wM r.2 r.1 g)):=by
     rw[SU,hg,XM];show(eT d.1 (floorOf r.2 sd) && !((sd.take m).any (xD r.1 r.2 d.1)||((q9 r.1 d.1 g||wM r.2 r.1 g)||false)))=_;cases eT d.1 (floorOf r.2 sd)<;>cases (sd.take m).any (xD r.1 r.2 d.1)<;>cases q9 r.1 d.1 g<;>cases wM r.2 r.1 g<;>rfl
    rw[bb];generalize (eT d.1 (floorOf r.2 sd) && !((sd.take m).any<|xD r.1 r.2 d.1))=gg;refine Hz (λa2 H'=>a2=[some<|.ref md,some<|.ref l,some<|.int i,some<|.int d.1,some<|.str d.2.1,some<|.str d.2.2.1,some<|.str d.2.2.2,some<|.str r.1,some<|.str r.2,some<|.bl<|gg && !(q9 r.1 d.1 g),some<|.ref c]/\H'=H9) ?_ (q9 r.1 d.1 g) (λQ' q'=>?_) (λe hR=>?_) λe=>?_
    ·rintro a2 H' ⟨rfl,rfl⟩
     refine⟨_,rfl,_,rfl,_,rfl,tL,λc2 a9=>?_⟩;have F:=cJ.upd (o:=.tup [.str "barred",.str r.2,.str r.1]) a9;refine⟨c,c2,_,_,rfl,rfl,F _ _ G,cG,jD g,rfl,_,rfl,?_⟩;rw[Bj];refine dJ (λad=>⟨some<|.ref c,?_,s9.trans F⟩) λno=>⟨some<|.ref c,?_,s9.trans F⟩
     ·rw[ad,Bool.not_true,TX]
      rfl
     ·rw[VG no,Bool.not_false,Vs]
    ·cases g with
     |knew z i'=>exact⟨_,rfl,xT G rfl ⟨rfl,_,rfl,iN q'⟩⟩
     |unh z i'=>exact⟨_,rfl,xT G rfl ⟨rfl,_,rfl,iN q'⟩⟩
     |bar z z'=>exact⟨_,rfl,xT G rfl ⟨rfl,_,rfl,iN q'⟩⟩
     |sil z b1 b2=>
      have q2:Q' (decide (z=r.1)&&(if b1<=d.1 then decide (d.1<=b2) else false)) H9:=q';refine⟨_,rfl,xT G rfl ⟨rfl,_,rfl,iP ⟨_,rfl,xT G rfl ⟨_,rfl,rfl,_,rfl,dJ (λhz=>⟨_,rfl,xT G rfl ⟨_,rfl,_,_,rfl,rfl,_,rfl,dJ (λhb=>⟨_,rfl,xT G rfl ⟨_,_,rfl,rfl,_,rfl,?_⟩⟩) λhb=>⟨_,rfl,?_⟩⟩⟩) λhz=>?_⟩⟩⟩⟩
      ·rw[Sb<|Sj hb,dT0<|V.str.inj<|Sj hz,To]at q2
       exact q2
      ·rw[R7 λe=>hb<|dT0 e,TX]at q2
       exact q2
      ·rw[Se λe=>hz<|dT0<|SY V.str e,Tw]at q2
       exact q2
    ·refine hR _ _ ⟨?_,rfl⟩
     rw[e,Bool.not_true,TX];rfl
    ·refine⟨?_,rfl⟩
     rw[e,Bool.not_false,Vs];rfl
   ·rintro σ H9 ⟨YC,rfl,s9⟩
    rw[sy.1,Tj,<-bd];have Y:=s8.trans s9;have S:=Y _ _ O;have ap:∀b o,H6 b=some o->b≠l->H9 b=some o:=λb o e n=>Y _ _<|kp b o e n;refine⟨_,rfl,_,rfl,dJ (λad=>?_) λno=>?_⟩
    ·refine⟨_,rfl,.inl ⟨rfl,_,cP.of S⟩,_,rfl,_,rfl,_,rfl,tL,λt3 n3=>?_⟩
     have F:=cJ.upd (o:=.tup [.int i,.str r.1,.str r.2]) n3;refine⟨l,I,.ref t3,rfl,rfl,F _ _ S,by lia,?_⟩;have bi:t3≠l:=(cH S n3).symm;have tk:=(Tk.of<|Y.trans F).trans<|Tk.upd (F _ _ S) (ys:=I++[.ref t3]);refine⟨I++[.ref t3],_,_,_,_,rfl,λb o e n=>by rw[cI n];exact F _ _<|ap b o e n,cG,by rw[R3];show I.length+1<=_;lia,?_⟩;rw[an,<-R8,T7];show d6 _ _ (_++List.filter (dj L sd) [(i,r.1,r.2)]);rw[TV,Sb ad];exact Lz.snoc (R:=rY) (M.mono tk) ⟨t3,rfl,by rw[cI bi];exact cG⟩
    ·refine⟨I,_,_,_,_,rfl,ap,S,by lia,?_⟩
     rw[an,<-R8,T7];show d6 _ _ (_++List.filter (dj L sd) [(i,r.1,r.2)]);rw[TV,R7 no];show d6 _ _ (_++[]);rw[SH];exact M.mono<|Tk.of Y
  ·rintro σ H7 ⟨I,f7,f8,f9,al,rfl,kp,O,ar,M⟩
   rw[lz.1,Tj,<-eo,<-es]at M;exact⟨I,_,_,_,_,_,_,_,_,_,rfl,λb o e=>keep kp e,O,by lia,M⟩
 ·rintro σ H2 ⟨us,e2,e3,e4,e5,e6,e7,e8,e9,YC,rfl,s2,W,ul,tu⟩
  rw[WH,qs.1,show L.length=(fH L).length from (R5 ..).symm,Tj]at tu;exact⟨_,rfl,k l us H2 s2 hl W tu⟩
def QO(f e g h i a:V):xO [f,e,g] [h,i,a]=(tf f h&&(tf e i&&tf g a)):=by
 unfold xO;simp[range_succ]
def FN(a b:TK):xO [.int (a.1:Nat),.str a.2.1,.str a.2.2] [.int (b.1:Nat),.str b.2.1,.str b.2.2]=decide (a=b):=by
 rw[QO];show(((a.1:Int)==(b.1:Int))&&((a.2.1==b.2.1)&&(a.2.2==b.2.2)))=_;rw[VB,Uj,Uj,UJ,UJ,UJ,Sw];constructor
 ·grind
 ·grind
def BK{H:Hp}{a:X4}{zs xs:Yb V}(e:H a=some (.tup zs)):Mr H xs (.ref a)=xO zs xs:=by
 show(match H a with
  |some (.tup zs)=>xO zs xs
  |_=>false)=_
 rw[e]
def He{H:Hp}{m:Yb V}{n:Yb TK}(j:d6 H m n)(t:TK):m.any (Mr H [.int (t.1:Nat),.str t.2.1,.str t.2.2])=decide (t∈n):=by
 rw[VB,V7,Sw];constructor
 ·rintro⟨v,g,f⟩
  obtain⟨i,e⟩:=So g;obtain⟨u,o⟩:∃u,n[i]? =some u:=⟨_,RY<|by rw[<-j.1];exact(gI0.mp e).1⟩;obtain⟨a,rfl,l⟩:=j.2 _ _ _ e o;rw[BK l,FN,Sw]at f;rw[<-f];exact R4 o
 ·intro h
  obtain⟨i,f⟩:=So h;obtain⟨v,g⟩:∃v,m[i]? =some v:=⟨_,RY<|by rw[j.1];exact(gI0.mp f).1⟩;obtain⟨a,rfl,l⟩:=j.2 _ _ _ g f;refine⟨_,R4 g,?_⟩;rw[BK l,FN];exact dT0 rfl
def E3{H:Hp}{os:Yb V}{f:Yb TK}(e:d6 H os f):∀v∈os,∃c zs,v=.ref c/\H c=some (.tup zs)/\zs.all dI=true:=λv h=>by
 obtain⟨i,g⟩:=So h;obtain⟨u,l⟩:∃u,f[i]? =some u:=⟨_,RY<|by rw[<-e.1];exact(gI0.mp g).1⟩;obtain⟨a,rfl,j⟩:=e.2 _ _ _ g l;exact⟨a,_,rfl,j,rfl⟩
inductive KQ(vs:Yb V)(H:Hp)(Q:VK):Prop
 |mk(j p s t y ol i g:X4)(ps:Yb Yc)(ss l ys os us:Yb V)(f:Yb QD)(m a:Yb TK)(Yj:Yb (Key×V))(F:FH)(z:Yc)(h:Int)(e:vs=[.ref j,.ref ol,.ref i,.ref g,.str z,.int h])(ok:jc ps H j p s t y ss l ys)(q:Lz dD H l f)(r:H ol=some (.lst os))(to:d6 H os m)(v:H i=some (.dK Yj))(sn:lq Yj F)(o:H g=some (.lst us))(n:d6 H us a)(ul:us.length<=100)(sl:∀t∈a,t.1<f.length)
   (k:∀H',cJ H H'->Q (.bl (pX F f m a z h)) H')
def Br:Sp:=λa H Q _=>KQ a H Q
def pR:cL ["_law_made_here","_law_open_ones","_law_seen_here","_law_some","_law_person","_law_hour_here","_law_telling","_law_k","_law_first"] ["_law_made_here","_law_open_ones","_law_seen_here","_law_some","_law_person","_law_hour_here"] (cK gY):={}
def D6 (D:Df K mg "_law_line_good" gY ["_law_made_here","_law_open_ones","_law_seen_here","_law_some","_law_person","_law_hour_here"] f fd) (T:Txt K mg kw C) (be:Gd P w K mg base 1 "_law_hour" mQ):Gd P w K mg base 2 "_law_line_good" Br:=by
 refine aJ D pR λX H vs Q E I h=>?_;obtain⟨md,p,s,t,y,ol,se,so,ps,ss,ts,ys,os,r,m,ot,q,Yj,F,z,h,rfl,ok,qs,YV,to,Y6,sn,Za,tu,ul,sl,k⟩:=h;have W:=I.eO be rfl (by lia) (by decide);have hu:=d9 I.room;have Yu:=Sq;obtain⟨S0,S1,S2,N,S4,S5,S6,S7,S8,_⟩:=I.fA [0,1,2,3,4,5,6,7,8];refine⟨_,(af (aK (aI (cE hu) (aa N) (bg bF)<|cM _)
 (ag<|aD a8)
 aL)
 (af (bh I.own I.calm (aX<|aa N) (aR S6 I.nd)
 (ag (aK (aI (J.ic hu) (aa S6) (aa S1) cq)
 (ag<|aD a8)
 aL)))
 (af (bh I.own I.calm (J.kK (I.b T.b_range)<|aE ae<|aH (I.b T.b_len) aV cZ<|ao<|aa N) (aR S7 I.nd)
 (ag (aK (a7<|bI (aI cu (ah aG (ah aP (aa N) (aa S7) aQ) ae ak) (ah aG (ah aP (aa N) (aF J.p5 (aa S7) ae) bK) ae ak)<|cM _)<|bR<|aI bB (au W<|aE (aa S0)<|ah aP (aa N) (aa S7) aQ) (au W<|aE (aa S0)<|ah aP (aa N) (aF J.p5 (aa S7) ae) bK)<|cM _)
 (ag<|aD a8)
 aL)))
 (af (aB S8 I.nd<|ah aG (ah aP (aa N) ae ak) ae ak)
 (af (aK (a7<|bI (J.uf hu (aa S8)<|aa S2)<|bR<|aI J.AY (aM hu (aa S2) (aa S8) aQ) (au W<|aE (aa S0)<|ah aP (aa N) ae ak)<|cM _)
 (ag<|aD a8)
 aL)
 (ag<|aD<|aU (aZ aS (ah aG (ah aP (aa N) (J.xX J.qy ae) J.JH) ae ak) (aa S4)<|cM _)<|aY<|aZ bB (au W<|aE (aa S0)<|ah aP (aa N) (J.xX J.qy ae) J.JH) (aa S5)<|cM _)))))),?_⟩
 have ml:=tu.1;cases q with
 |nil=>
  have ue:=SX ml;subst ue;exact⟨_,rfl,by decide,λe0 n0=>.same so e0 [] [] [] rfl rfl (cP.of<|cJ.upd n0 _ _ Za) (cP.of cG) rfl rfl (λi u v c hu=>by cases hu) ⟨_,rfl,eU<|k _<|cJ.upd n0⟩⟩
 |cons A G=>
  have bf:r.length=G.length+1:=ml;obtain⟨v0,a1⟩:∃v0,r[0]? =some v0:=⟨_,RY<|by lia⟩;obtain⟨vl,ay⟩:∃vl,r[r.length-1]? =some vl:=⟨_,RY<|by lia⟩;obtain⟨b0,ap⟩:∃b0,(A::G)[r.length-1]? =some b0:=⟨_,RY<|by lia⟩;obtain⟨a,rfl,ha⟩:=tu.2 0 v0 A a1 rfl;obtain⟨al,rfl,am⟩:=tu.2 _ vl b0 ay ap;have gl:(A::G).getLast? =some b0:=by grind
  have R:∀H',cJ H H'->Q (.bl<|((A::G).all λt=>decide<|t∈ot)&&(gK F A.2.1 (cN m A.1)&&(jY m (A::G)&&(decide (b0.2.2=z)&&decide (cN m b0.1<=h))))) H':=λH' s'=>by
   have:=k H' s';unfold pX at this
   rwa [gl]at this
  generalize a3:A::G=q at *;have bd:q[0]? =some A:=by rw[<-a3];rfl
  have aq:=c8 a1;have av:mZ r (-1)=some (.ref al):=by rw[DV<|by lia];exact ay
  refine⟨_,rfl,Km,λe0 n0=>.other so e0 r [] rfl rfl (cP.of<|cJ.upd n0 _ _ Za) (cP.of cG) (by grind) ⟨_,rfl,dS ?_⟩⟩;have s1:=cJ.upd (o:=.lst []) n0;generalize upd H e0 (.lst [])=H1 at s1;clear n0;refine⟨_,rfl,so,rfl,⟨_,cP.of<|s1 _ _ Za⟩,dw (K:=X.K) (a:=so) (xs:=r) (λi σ H2=>∃e6:X8 V,σ=[some<|.ref md,some<|.ref ol,some<|.ref se,some<|.ref so,some<|.str z,some<|.int h,e6,none,none]/\cJ H H2/\(q.take i).all (λt=>decide<|t∈ot)=true) ⟨none,rfl,s1,rfl⟩ ?_ ?_ ?_⟩
  ·rintro i σ H2 hi ⟨e6,rfl,S,_⟩
   exact cP.of<|S _ _ Za
  ·rintro i v σ H2 hv ⟨e6,rfl,S,L⟩
   obtain⟨O,YI⟩:∃O,q[i]? =some O:=⟨_,RY<|by rw[<-ml];exact(gI0.mp hv).1⟩;obtain⟨b,rfl,hb⟩:=tu.2 _ _ _ hv YI;have as:=to.mono<|Tk.of S;refine⟨_,rfl,_,rfl,b,ol,_,os,rfl,rfl,S _ _ hb,cP.of<|S _ _ YV,rfl,E3 as,_,rfl,?_⟩;rw[He as];refine dJ (λno=>?_) λM=>⟨_,rfl,S,?_⟩
   ·rw[UX]at no
    have:=R H2 S;rw[show(q.all λt=>decide<|t∈ot)=false from List.all_eq_false.mpr ⟨O,R4 YI,by rw[no];exact bF0⟩,Tw]at this;exact this
   ·rw[Bool.not_eq_true,Wu]at M
    rw[SU,YI,List.all_append,L];show(true&&(decide (O∈ot)&&true))=true;rw[M];rfl
  ·rintro σ H2 ⟨e6,rfl,S,M⟩
   rw[ml,Tj]at M;rw[M]at R;have hour:∀{B:Hp}{Q':VK}{b:X4}{O:TK},cJ H B->lC H b O->O∈q->Q' (.int<|cN m O.1) B->mQ [.ref md,.ref b] B Q' E0:=λl hb hm q'=>
    ⟨md,p,s,t,y,_,ps,ss,ts,ys,m,_,rfl,ok.mono l,qs.mono<|dD.mono<|Tk.of l,l _ _ hb,sl _ hm,q'⟩
   refine⟨_,rfl,so,_,rfl,.inl<|cP.of<|S _ _ Za,1,(r.length:Int),rfl,⟨by decide,by decide,by lia,by lia⟩,iB (lo:=1) (n:=((r.length:Int)-1).toNat) (λi σ B=>∃e7:X8 V,σ=[some<|.ref md,some<|.ref ol,some<|.ref se,some<|.ref so,some<|.str z,some<|.int h,e6,e7,none]/\cJ H B/\((List.range i).all λk=>match q[k]?,q[k+1]? with
    |some a,some b=>dO m a b
    |_,_=>false)=true) ⟨none,rfl,S,rfl⟩ ?_ ?_⟩
   ·rintro i σ B hi ⟨e7,rfl,l,L⟩
    have a9:i+1<r.length:=by lia
    obtain⟨ti,Z⟩:∃O,q[i]? =some O:=⟨_,RY<|by rw[<-ml];lia⟩;obtain⟨U,Y⟩:∃U,q[i+1]? =some U:=⟨_,RY<|by rw[<-ml];lia⟩;obtain⟨vi,an⟩:∃vi,r[i]? =some vi:=⟨_,RY<|by lia⟩;obtain⟨vj,ax⟩:∃vj,r[i+1]? =some vj:=⟨_,RY a9⟩;obtain⟨bi,rfl,ad⟩:=tu.2 _ _ _ an Z;obtain⟨bj,rfl,a2⟩:=tu.2 _ _ _ ax Y;have aj:mZ r ((1:Int)+(i:Int))=some (.ref bj):=by
     rw[show(1:Int)+(i:Int)=((i+1:Nat):Int) by lia];exact c8 ax
    have ai:mZ r ((1:Int)+(i:Int)-1)=some (.ref bi):=by
     rw[show(1:Int)+(i:Int)-1=((i:Nat):Int) by lia];exact c8 an
    have g:=l _ _ Za;have no:dO m ti U=false->Q (.bl false) B:=λa4=>by
     have:=R B l;rw[show jY m q=false from List.all_eq_false.mpr ⟨i,TU.mpr<|by rw[<-ml];lia,by rw[Z,Y];show ¬dO m ti U=true;rw[a4];exact bF0⟩,Tw,TX,TX]at this;exact this
    have ac:dO m ti U=true->((List.range<|i+1).all λk=>match q[k]?,q[k+1]? with
      |some a,some b=>dO m a b
      |_,_=>false)=true:=λhy=>by
     rw[range_succ,List.all_append,L];show(true&&((match q[i]?,q[i+1]? with
      |some a,some b=>dO m a b
      |_,_=>false)&&true))=true
     rw[Z,Y];show(true&&(dO m ti U&&true))=true;rw[hy];rfl
    refine⟨_,rfl,_,rfl,xL g aj<|xT (l _ _ a2) rfl ⟨_,rfl,_,rfl,_,_,rfl,rfl,xL g ai<|xT (l _ _ ad) rfl ⟨rfl,_,rfl,dJ (λne=>eU<|no ?_) λeq=>?_⟩⟩⟩
    ·unfold dO
     rw[UX,V3]at ne;rw[Se λe=>ne<|SY V.str e.symm,Tw]
    ·rw[Bool.not_eq_true,Wu,Sw]at eq
     have e2:ti.2.2=U.2.1:=(V.str.inj eq).symm;refine⟨_,rfl,_,rfl,_,rfl,xL g aj<|hour l a2 (R4 Y) ⟨_,rfl,_,rfl,_,rfl,_,_,rfl,rfl,xL g ai<|hour l ad (R4 Z) ⟨_,_,rfl,rfl,_,rfl,dJ (λle=>no ?_) λbc=>⟨_,rfl,l,ac ?_⟩⟩⟩⟩
     ·rw[Sw]at le
      unfold dO;rw[Se<|show ¬cN m ti.1<cN m U.1 by lia,TX]
     ·rw[Sw]at bc
      unfold dO;rw[dT0 e2,dT0<|show cN m ti.1<cN m U.1 by lia];rfl
   ·rintro σ B ⟨e7,rfl,l,L⟩
    have ch:jY m q=true:=by
     unfold jY;rw[show q.length-1=((r.length:Int)-1).toNat by rw[<-ml];lia];exact L
    rw[ch,To,To]at R;have g:=l _ _ Za;have bb:=l _ _ ha;have dg:=dP.k (k:=Sum.inr A.2.1)<|l _ _ Y6;rw[sn.get]at dg;refine⟨_,rfl,xL g aq<|xT bb rfl ?_⟩;refine⟨_,rfl,_,rfl,se,_,rfl,dg,_,rfl,?_⟩;have lst:gK F A.2.1 (cN m A.1)=true->zm (D9 (yM Qu (yM (Gk X.K) (yM (Fi X.K) (gC 3)<|PB (rU λi=>V.int<|-i)<|tC<|V.int 1)<|tC<|V.int 2)<|gC 4)<|yM (yI λi j=>V.bl<|decide<|i<=j) (jO mQ [] E0<|dF (gC 0)<|dF (yM (Fi X.K) (gC 3)<|PB (rU λi=>V.int<|-i)<|tC<|V.int 1) kU)<|gC 5) { nx:=λx H'=>Q V.non H',rt:=Q } [some<|.ref md,some<|.ref ol,some<|.ref se,some<|.ref so,some<|.str z,some<|.int h,e6,e7,some<|.str A.2.1] B:=λsw=>by
     rw[sw,To]at R;refine⟨_,rfl,1,rfl,xL g av<|xT (l _ _ am) rfl ⟨_,rfl,rfl,_,rfl,dJ (λab=>?_) λno=>?_⟩⟩
     ·rw[dT0<|V.str.inj<|Sj ab,To]at R
      exact⟨_,rfl,_,rfl,1,rfl,xL g av<|hour l am (R4 ap) ⟨_,rfl,_,_,rfl,rfl,R B l⟩⟩
     ·rw[Se λe=>no<|dT0<|SY V.str e,Tw]at R
      exact R B l
    have ar:gK F A.2.1 (cN m A.1)=false->Q (.bl false) B:=λsw=>by
     have:=R B l;rw[sw,Tw]at this;exact this
    cases hF:F A.2.1 with
    |none=>exact fD rfl (eU<|ar<|by unfold gK;rw[hF])
    |some j=>
     rw[hF]at dg;refine gQ bF0 ⟨_,rfl,_,rfl,se,_,rfl,dg,_,rfl,_,rfl,xL g aq<|hour l ha (R4 bd) ⟨_,_,rfl,rfl,_,rfl,dJ (λge=>ar ?_) λlt=>lst ?_⟩⟩
     ·unfold gK
      rw[hF];rw[Sw]at ge;exact Se (by lia)
     ·unfold gK
      rw[hF];rw[Sw]at lt;exact dT0 (by lia)
inductive QX(C:X4)(vs:Yb V)(H:Hp)(Q:VK):Prop
 |mk(a p s t y:X4)(ps:Yb Yc)(ss f ys:Yb V)(e:vs=[.ref a])(po:gd ps)(ok:jc ps H a p s t y ss f ys)
   (k:∀(x g s' t' h:X4)(H':Hp),cJ H H'->H x=none->Bk C H' x g s' t' h ps ss f ys->Q (.ref x) H')
def Kw(C:X4):Sp:=λa H Q _=>QX C a H Q
def Cy:cL ["_law_made_here"] ["_law_made_here"] (cK qm):={}
def Ec (D:Df K mg "_law_book" qm ["_law_made_here"] f fd) (T:Txt K mg kw C) (F:Kd P w K mg base 7 "Book" C (DU C)):Gd P w K mg base 9 "_law_book" (Kw C):=by
 refine aJ D Cy λX H vs Q E v h=>?_;obtain⟨r,p,s,t,y,g,Y,ts,ys,rfl,po,ok,k⟩:=h;have z:=d9 v.room;obtain⟨q,_⟩:=v.fA [0];have a:=v.b T.b_list;refine⟨_,ag<|aD<|J.QL (v.QL F rfl (by decide)<|by decide)<|bL (bu a bH dQ<|ao<|aM z (aa q) aw ak) (bu a bH dQ<|ao<|aM z (aa q) aw ak) (bu a bH dQ<|ao<|aM z (aa q) aw ak)<|bu a bH dQ<|ao<|aM z (aa q) aw ak,?_⟩;have ll:=ok.lt;have pa:Parts H g Y ts ys:=⟨po,ok.ls,ok.gs,by lia,ok.gt,ok.ly,ok.gy⟩;refine⟨_,rfl,r,_,rfl,ok.dp,p,_,rfl,.inl<|cP.of ok.hp,λA n1=>?_⟩;have M:=cJ.upd (o:=.lst<|g.map V.str) n1;have S:upd H A (.lst<|g.map V.str) A=some (.lst<|g.map V.str):=cG;generalize upd H A (.lst<|g.map V.str)=H1 at M S;have l:=ok.mono M;refine⟨_,rfl,r,_,rfl,l.ds,s,_,rfl,.inl<|cP.of l.hs,λl2 n2=>?_⟩;generalize I:upd H1 l2 _=H2;obtain⟨s2,k2⟩:=nx n2 I;have W:=M.trans s2;have j:=ok.mono W;refine⟨_,rfl,r,_,rfl,j.dt,t,_,rfl,.inl<|cP.of j.ht,λl3 n3=>?_⟩;generalize L:upd H2 l3 _=H3;obtain⟨N,k3⟩:=nx n3 L;have U:=W.trans N;have i:=ok.mono U;refine⟨_,rfl,r,_,rfl,i.dy,y,_,rfl,.inl<|cP.of i.hy,λl4 n4=>?_⟩;generalize O:upd H3 l4 _=Z;obtain⟨n,k4⟩:=nx n4 O;have B:=U.trans n;intro x R nx G ab;have m:cJ Z (upd (upd Z R<|.own x) x<|.ins C R []):=λb o e=>by
  rw[cI<|cH e nx,cI<|cH e G];exact e
 have t5:=B.trans m;refine⟨x,R,A,l2,l3,l4,g,Y,ts,ys,rfl,cG,m _ _<|n _ _<|N _ _<|s2 _ _ S,m _ _<|n _ _<|N _ _ k2,m _ _<|n _ _ k3,m _ _ k4,pa.mono<|Tk.of t5,λp' s' t' y' H6 _ _ _ _ bk kp=>⟨rfl,?_⟩⟩;exact k x p' s' t' y' H6 (λb o e=>kp b o (t5 _ _ e)<|cH e<|B.free nx) (B.free nx) bk
inductive EW
 |saw (i:Nat)
 |hrd (k:Nat)(a:Yc)
abbrev ED:=Yc×Int×EW
def CG(H:Hp)(a:X4):EW->Prop
 |.saw i=>H a=some (.tup [.str "saw",.int (i:Nat)])
 |.hrd k e=>H a=some (.tup [.str "heard",.int (k:Nat),.str e])
def mP(H:Hp)(a:X4)(d:ED):Prop:=∃e,H a=some (.tup [.str d.1,.int d.2.1,.ref e])/\CG H e d.2.2
def CG.mono{H H':Hp}(s:Tk H H'){a:X4}{w:EW}(h:CG H a w):CG H' a w:=by
 cases w with
 |saw i=>exact s _ _ h
 |hrd k e=>exact s _ _ h
def mP.mono{H H':Hp}(s:Tk H H'){a:X4}{d:ED}(h:mP H a d):mP H' a d:=by
 obtain⟨f,e,g⟩:=h;exact⟨f,s _ _ e,g.mono s⟩
structure Rh(H:Hp)(Yj:Yb (Key×V))(F:FH):Prop where
 no:∀z,F z=none->dY Yj (Sum.inr z)=none
 yes:∀z h,F z=some h->∃a w,dY Yj (Sum.inr z)=some (.ref a)/\H a=some (.tup [.str z,.int h,w])
def Dq(F:FH)(d:ED):Bool:=match d.2.2 with
 |.saw _=>true
 |.hrd _ e=>match F e with
  |none=>false
  |some a=>decide<|a<d.2.1
inductive Od  (vs:Yb V)(H:Hp)(Q:VK):Prop
 |mk(a:X4)(z:Yc)(h:Int)(w:V)(h0:vs=[.ref a])(e:H a=some (.tup [.str z,.int h,w]))(f:Q (.int h) H)
def HP  :Sp:=λa H Q _=>Od  a H Q
inductive Oj  (vs:Yb V)(H:Hp)(Q:VK):Prop
 |mk(e a:X4)(Yj:Yb (Key×V))(F:FH)(d:ED)(h0:vs=[.ref e,.ref a])(h:H e=some (.dK Yj))(f:Rh H Yj F)(i:mP H a d)(g:Q (.bl (Dq F d)) H)
def Oh  :Sp:=λa H Q _=>Oj  a H Q
def y8:cL ["entry"] ["entry"] (cK nK):={}
def Ph (D:Df K mg "hour_of" nK ["entry"] f fd):Gd P w K mg base 1 "hour_of" HP:=by
 refine aJ D y8 λX H j Q E g h=>?_;obtain⟨a,z,h,w,rfl,e,k⟩:=h;obtain⟨i,_⟩:=g.fA [0];exact⟨_,ag<|aD<|ah aG (aa i) ae ak,_,rfl,xT e rfl k⟩
def rV:cL ["known","entry","way"] ["known","entry"] (cK i5):={}
def Ng (D:Df K mg "can_follow" i5 ["known","entry"] f fd) (s:Gd P w K mg base 1 "hour_of" HP):Gd P w K mg base 2 "can_follow" Oh:=by
 refine aJ D rV λX H M Q E p h=>?_;obtain⟨r,a,O,F,d,rfl,q,x,⟨R,A,j⟩,k⟩:=h;have l:=p.eO s rfl (by lia) (by decide);have y:=d9 p.room;obtain⟨v,B,o,_⟩:=p.fA [0,1,2];refine⟨_,(af (aB o p.nd<|ah aG (aa B) ae ak)
 (af (aK (aI aS (ah aG (aa o) ae ak) aw<|cM _)
 (ag<|aD a8)
 aL)
 (ag<|aD<|aU (J.vS y (ah aG (aa o) ae ak)<|aa v)<|aY<|aZ b6 (au l<|ao<|aM y (aa v) (ah aG (aa o) ae ak) cA) (au l<|ao<|aa B)<|cM _))),?_⟩
 refine⟨_,rfl,xT A rfl ?_⟩;obtain⟨z,h,way⟩:=d;cases way with
 |saw i=>exact⟨_,rfl,xT j rfl ⟨rfl,_,rfl,iP k⟩⟩
 |hrd N e=>
  refine⟨_,rfl,xT j rfl ⟨rfl,_,rfl,iN ?_⟩⟩;have g:=dP.k (k:=Sum.inr e) q;have m:Q (.bl<|match F e with|none=>false|some a=>decide<|a<h) H:=k;cases n:F e with
  |none=>
   rw[n]at m;rw[x.no e n]at g;exact⟨_,rfl,xT j rfl ⟨_,rfl,r,_,rfl,g,_,rfl,dS m⟩⟩
  |some b=>
   rw[n]at m;obtain⟨I,L,G,C⟩:=x.yes e b n;rw[G]at g;exact⟨_,rfl,xT j rfl ⟨_,rfl,r,_,rfl,g,_,rfl,eU ⟨_,rfl,_,rfl,xT j rfl ⟨r,_,rfl,g,I,e,b,L,rfl,C,_,rfl,a,z,h,_,rfl,A,_,_,rfl,rfl,m⟩⟩⟩⟩
def yU(F:FH)(z:Yc)(h:Int):FH:=λy=>if y=z then some h else F y
def kQ{F:FH}{z:Yc}{h:Int}:yU F z h z=some h:=Sb rfl
def iY{F:FH}{z y:Yc}{h:Int}(n:¬y=z):yU F z h y=F y:=R7 n
def MT(H:Hp)(a:X4):Int:=match H a with
 |some (.tup [_,.int h,_])=>h
 |_=>0
def zJ{H:Hp}{a:X4}{d:ED}(h:mP H a d):MT H a=d.2.1:=by
 obtain⟨f,e,_⟩:=h;unfold MT;rw[e]
def GW{H:Hp}{a:X4}{w f:EW}(h:CG H a w)(h':CG H a f):w=f:=by
 cases w with
 |saw i=>
  cases f with
  |saw j=>
   have e:=(show H a=_ from h).symm.trans<|show H a=_ from h';grind
  |hrd k g=>
   have e:=(show H a=_ from h).symm.trans<|show H a=_ from h';simp at e
 |hrd k g=>
  cases f with
  |saw j=>
   have e:=(show H a=_ from h).symm.trans<|show H a=_ from h';simp at e
  |hrd m l=>
   have e:=(show H a=_ from h).symm.trans<|show H a=_ from h';grind
def Ap{H:Hp}{a:X4}{d d':ED}(h:mP H a d)(h':mP H a d'):d=d':=by
 obtain⟨o,m,l⟩:=h;obtain⟨j,g,f⟩:=h';have e:=m.symm.trans g;simp only[Option.some.injEq,HO.tup.injEq,List.cons.injEq,V.int.injEq,V.str.injEq,V.ref.injEq,and_true]at e;obtain⟨i,n,rfl⟩:=e;exact W8 i<|W8 n<|GW l f
def KS{F:FH}{d e:ED}{z:Yc}{h:Int}(l:Dq (yU F z h) e=true)(le:e.2.1<=h):Dq F e=true:=by
 obtain⟨y,i,w⟩:=e;cases w with
 |saw _=>rfl
 |hrd k g=>
  have f:(match yU F z h g with|none=>false|some a=>decide<|a<i)=true:=l;by_cases c:g=z
  ·subst c
   rw[kQ]at f;have j:=f;rw[Sw]at j;grind
  ·rwa [iY c]at f
def Bu{F:FH}{d:ED}{z:Yc}{h:Int}(n:F z=none)(c:Dq F d=true):Dq (yU F z h) d=true:=by
 obtain⟨y,i,w⟩:=d;cases w with
 |saw _=>rfl
 |hrd k g=>
  have f:(match F g with|none=>false|some a=>decide<|a<i)=true:=c;show(match yU F z h g with|none=>false|some a=>decide<|a<i)=true;rw[iY λe=>by rw[e,n]at f;cases f];exact f
def GF(ds:Yb ED)(F:FH):Prop:=∀d∈ds,Dq F d=true->∃b,b<=d.2.1/\F d.1=some b
def Rj(H:Hp)(Yj:Yb (Key×V))(ds:Yb ED)(F:FH):Prop:=∀z h,F z=some h->∃a d,dY Yj (Sum.inr z)=some (.ref a)/\mP H a d/\d∈ds/\d.1=z/\d.2.1=h/\Dq F d=true
inductive JN(H:Hp)(n g l:X4)(zs:Yb X4)(ds:Yb ED)(i:Nat)(σ:St)(f:Hp):Prop
 |mk(o:X8 V)(Yj:Yb (Key×V))(F:FH)(e:σ=[some (.ref n),some (.ref g),o])(s:cJ H f)(q:f l=some (.lst (zs.map V.ref)))(p:f g=some (.dK Yj))(v:Yj.length<=i)(w:Rh f Yj F)(c:∀j a d,j<i->zs[j]? =some a->mP H a d->Dq F d=true->∃b,b<=d.2.1/\F d.1=some b)(r:Rj H Yj ds F)(m:∀z h,F z=some h->∀j a,i<=j->zs[j]? =some a->h<=MT H a)
inductive RQ(vs:Yb V)(H:Hp)(Q:VK):Prop
 |mk(g:X4)(as:Yb X4)(ds:Yb ED)(e:vs=[.ref g])(he:H g=some (.lst (as.map V.ref)))(al:as.length<=400)(i:∀a∈as,∃d∈ds,mP H a d)(h:∀d∈ds,∃a∈as,mP H a d)
   (k:∀(f:X4)(Yj:Yb (Key×V))(F:FH)(H':Hp),cJ H H'->H f=none->H' f=some (.dK Yj)->Rj H' Yj ds F->GF ds F->Q (.ref f) H')
def Nf:Sp:=λa H Q _=>RQ a H Q
def nX:cL ["entries","known","entry"] ["entries"] (cK gr):={}
def OE (D:Df K mg "first_entries" gr ["entries"] f fd) (T:Txt K mg kw C) (am:Gd P w K mg base 1 "hour_of" HP) (aq:Gd P w K mg base 2 "can_follow" Oh):Gd P w K mg base 4 "first_entries" Nf:=by
 refine aJ D nX λX H vs Q E L h=>?_;obtain⟨en,as,ds,rfl,he,al,ed,de,k⟩:=h;have hu:=d9 L.room;have Yu:=Sq;obtain⟨S0,S1,S2,_⟩:=L.fA [0,1,2];refine⟨_,(af (aB S1 L.nd J.kG)
 (af (bh L.own L.calm (aX<|J.Nx (L.b T.b_sorted) (L.PN am rfl (by first|decide|exact R9 _)<|by decide)<|ao<|aa S0) (aR S2 L.nd)
 (ag (aK (a7<|bq (J.uf hu (ah aG (aa S2) ae ak)<|aa S1)<|bz<|bo<|au (L.c aq)<|aE (aa S1)<|aa S2)
 (ag<|bZ hu (aa S1) (ah aG (aa S2) ae ak)<|aa S2)
 aL)))
 (ag<|aD<|aa S1))),?_⟩
 intro A ac;generalize an:upd H A _=H1;obtain⟨s1,ar⟩:=nx ac an;refine⟨_,rfl,en,as,MT H,rfl,cP.of<|s1 _ _ he,λa B Q' q'=>?_,λl G nl pm pw _=>?_⟩
 ·obtain⟨d,_,ad⟩:=ed a B
  rw[zJ ad]at q';obtain⟨wa,h1,_⟩:=ad;exact⟨a,_,_,_,rfl,s1 _ _ h1,q'⟩
 have s2:=s1.trans<|cJ.upd (o:=.lst<|G.map V.ref) nl;have ab:upd H1 l (.lst<|G.map V.ref) l=some (.lst<|G.map V.ref):=cG;have ai:=cJ.upd (o:=.lst<|G.map V.ref) nl _ _ ar;generalize upd H1 l (.lst<|G.map V.ref)=H2 at s2 ab ai;have zl:G.length<=400:=by rw[pm.length_eq];exact al
 have aj:∀{i j:Nat}{a b:X4},i<j->G[i]? =some a->G[j]? =some b->MT H a<=MT H b:=λ{i j a b} ij B hb=>by
  obtain⟨h1,I⟩:=gI0.mp B;obtain⟨h2,O⟩:=gI0.mp hb;have:=VQ.mp pw i j h1 h2 ij
  rwa [I,O]at this
 refine⟨l,rfl,⟨_,cP.of ab⟩,dw (xs:=G.map V.ref) (JN H en A l G ds) ⟨none,[],λ_=>none,rfl,s2,ab,ai,R9 0,⟨λ_ _=>rfl,λ_ _ e=>by cases e⟩,λj a d Y=>by lia,(λ_ _ e=>by cases e),λ_ _ e=>by cases e⟩ ?_ ?_ ?_⟩
 ·rintro i σ H3 hi ⟨O,Yj,F,rfl,R,s,p,kl,S,c,so,m⟩
  exact cP.of s
 ·rintro i v σ H3 hv ⟨O,Yj,F,rfl,R,s,p,kl,S,c,so,m⟩
  rw[Sk]at hv;obtain⟨a,B,rfl⟩:=Th.mp hv;have il:=(gI0.mp B).1;obtain⟨d,md,N⟩:=(λh=>ed _<|pm.mem_iff.mp<|R4 h) B;have W:=zJ N;obtain⟨wa,h1,h2⟩:=id N;have h3:=R _ _ h1;have dg:=dP.k (k:=Sum.inr d.1) p;have gD:(Dq F d=true->∃b,b<=d.2.1/\F d.1=some b)->JN H en A l G ds (i+1) [some<|.ref en,some<|.ref A,some<|.ref a] H3:=λcd=>
   ⟨_,Yj,F,rfl,R,s,p,by lia,S,λj M d' Y g y cf=>by
    by_cases e:j=i
    ·subst e
     rw[B]at g;cases g;rw[<-Ap N y]at cf ⊢;exact cd cf
    ·exact c j M d' (by lia) g y cf,so,λz h e j M Y g=>m z h e j M (by lia) g⟩
  cases Z:F d.1 with
  |some b=>
   obtain⟨ea,w2,I,_⟩:=S.yes _ _ Z;rw[I]at dg;exact⟨_,rfl,xT h3 rfl ⟨_,rfl,A,_,rfl,dg,_,rfl,dS<|dS<|gD λ_=>⟨b,by rw[<-W];exact m _ _ Z i a (R9 _) B,Z⟩⟩⟩
  |none=>
   rw[S.no _ Z]at dg;refine⟨_,rfl,xT h3 rfl ⟨_,rfl,A,_,rfl,dg,_,rfl,eU ⟨_,rfl,_,rfl,A,a,Yj,F,d,rfl,p,S,N.mono<|Tk.of R,_,rfl,?_⟩⟩⟩;cases hc:Dq F d with
   |false=>exact dS (gD λh=>by rw[hc]at h;cases h)
   |true=>
    refine eU ⟨_,rfl,_,rfl,_,rfl,xT h3 rfl ⟨A,_,rfl,l7.k (k:=Sum.inr d.1) p<|by lia,?_⟩⟩;have av:a≠A:=λe=>by rw[e,p]at h3;cases h3
    have ap:l≠A:=λe=>by rw[e,p]at s;cases s
    have kp:∀b o,b≠A->H3 b=some o->upd H3 A (.dK<|putK Yj (Sum.inr d.1)<|.ref a) b=some o:=λb o n e=>by rw[cI n];exact e
    refine⟨_,putK Yj (Sum.inr d.1)<|.ref a,yU F d.1 d.2.1,rfl,λb o e=>kp b o (cH e ac)<|R _ _ e,kp _ _ ap s,cG,SF (dH _ _ _)<|by lia,⟨λz e=>?_,λz h e=>?_⟩,λj M d' Y g y cf=>?_,λz h e=>?_,λz h e j M Y g=>?_⟩
    ·by_cases q:z=d.1
     ·rw[q,kQ]at e
      cases e
     ·rw[iY q]at e
      rw[cU,R7 λx=>q<|Up x];exact S.no z e
    ·by_cases q:z=d.1
     ·rw[q,kQ]at e
      cases e;exact⟨a,.ref wa,by rw[cU,Sb<|by rw[q]],by rw[q];exact kp _ _ av h3⟩
     ·rw[iY q]at e
      obtain⟨ea,w2,I,U⟩:=S.yes z h e;exact⟨ea,w2,by rw[cU,R7 λx=>q<|Up x];exact I,kp _ _ (λx=>by rw[x,p]at U;cases U) U⟩
    ·by_cases e:j=i
     ·subst e
      rw[B]at g;cases g;rw[<-Ap N y];exact⟨_,VX _,kQ⟩
     ·have le:d'.2.1<=d.2.1:=by
       rw[<-zJ y,<-W];exact aj (by lia) g B
      obtain⟨b,b1,b2⟩:=c j M d' (by lia) g y<|KS (d:=d) cf le;exact⟨b,b1,by rw[iY λx=>by rw[x,Z]at b2;cases b2];exact b2⟩
    ·by_cases q:z=d.1
     ·rw[q,kQ]at e
      cases e;exact⟨a,d,by rw[cU,Sb<|by rw[q]],N,md,q.symm,rfl,Bu Z hc⟩
     ·rw[iY q]at e
      obtain⟨M,d',I,O,e3,e4,e5,e6⟩:=so z h e;exact⟨M,d',by rw[cU,R7 λx=>q<|Up x];exact I,O,e3,e4,e5,Bu Z e6⟩
    ·by_cases q:z=d.1
     ·rw[q,kQ]at e
      cases e;rw[<-W];exact aj (by lia) B g
     ·rw[iY q]at e
      exact m z h e j M (by lia) g
 ·rintro σ H3 ⟨O,Yj,F,rfl,R,s,p,kl,S,c,so,m⟩
  refine⟨_,rfl,k A Yj F H3 R ac p (λz h e=>let ⟨a,d,I,O,r⟩:=so z h e;⟨a,d,I,O.mono<|Tk.of R,r⟩) λd hd cf=>?_⟩;obtain⟨a,B,N⟩:=de d hd;obtain⟨j,Y⟩:=So<|pm.mem_iff.mpr B;have jl:=(gI0.mp Y).1;exact c j a d (by rw[R5];exact jl) Y N cf
def lO(H:Hp)(v:V)(d:ED):Prop:=∃a,v=.ref a/\mP H a d
def lO.mono{H H':Hp}(s:Tk H H')(v:V)(d:ED)(h:lO H v d):lO H' v d:=by
 obtain⟨a,e,h⟩:=h;exact⟨a,e,h.mono s⟩
def Hg(a:Yb GD)(i:Nat):ED:=match a[i]? with
 |some g=>(g.1,g.2,.saw i)
 |none=>("",0,.saw i)
def IF(a:Yb QD)(t:TK):ED:=(t.2.2,cN a t.1,.hrd t.1 t.2.1)
def JP(a:Yb GD)(e:Yb QD)(sd:Yb SD):Yb ED:=((List.range a.length).filter<|oO a<|cR sd).map (Hg a)++((fF 0<|fH e).filter<|dj e sd).map (IF e)
inductive Nh(x n tb l:X4)(p:Hp)(f:Yb ED)(h:Yb ED)(i:Nat)(σ:St)(a:Hp):Prop
 |mk(us:Yb V)(m g j:X8 V)(e:σ=[some (.ref x),some (.ref n),some (.ref tb),some (.ref l),m,g,j])(q:∀b o,p b=some o->b≠l->a b=some o)(r:a l=some (.lst us))(ul:us.length<=24+i)(s:Lz lO a us (f++h.take i))
inductive RC(C:X4)(vs:Yb V)(H:Hp)(Q:VK):Prop
 |mk(x p s t y:X4)(ps:Yb Yc)(ss g ys:Yb V)(f:Yb GD)(a:Yb QD)(sd:Yb SD)(e:vs=[.ref x])(bk:Bk C H x p s t y ps ss g ys)(pl:ps.length<=24)(sl:ss.length<=24)(h:g.length<=120)(n:Lz dz H ss f)(m:∀d∈f,d.1∈ps)(o:Lz dD H g a)(i:∀d∈a,lS ps d)(j:Sys H ys sd)(l:ys.length<=60)
   (k:∀(l:X4)(us:Yb V)(H':Hp),cJ H H'->H l=none->H' l=some (.lst us)->Lz lO H' us (JP f a sd)->us.length<=400->Q (.ref l) H')
def Og(C:X4):Sp:=λa H Q _=>RC C a H Q
def o3:cL ["book","sights","talks","entries","k","teller","hearer"] ["book"] (cK gL):={}
def Pf (D:Df K mg "open_entries" gL ["book"] f fd) (T:Txt K mg kw C) (a3:Md P w K mg base 1 C "sights" (dq C λ_ s _ _=>s)) (Zt:Md P w K mg base 1 C "talks" (dq C λ_ _ t _=>t)) (a9:Gd P w K mg base 4 "open_sights" (uR C)) (a2:Gd P w K mg base 4 "open_tellings" (vF C)):Gd P w K mg base 5 "open_entries" (Og C):=by
 refine aJ D o3 λX H vs Q E z h=>?_;obtain⟨x,p,s,t,y,ps,ss,G,ys,r,g,sd,rfl,bk,pl,sl,tl,gs,gp,qs,qk,sy,YB,k⟩:=h;have Yu:=Sq;obtain⟨S0,S1,S2,S3,S4,S5,S6,_⟩:=z.fA [0,1,2,3,4,5,6];refine⟨_,(af (aB S1 z.nd<|bC (z.met a3<|by decide) (aa S0) rfl)
 (af (aB S2 z.nd<|bC (z.met Zt<|by decide) (aa S0) rfl)
 (af (cj (is:=[1]) (xs:=["i"]) (ns:=["sights"]) S3 z.nd z.calm (aX<|au (z.eO a9 rfl (by lia)<|by decide)<|ao<|aa S0) {} (λ_ _ _ _ _=>br (i:=0)) (λ_ _ _ _ _=>bX) (λ_ _ _ _ _=>aN<|aO (ah bE (ah J.mB (a5 (i:=1)) (aT (i:=0)) aQ) ae ak) (ah bE (ah J.mB (a5 (i:=1)) (aT (i:=0)) aQ) ae ak)<|aN<|aE aw<|aT (i:=0)) z.hsc z.hN (by decide+kernel))
 (af (bh z.own z.calm (aX<|au (z.eO a2 rfl (by lia)<|by decide)<|ao<|aa S0) (b8 z.calm<|a6 (aR S4 z.nd)<|a6 (aR S5 z.nd)<|a6 (aR S6 z.nd) bO)
 (ag<|bw<|bA Ti SE SG bG (aa S3)<|ao<|aN<|aO (aa S6) (ah aG (ah aP (aa S2) (aa S4) aQ) ae ak)<|aN<|aO aw (aa S4)<|aa S5))
 (ag<|aD<|aa S3))))),?_⟩
 obtain⟨⟨dx,hx⟩,hp,hs,ht,hy⟩:=id bk;refine⟨_,rfl,x,dx,_,rfl,hx,fm _ _ _ _ (by decide+kernel) (by decide+kernel) (by decide+kernel)<|by decide+kernel,x,p,s,t,y,ss,rfl,⟨dx,hx⟩,hs,λsb a1=>?_⟩;generalize bb:upd H sb _=H1;obtain⟨s1,aj⟩:=nx a1 bb;refine⟨_,rfl,x,dx,_,rfl,s1 _ _ hx,fm _ _ _ _ (by decide+kernel) (by decide+kernel) (by decide+kernel)<|by decide+kernel,x,p,s,t,y,G,rfl,⟨dx,s1 _ _ hx⟩,s1 _ _ ht,λtb an=>?_⟩;have s2:=s1.trans<|cJ.upd (o:=.lst G) an;have O:=cJ.upd (o:=.lst G) an _ _ aj;have M:upd H1 tb (.lst G) tb=some (.lst G):=cG;generalize upd H1 tb (.lst G)=H2 at s2 O M;refine⟨_,rfl,x,p,s,t,y,ps,ss,G,ys,r,sd,rfl,bk.mono s2,pl,sl,gs.mono<|dz.mono<|Tk.of s2,gp,sy.mono<|Tk.of s2,YB,λlo H3 s3 b4 Zf=>?_⟩;have L:=s2.trans s3;have N:=s3 _ _ M;have gl:=gs.1;have ol:=Aa r sd r.length;refine⟨lo,rfl,⟨_,cP.of Zf⟩,xN (λj H' v=>∃i,((List.range r.length).filter<|oO r<|cR sd)[j]? =some i/\lO H' v (Hg r i)) (λj v H H' A ⟨i,e,h⟩=>⟨i,e,h.mono A⟩) (cP.of Zf) (by lia) ?_ ?_⟩
 ·intro j v H4 K1 R s4 k1
  unfold lY at R;rw[Sk]at R;obtain⟨i,hi,rfl⟩:=Th.mp R;have il:i<r.length:=TU.mp (Su.mp<|R4 hi).1;obtain⟨vg,ad⟩:∃vg,ss[i]? =some vg:=⟨_,RY<|by lia⟩;have hg:r[i]? =some r[i]:=RY il;obtain⟨ga,b0,rfl,bd⟩:=gs.2 _ _ _ ad hg;have av:=s4 _ _<|L _ _ bd;have ar:=s4 _ _<|s3 _ _ O;have a4:Hg r i=(r[i].1,r[i].2,.saw i):=by
   unfold Hg;rw[hg]
  refine⟨_,rfl,_,rfl,xL ar (c8 ad)<|xT av rfl ⟨_,rfl,_,rfl,xL ar (c8 ad)<|xT av rfl ⟨_,rfl,uk,λwa ab=>⟨tL,λta I=>?_⟩⟩⟩⟩;refine k1 _ _ ((cJ.upd ab).trans<|cJ.upd I) ⟨i,hi,ta,rfl,?_⟩;rw[a4];exact⟨wa,cG,cJ.upd I _ _ cG⟩
 ·intro l Y H4 nl s4 hl bm ur
  have F:=L.trans s4;have be:Lz lO H4 Y (((List.range r.length).filter<|oO r<|cR sd).map<|Hg r):=by
   refine⟨by rw[bm,R5];unfold lY;rw[R5],λj v d R hd=>?_⟩;obtain⟨i,hi,he⟩:=ur j v R;rw[Sk,hi]at hd;cases hd;exact he
  have bv:Y.length<=24:=by lia
  clear ur;refine⟨_,rfl,x,p,s,t,y,ps,ss,G,ys,g,sd,rfl,bk.mono F,pl,tl,qs.mono<|dD.mono<|Tk.of F,qk,sy.mono<|Tk.of F,YB,λm vs H5 s5 nm hm tu=>?_⟩;have as:=F.trans s5;have a0:=s5 _ _ hl;have ai:=s5 _ _<|s4 _ _ N;have b1:=tu.1;have bx:=kL (fH g) 0;have b2:(fH g).length=g.length:=R5 _;have b3:=qs.1;have fl:=Ts (dj g sd)<|fF 0<|fH g;have bi:m≠l:=λe=>by rw[e,hl]at nm;cases nm
  have bc:tb≠l:=λe=>by rw[<-e,N]at nl;cases nl
  refine⟨m,rfl,⟨_,cP.of hm⟩,dw (K:=X.K) (a:=m) (xs:=vs) (Nh x sb tb l H5 (((List.range r.length).filter<|oO r<|cR sd).map<|Hg r)<|((fF 0<|fH g).filter<|dj g sd).map<|IF g) ⟨Y,none,none,none,rfl,λb o e _=>e,a0,by lia,by rw[Vg,SH];exact be.mono<|lO.mono<|Tk.of s5⟩ ?_ ?_ ?_⟩
  ·rintro i σ H6 hi ⟨Z,e4,e5,e6,rfl,S,B,ul,lz⟩
   exact cP.of<|S _ _ hm bi
  ·rintro i v σ H6 R ⟨Z,e4,e5,e6,rfl,S,B,ul,lz⟩
   have il:=(gI0.mp R).1;obtain⟨A,YI⟩:∃A,((fF 0<|fH g).filter<|dj g sd)[i]? =some A:=⟨_,RY<|by rw[<-tu.1];exact il⟩;obtain⟨a,rfl,ha⟩:=tu.2 _ _ _ R YI;obtain⟨q,hq,_⟩:=qh qk (Su.mp<|R4 YI).1;obtain⟨vq,ax⟩:∃vq,G[A.1]? =some vq:=⟨_,RY<|by rw[qs.1];exact(gI0.mp hq).1⟩;obtain⟨aq,rfl,bn⟩:=qs.2 _ _ _ ax hq;have U:∀{b:X4}{zs:Yb V},H5 b=some (.tup zs)->b≠l:=λh e=>by rw[e,a0]at h;cases h
   have W:=as _ _ bn;have bj:=S _ _ ha<|U ha;have al:=S _ _ W<|U W;have am:=S _ _ ai bc;refine⟨a,_,rfl,fc.of bj,rfl,_,_,rfl,_,_,rfl,_,_,rfl,rfl,?_⟩;refine⟨_,rfl,.inl ⟨rfl,_,cP.of B⟩,_,rfl,_,rfl,_,rfl,xL am (c8 ax)<|xT al rfl ⟨_,rfl,_,rfl,tL,λwa ab=>⟨tL,λta I=>?_⟩⟩⟩;have sA:=cJ.upd (o:=.tup [.str "heard",.int (A.1:Nat),.str A.2.1]) ab;have sB:=cJ.upd (o:=.tup [.str A.2.2,.int q.1,.ref wa]) I;have ac:=sA.trans sB;have ay:=ac _ _ B;refine⟨l,Z,.ref ta,rfl,rfl,ay,by lia,?_⟩;have ap:=Tk.upd ay (ys:=Z++[.ref ta]);have bf:IF g A=(A.2.2,q.1,.hrd A.1 A.2.1):=by
    unfold IF;rw[iG hq]
   have tt:(((fF 0<|fH g).filter<|dj g sd).map<|IF g).take (i+1)=(((fF 0<|fH g).filter<|dj g sd).map<|IF g).take i++[IF g A]:=by
    rw[SU,Sk,YI];rfl
   refine⟨Z++[.ref ta],_,_,_,rfl,λb o e n=>by rw[cI n];exact ac _ _<|S b o e n,cG,by rw[R3];show Z.length+1<=_;lia,?_⟩;rw[tt,<-R8];refine Lz.snoc ((lz.mono<|lO.mono<|Tk.of ac).mono<|lO.mono ap) ⟨ta,rfl,?_⟩;rw[bf];exact mP.mono ap ⟨wa,cG,sB _ _ cG⟩
  ·rintro σ H6 ⟨Z,e4,e5,e6,rfl,S,B,ul,lz⟩
   refine⟨_,rfl,k l Z H6 (λb o e=>S b o (as _ _ e)<|cH e<|L.free nl) (L.free nl) B ?_ (by lia)⟩;rw[TJ<|by rw[R5];lia]at lz;exact lz
end K42
namespace K42
variable {P:X6}{w:X7}{K:Frag}{mg:Yh}{base:Heap}{kw C:X4}{f:X4}{fd:FuncData}
abbrev Pl:=NK.Pl
def jv(z:Yc):Pl:=.inl<|.inr z
def ne_nil(l:σ[i]? =some (some<|.ref a))(h:H a=some (.lst xs))(k:∀H',cJ H H'->Q (.bl<|!xs.isEmpty) H'):yM (λx y H Q=>GH K x y H Q) (gC i) (Gu kU) σ H Q:=by
 refine⟨_,l,by decide,λe n=>?_⟩;have f:=cJ.upd (o:=.lst []) n;cases xs with
 |nil=>exact .same a e [] [] [] rfl rfl (cP.of<|f _ _ h) (cP.of cG) rfl rfl (λi u v c m=>by cases m)<|k _ f
 |cons g j=>exact .other a e (g::j) [] rfl rfl (cP.of<|f _ _ h) (cP.of cG) (by grind)<|k _ f
theorem lN{α:Type} [DecidableEq α]:∀{xs ys:Yb α},xs.Nodup->(∀x∈xs,x∈ys)->xs.length<=ys.length
 |[],_,_,_=>Tq _
 |x::xs,ys,nd,h=>by
  obtain⟨f,g⟩:=Uz.mp nd;have m:=h x<|.head _;have:=lN (ys:=ys.erase x) g λy a=>(List.mem_erase_of_ne λe=>f<|by rw[<-e];exact a).mpr<|h y<|.tail _ a;grind
section
variable (P:X6)(w:X7)
structure MV(H:Hp)(a:X4)(f:Pl->X8 Int)(B:Nat):Prop where
 ex:∃kv,H a=some (.ext (Dφ (eV P w) a kv))/\DD (eV P w) H a kv/\kv.length<=B/\∀v,jL kv v=(f v).map V.int
structure eC(H:Hp)(r:X4)(K:Pl->Bool)(G:Pl->Pl->X8 Int)(ia:Pl->X4)(B:Nat):Prop where
 ex:∃Yj,H r=some (.ext (Dφ (eV P w) r Yj))/\DD (eV P w) H r Yj/\Yj.length<=B/\∀u,jL Yj u=if K u=true then some (.ref (ia u)) else none
 inn:∀u,K u=true->MV P w H (ia u) (G u) B
 ne:∀u,K u=true->ia u≠r
 inj:∀u v,K u=true->K v=true->ia u=ia v->u=v
 no:∀u,K u=false->∀v,G u v=none
def fX(H:Hp)(d:X4)(L:Yb (Pl×Pl))(a:Pl×Pl->Int):Prop:=∃f,DD (mR P w) H d f/\f.map (λe=>(e.1,e.2.2))=L.map λl=>([l.1,l.2],V.int<|a l)
end
def qW(G:Pl->Pl->X8 Int)(u v:Pl)(n:Int):Pl->Pl->X8 Int:=λx y=>if x=u/\y=v then some n else G x y
section
variable {P:X6}{w:X7}{H H':Hp}{a r:X4}{f:Pl->X8 Int}{K:Pl->Bool}{G:Pl->Pl->X8 Int}{ia:Pl->X4}{B B':Nat}{u v:Pl}{y:V}
def MV.keep(h:MV P w H a f B)(e:H' a=H a)(t:Tk H H')(l:B<=B'):MV P w H' a f B':=by
 obtain⟨n,j,g,m,i⟩:=h.ex;exact⟨n,by rw[e];exact j,g.mono e t,SF m l,i⟩
def eC.there(h:eC P w H r K G ia B)(k:K u=true):∃o,H (ia u)=some o:=let ⟨_,e,_⟩:=(h.inn u k).ex;⟨_,e⟩
def eC.same(h:eC P w H r K G ia B)(s:cJ H H')(l:B<=B'):eC P w H' r K G ia B':=by
 obtain⟨j,g,a,i,f⟩:=h.ex;refine⟨⟨j,s _ _ g,a.same s,SF i l,f⟩,λu k=>?_,h.ne,h.inj,h.no⟩;obtain⟨o,e⟩:=h.there k;exact(h.inn u k).keep (by rw[e,s _ _ e]) (Tk.of s) l
def wm [DecidableEq κ]{x:κ}{v:V}(h:jL Yj x=some v):∃e,jo Yj x=some e/\e.2.2=v:=by
 unfold jL at h;obtain⟨e,a,f⟩:=Th.mp h;grind
def eC.get{Q:VK}(h:eC P w H r K G ia B)(k:K u=true)(g:iS H u y)(q:Q (.ref<|ia u) H):Bi (eV P w) (.ref r) y H Q:=by
 obtain⟨l,m,f,n,i⟩:=h.ex;have:=i u;rw[Sb k]at this;obtain⟨e,a,j⟩:=wm this;exact⟨r,l,u,e,rfl,f,g,a,by rw[j];exact q⟩
def MV.get{n:Int}(h:MV P w H a f B)(g:f v=some n)(l:iS H v y)(q:Q (.int n) H):Bi (eV P w) (.ref a) y H Q:=by
 obtain⟨p,r,j,s,m⟩:=h.ex;have:=m v;rw[g]at this;obtain⟨e,i,o⟩:=wm this;exact⟨a,p,v,e,rfl,j,l,i,by rw[o];exact q⟩
def eC.put(h:eC P w H r K G ia B)(k:K u=true)(m:iS H v y)(l:B+2<sizeLine)(bl:B+1<=B'\/((G u v).isSome=true/\B<=B'))(q:∀H',(∀b,b≠ia u->H' b=H b)->eC P w H' r K (qW G u v n) ia B'->Q H'):xj (eV P w) (.ref<|ia u) y (.int n) H Q:=by
 obtain⟨g,f,i,M,J⟩:=(h.inn u k).ex;refine⟨ia u,g,v,rfl,i,f,m,q _ (λb p=>cI p) ?_⟩;have t:Tk H (upd H (ia u)<|.ext<|Dφ (eV P w) (ia u)<|fG g v y<|.int n):=λb L e=>by
  rw[cI λz=>by rw[z,f]at e;cases e];exact e
 obtain⟨F,E,s,I,D⟩:=h.ex;have j:r≠ia u:=λe=>h.ne u k e.symm;have o:=bl.elim (λz=>by lia) λz=>z.2;refine⟨⟨F,by rw[cI j];exact E,s.mono (cI j) t,SF I o,D⟩,λx a=>?_,h.ne,h.inj,λx a z=>?_⟩
 ·by_cases e:x=u
  ·subst e
   refine⟨_,cG,i.put f m<|by lia,?_,λz=>?_⟩
   ·obtain bl|⟨bl,N⟩:=bl
    ·have:=mV g v y (.int n)
     lia
    ·rw[xv<|by grind,R5]
     lia
   ·rw[vR]
    unfold qW;by_cases q:z=v
    ·grind
    ·grind
  ·have A:=λz=>e (h.inj x u a k z)
   have C:qW G u v n x=G x:=funext λz=>R7 λq=>e q.1;rw[C];exact(h.inn x a).keep (cI A) t o
 ·exact(R7 λ(q:x=u/\z=v)=>by rw[q.1,k]at a;cases a).trans (h.no x a z)
def eC.sd(h:eC P w H r K G ia B)(U:iS H u y)(D:H q=none)(L:(q==sysModules)=false)(l:B+2<sizeLine)
  (k:∀z H' C f,(∀b o,H b=some o->b≠r->H' b=some o)->eC P w H' r C G f (B+1)->C u=true->(∀x,C x=true↔(K x=true\/x=u))->(∀x,C x=true->(K x=true/\f x=ia x)\/H (f x)=none)->Q z H'):Pa (eV P w) r y (.ref q) (upd H q<|.ext<|Dφ (eV P w) q []) Q:=by
 have s:=cJ.upd (o:=.ext<|Dφ (eV P w) q []) D;have F:upd H q (.ext<|Dφ (eV P w) q []) q=some (.ext<|Dφ (eV P w) q []):=cG;generalize upd H q (.ext<|Dφ (eV P w) q [])=H1 at s F;have I:=h.same (B':=B) s<|R9 _;obtain⟨E,J,M,Y,T⟩:=I.ex;have i:=U.mono<|Tk.of s;have g:=T u;refine⟨E,u,M,J,i,λe p=>?_,λp=>?_⟩
 ·have m:K u=true:=by
   unfold jL at g;rw[p]at g;by_cases z:K u=true
   ·exact z
   ·grind
  exact k _ H1 K ia (λb o e _=>s _ _ e) (I.same (cJ.refl _)<|by lia) m (λx=>⟨.inl,λz=>z.elim id λz=>by rw[z];exact m⟩) λx a=>.inl ⟨a,rfl⟩
 ·have W:jL E u=none:=by
   unfold jL;rw[p];rfl
  have m:K u=false:=by grind
  rw[<-qI W];obtain⟨_,R,_⟩:=h.ex;have A:q≠r:=λe=>by rw[e,R]at D;cases D
  have t:Tk H1 (upd H1 r<|.ext<|Dφ (eV P w) r<|fG E u y<|.ref q):=λb X e=>by
   rw[cI λz=>by rw[z,J]at e;cases e];exact e
  have key:∀x,(decide (x=u)||K x)=true↔(K x=true\/x=u):=λx=>by grind
  have no:∀x,K x=true->ia x≠q/\x≠u:=λx a=>by
   obtain⟨o,e⟩:=h.there a;exact⟨cH e D,λz=>by rw[z,m]at a;cases a⟩
  refine k _ _ (λx=>decide (x=u)||K x) (λx=>if x=u then q else ia x) (λb o e n=>by rw[cI n];exact s _ _ e) ⟨⟨_,cG,M.put J i<|by lia,?_,λx=>?_⟩,λx a=>?_,λx a=>?_,λx z a S e=>?_,λx a z=>?_⟩ ((key u).mpr<|.inr rfl) key λx a=>?_
  ·have:=mV E u y (.ref q)
   lia
  ·rw[vR]
   by_cases e:x=u
   ·grind
   ·grind
  ·by_cases e:x=u
   ·subst e
    rw[Sb rfl];exact⟨[],by rw[cI A];exact F,⟨.inl<|by rw[cI A];exact F,(λe p=>nomatch p),VD,L,by grind⟩,Tq _,λv=>by rw[h.no x m v];rfl⟩
   ·have j:=((key x).mp a).resolve_right e
    rw[R7 e];exact(I.inn x j).keep (cI<|h.ne x j) t (by lia)
  ·by_cases e:x=u
   ·grind
   ·rw[R7 e]
    exact h.ne x<|((key x).mp a).resolve_right e
  ·by_cases O:x=u
   ·grind
   ·by_cases N:z=u
    ·grind
    ·rw[R7 O,R7 N]at e
     exact h.inj x z (((key x).mp a).resolve_right O) (((key z).mp S).resolve_right N) e
  ·exact h.no x (Td.mpr λq=>by rw[(key x).mpr<|.inl q]at a;cases a) z
  ·grind
end
def Ab(L:Yb (Pl×Pl))(u v:Pl):Prop:=(u,v)∈L\/(v,u)∈L
noncomputable instance decL (l:Pl×Pl)(L:Yb (Pl×Pl)):Decidable (l∈L):=Classical.propDecidable _
noncomputable instance decA (L:Yb (Pl×Pl))(u v:Pl):Decidable (Ab L u v):=Classical.propDecidable _
noncomputable def jW (L:Yb (Pl×Pl))(R:Pl->Pl->Int):Pl->Pl->X8 Int:=λu v=>if Ab L u v then some (R u v) else none
noncomputable def R0 (L:Yb (Pl×Pl))(a:Pl×Pl->Int):Pl->Pl->Int:=λu v=>if(u,v)∈L then a (u,v) else 0
def GK(n:(b,a) ∉ L)(ne:a≠b):jW (L++[(a,b)]) (R0 (L++[(a,b)]) cap)=qW (qW (jW L<|R0 L cap) a b<|cap (a,b)) b a 0:=by
 funext u v
 have mem:∀x y:Pl,(x,y)∈L++[(a,b)]↔((x,y)∈L\/(x=a/\y=b)):=λx y=>by grind
 unfold qW;by_cases q:u=b/\v=a
 ·rw[Sb q,q.1,q.2]
  unfold jW R0;rw[Sb<|.inr<|(mem a b).mpr<|.inr ⟨rfl,rfl⟩,R7 λz=>((mem b a).mp z).elim n λw=>ne w.2]
 ·rw[R7 q]
  by_cases e:u=a/\v=b
  ·rw[Sb e,e.1,e.2]
   unfold jW R0;have m:=(mem a b).mpr<|.inr ⟨rfl,rfl⟩;rw[Sb<|.inl m,Sb m]
  ·rw[R7 e]
   have g:Ab (L++[(a,b)]) u v↔Ab L u v:=or_congr (by grind) (by grind);unfold jW R0;by_cases f:(u,v)∈L
   ·grind
   ·grind
inductive RU(P:X6)(w:X7)(vs:Yb V)(H:Hp)(Q:VK):Prop
 |mk(d:X4)(L:Yb (Pl×Pl))(a:Pl×Pl->Int)(e:vs=[.ref d])(g:fX P w H d L a)(jB:FL.Net L)(h:L.length<=100000)
  (k:∀(r:X4)(H':Hp)(K:Pl->Bool)(f:Pl->X4),(∀b o,H b=some o->b≠d->H' b=some o)->fX P w H' d L a->eC P w H' r K (jW L (R0 L a)) f (4*L.length)->H r=none->(∀u,K u=true->H (f u)=none)->(∀u,K u=true↔∃v,Ab L u v)->Q (.ref r) H')
def LX(P:X6)(w:X7):Sp:=λa H Q _=>RU P w a H Q
inductive ND(P:X6)(w:X7)(d r:X4)(g:Hp)(L:Yb (Pl×Pl))(a:Pl×Pl->Int)(i:Nat)(σ:St)(f:Hp):Prop
 |mk(n l m j:X8 V)(K:Pl->Bool)(h:Pl->X4)(e:σ=[some (.ref d),some (.ref r),n,l,m,j])(rd:eC P w f r K (jW (L.take i) (R0 (L.take i) a)) h (4*i))(q:∀b o,g b=some o->f b=some o)(fr:∀u,K u=true->g (h u)=none)(p:∀u,K u=true↔∃v,Ab (L.take i) u v)
def fX.at{P:X6}{w:X7}{H:Hp}{d:X4}{L:Yb (Pl×Pl)}{a:Pl×Pl->Int}{Yj:Yb (Yb Pl×V×V)}(dd:DD (mR P w) H d Yj)(p:Yj.map (λe=>(e.1,e.2.2))=L.map λl=>([l.1,l.2],V.int<|a l)){i:Nat}{e:Yb Pl×V×V}(he:Yj[i]? =some e):∃l b g m,L[i]? =some l/\e.1=[l.1,l.2]/\e.2.1=.ref b/\e.2.2=.int (a l)/\H b=some (.tup [g,m])/\iS H l.1 g/\iS H l.2 m:=by
 have h:(Yj.map λe=>(e.1,e.2.2))[i]? =some (e.1,e.2.2):=by rw[Sk,he];rfl
 rw[p,Sk]at h;obtain⟨l,s,q⟩:=Th.mp h;obtain⟨q1,y⟩:=U8 q;obtain⟨b,z,o,f,j⟩:=dd.r e<|R4 he;rw[<-q1]at j;cases j with
 |cons v t=>
  cases t with
  |cons x n=>
   cases n;exact⟨l,b,_,_,s,q1.symm,o,y.symm,f,v,x⟩
def yo:cL ["links","room","link","most","one","other"] ["links"] (cK lQ):={}
def O0 {fd:FuncData}(D:Df K mg "rooms_of" lQ ["links"] f fd):Gd P w K mg base 1 "rooms_of" (LX P w):=by
 refine aJ D yo λX H vs Q E j h=>?_;obtain⟨d,L,be,rfl,⟨g,G,ek⟩,jB,ll,k⟩:=h;obtain⟨rfl,rfl⟩:=And.intro j.pr j.wd;have a:=jg j.room;have Yu:=Sq;have kl:g.length=L.length:=by
  have:=SY List.length ek
  rwa [R5,R5]at this
 obtain⟨S0,O,S2,S3,S4,S5,_⟩:=j.fA [0,1,2,3,4,5];refine⟨_,(af (aB O j.nd J.As)
 (af (bh j.own j.calm (J.Mx<|aa S0) (b8 j.calm<|a6 (aR S2 j.nd)<|a6 (aR S3 j.nd) bO)
 (af (aB S4 j.nd<|ah aG (aa S2) ae ak)
 (af (aB S5 j.nd<|ah aG (aa S2) ae ak)
 (af (bw<|J.E5 a (aa O) (aa S4) J.As)
 (af (bw<|J.E5 a (aa O) (aa S5) J.As)
 (af (J.Fl a (bT a (aa O) (aa S4) aQ) (aa S5)<|aa S3)
 (ag<|J.Fl a (bT a (aa O) (aa S5) aQ) (aa S4) ae)))))))
 (ag<|aD<|aa O))),?_⟩
 intro r nr bd;have s1:=cJ.upd (o:=.ext<|Dφ (eV X.prog X.w) r []) nr;have s:upd H r (.ext<|Dφ (eV X.prog X.w) r []) r=some (.ext<|Dφ (eV X.prog X.w) r []):=cG;generalize upd H r (.ext<|Dφ (eV X.prog X.w) r [])=H1 at s1 s;obtain⟨od,hd⟩:∃od,H d=some od:=G.h.elim (λz=>⟨_,z⟩) λ⟨_,z⟩=>⟨_,z⟩;have x:r≠d:=λe=>by rw[e,hd]at nr;cases nr
 refine⟨_,rfl,d,g,rfl,G.same s1,λo H2 eb ed=>?_⟩;have al:∀b u,upd H d (.ext<|Fz d o<|Dφ (mR X.prog X.w) d g) b=some u->H2 b=some u:=λb u e=>by
  by_cases z:b=d
  ·rw[z]at e ⊢
   rw[cG]at e;rw[ed];exact e
  ·rw[cI z]at e
   rw[eb b z];exact s1 _ _ e
 have A:upd H d (.ext<|Fz d o<|Dφ (mR X.prog X.w) d g) r=none:=by rw[cI x];exact nr
 have M:upd H d (.ext<|Fz d o<|Dφ (mR X.prog X.w) d g) d=some (.ext<|Fz d o<|Dφ (mR X.prog X.w) d g):=cG;have back:∀b u,H b=some u->b≠d->upd H d (.ext<|Fz d o<|Dφ (mR X.prog X.w) d g) b=some u:=λb u e n=>by rw[cI n];exact e
 have non:∀b,upd H d (.ext<|Fz d o<|Dφ (mR X.prog X.w) d g) b=none->H b=none:=λb e=>by
  by_cases z:b=d
  ·grind
  ·rw[cI z]at e
   exact e
 have B:DD (mR X.prog X.w) (upd H d<|.ext<|Fz d o<|Dφ (mR X.prog X.w) d g) d g:=by
  have t:∀b N,H b=some (.tup N)->upd H d (.ext<|Fz d o<|Dφ (mR X.prog X.w) d g) b=some (.tup N):=λb N e=>back b _ e λz=>by
   rw[z]at e;rcases G.h with h|⟨_,h⟩<;>(rw[h]at e;cases e)
  exact⟨.inr ⟨o,M⟩,λe he=>(mR X.prog X.w).mono t<|G.r e he,G.nd,G.ns,G.l⟩
 generalize upd H d (.ext<|Fz d o<|Dφ (mR X.prog X.w) d g)=m at al A M back non B;refine KR (ND X.prog X.w d r m L be) ⟨none,none,none,none,λ_=>false,λ_=>0,rfl,⟨⟨[],by rw[eb r x];exact s,⟨.inl<|by rw[eb r x];exact s,(λe he=>nomatch he),VD,bd,by show 0<sizeLine;decide⟩,Tq _,λu=>rfl⟩,(λu k=>by cases k),(λu k=>by cases k),(λu v k=>by cases k),λu _ v=>?_⟩,al,(λu k=>by cases k),λu=>⟨(λz=>by cases z),λ⟨v,z⟩=>by rw[Vg]at z;exact z.elim (λz=>nomatch z) λz=>nomatch z⟩⟩ ?_ ?_ ?_
 ·rw[Vg]
  exact R7 λz=>z.elim (λz=>nomatch z) λz=>nomatch z
 ·rintro i σ H3 hi ⟨e2,e3,e4,e5,K',ia,rfl,rd,F,fr,Y⟩
  exact F _ _ M
 ·rintro i e p σ H3 he np ⟨e2,e3,e4,e5,K',ia,rfl,rd,F,fr,Y⟩
  obtain⟨l,b,y1,y2,hl,ea,ax,ev,hb,p1,p2⟩:=fX.at (B.same F) ek he;have il:i<L.length:=(gI0.mp hl).1;have ml:l∈L:=R4 hl;have tk:L.take (i+1)=L.take i++[(l.1,l.2)]:=by
   rw[SU,hl];rfl
  rw[ax,ev];generalize bf:upd H3 p _=H4;obtain⟨Z,av⟩:=nx np bf;have T:=rd.same (B':=4*i) Z<|R9 _;have an:∀b o,m b=some o->H4 b=some o:=λb o e=>Z _ _<|F b o e;have ap:=Z _ _ hb;have U:=p1.mono<|Tk.of Z;have as:=p2.mono<|Tk.of Z;refine⟨p,_,rfl,fc.of av,rfl,_,_,rfl,_,_,rfl,rfl,?_⟩;refine⟨_,rfl,xT ap rfl ⟨_,rfl,xT ap rfl ?_⟩⟩;obtain⟨a4,r1,r2,r3,r4⟩:=T.ex;refine⟨_,rfl,r,a4,rfl,r2,_,rfl,λq nq I=>T.sd U nq I (by lia) λz5 H5 K5 ac f5 aj k5 bi ay=>?_⟩;have am:∀b o,m b=some o->H5 b=some o:=λb o e=>f5 b o (an b o e)<|cH e A;have a2:∀u,K5 u=true->m (ac u)=none:=λu k=>(ay u k).elim (λz=>by rw[z.2];exact fr u z.1) λz=>by
   cases w:m (ac u) with
   |none=>rfl
   |some o=>rw[an _ _ w]at z;cases z
  have t5:Tk H4 H5:=λb N e=>f5 b _ e ((λe z=>by rw[z,r1]at e;cases e) e);have aq:=U.mono t5;have W:=as.mono t5;obtain⟨ab,a0,ar,bn,bm⟩:=aj.ex;refine⟨_,rfl,r,ab,rfl,ar,_,rfl,λq nq I=>aj.sd W nq I (by lia) λz6 H6 K6 C f6 y k6 S a3=>?_⟩;have bv:∀b o,m b=some o->H6 b=some o:=λb o e=>f6 b o (am b o e)<|cH e A;have a1:∀u,K6 u=true->m (C u)=none:=λu k=>(a3 u k).elim (λz=>by rw[z.2];exact a2 u z.1) λz=>by
   cases w:m (C u) with
   |none=>rfl
   |some o=>rw[am _ _ w]at z;cases z
  have t6:Tk H5 H6:=λb N e=>f6 b _ e λz=>by rw[z,a0]at e;cases e
  have ai:=aq.mono t6;have ad:=W.mono t6;have Zm:K6 l.1=true:=(S _).mpr<|.inl k5;refine⟨_,rfl,_,rfl,_,rfl,y.get Zm ai ⟨_,rfl,y.put (B':=4*i+3) Zm ad (by lia) (.inl<|by lia) λH7 f7 R=>?_⟩⟩;have t7:Tk H6 H7:=λb N e=>by
   rw[f7 b λz=>by
    obtain⟨kv,e1,_⟩:=(y.inn _ Zm).ex;rw[z,e1]at e;cases e]
   exact e
  have bj:∀b o,m b=some o->H7 b=some o:=λb o e=>by grind
  have a9:=ai.mono t7;have bc:=ad.mono t7;refine⟨_,rfl,_,rfl,R.get k6 bc ⟨_,rfl,R.put (B':=4*(i+1)) k6 a9 (by lia) (.inl<|by lia) λH8 f8 bb=>?_⟩⟩;refine⟨_,_,_,_,K6,C,rfl,?_,λb o e=>?_,a1,λu=>?_⟩
  ·rw[tk,GK (λz=>jB.one l ml<|Ub z)<|jB.ne l ml]
   exact bb
  ·grind
  ·rw[S,bi,Y,tk]
   constructor
   ·rintro((⟨v,z⟩|z)|z)
    ·exact⟨v,z.elim (λz=>.inl<|SM _ z) λz=>.inr<|SM _ z⟩
    ·exact⟨l.2,.inl<|by grind⟩
    ·exact⟨l.1,.inr<|by grind⟩
   ·rintro⟨v,z|z⟩
    ·obtain z|z:=Sz.mp z
     ·exact .inl<|.inl ⟨v,.inl z⟩
     ·grind
    ·obtain z|z:=Sz.mp z
     ·exact .inl<|.inl ⟨v,.inr z⟩
     ·grind
 ·rintro σ H3 ⟨e2,e3,e4,e5,K',ia,rfl,rd,F,fr,Y⟩
  rw[kl,Tj]at rd Y;exact⟨_,rfl,k r H3 K' ia (λb o e n=>F b o<|back b o e n) ⟨g,B.same F,ek⟩ rd nr (λu z=>non _<|fr u z) Y⟩
def og(R:Hp->V->δ->Prop)(dl:Yb δ)(p:δ->Bool)(mono:∀v d H H',Tk H H'->R H v d->R H' v d)(U:dl.length<=sizeLine)(S:∀i a,cJ H a->i<dl.length->J.go i a)(X:∀a,cJ H a->J.stop dl.length a)
  (he:∀(i:Nat)(F:St) v d a E (O:VK)(M:Hp->Prop),dl[i]? =some d->F.length=n->cJ H a->J.yld i a v E->(p d=true->∀y x,cJ a x->R x y d->O y x)->(p d=false->∀l,cJ a l->M l)->
   g v (F++eF is σ) E λj H4=>(∃r:St,r.length=n/\j=r++eF is σ)/\tc j H4 λb l=>if b=true then te j l O else M l)
  (q:∀D ys H',H D=none->cJ H H'->H' D=some (.lst ys)->Lz R H' ys (dl.filter p)->Q (.ref D) H'):eN J n is g tc te σ H Q:=by
 intro D s;refine⟨λi m ys a=>m=dl.length-i/\i<=dl.length/\cJ H a/\a D=some (.lst ys)/\Lz R a ys ((dl.take i).filter p),⟨_,rfl,Tq _,cJ.upd s,cG,rfl,λi v d h=>by cases h⟩,?_⟩;rintro i m ys a ⟨rfl,Y,C,A,G⟩;refine⟨A,?_⟩;have W:ys.length<=i:=by
  rw[G.1];grind
 by_cases f:i<dl.length
 ·have I:=RY f
  have N:dl.take (i+1)=dl.take i++[dl[i]]:=by simp_all
  refine .inr ⟨S i a C f,λF v E K y=>he i F v dl[i] a E _ _ I K C y (λP z x B T=>⟨B _ _ A,by lia,dl.length-(i+1),by lia,rfl,f,λb o e=>?_,cG,?_⟩) λP l L=>⟨dl.length-(i+1),by lia,rfl,f,C.trans L,L _ _ A,?_⟩⟩
  ·rw[cI<|cH e s]
   exact B _ _<|C _ _ e
  ·have w:=Tk.upd (B _ _ A) (ys:=ys++[z])
   rw[N,T7,show List.filter p [dl[i]]=[dl[i]] by rw[TV,Sb P];rfl];exact Lz.snoc (G.mono λv d h=>mono v d _ _ ((Tk.of B).trans w) h)<|mono _ _ _ _ w T
  ·rw[N,T7,show List.filter p [dl[i]]=[] by rw[TV,R7<|by grind];rfl,SH]
   exact G.mono λv d h=>mono _ _ _ _ (Tk.of L) h
 ·grind
def QC(n:Nat):seqIndex? 0 (n+1)=some 0:=by
 unfold seqIndex?;grind
def KC{os:St}(h:os.length=1):∃o,os=[o]:=by
 cases os with
 |nil=>cases h
 |cons a r=>grind
def Pp{os:St}(h:os.length=2):∃o e,os=[o,e]:=by
 cases os with
 |nil=>cases h
 |cons a r=>
  obtain⟨o,rfl⟩:=KC<|Ua h;exact⟨a,o,rfl⟩
def Es{f:δ->V}(h:Lz (λ_ v d=>v=f d) H ys ds):ys=ds.map f:=by
 refine W2 λi=>?_;rw[Sk];by_cases g:i<ys.length
 ·have e:=RY g
  have a:ds[i]? =some (ds[i]'(by rw[<-h.1];exact g)):=RY _;rw[e,a,h.2 i _ _ e a];rfl
 ·rw[XN<|by lia,XN<|by rw[<-h.1];lia]
  rfl
def uu:V->Bool
 |.int n=>decide<|0<n
 |_=>false
def LR(s:Yc)(G:Pl->Pl->X8 Int)(Yj:Yb (Pl×V×V)):Prop:=∀(j:Nat) e,Yj[j]? =some e->(j=0/\e.1=jv s/\e.2.2=.non)\/∃(f:Nat) (a:Pl×V×V) (n:Int),f<j/\Yj[f]? =some a/\e.2.2=a.2.1/\G a.1 e.1=some n/\0<n
structure jC(P:X6)(w:X7)(H:Hp)(cm:X4)(s:Yc)(G:Pl->Pl->X8 Int)(Yj:Yb (Pl×V×V)):Prop where
 hm:H cm=some (.ext (Dφ (eV P w) cm Yj))
 dd:DD (eV P w) H cm Yj
 ck:LR s G Yj
 st:jv s∈Yj.map (·.1)
 cl:∀u∈Yj.map (·.1),∀v n,G u v=some n->0<n->v∈Yj.map (·.1)
 sub:∀e∈Yj,e.1=jv s\/∃u n,G u e.1=some n
inductive RL(P:X6)(w:X7)(vs:Yb V)(H:Hp)(Q:VK):Prop
 |mk(r:X4)(s:Yc)(K:Pl->Bool)(G:Pl->Pl->X8 Int)(g:Pl->X4)(B:Nat)(f:Yb Pl)(e:vs=[.ref r,.str s])(hr:eC P w H r K G g B)(bl:B<=400000)(pl:∀u v n,G u v=some n->v∈f)(h:f.length<=400000)
  (k:∀(a:X4)(Yj:Yb (Pl×V×V))(H':Hp),cJ H H'->H a=none->jC P w H' a s G Yj->Q (.ref a) H')
def K4(P:X6)(w:X7):Sp:=λa H Q _=>RL P w a H Q
inductive JV(P:X6)(w:X7)(r:X4)(s:Yc)(H1:Hp)(f g:X4)(G:Pl->Pl->X8 Int)(o:Yb Pl)(m:Nat)(σ:St)(a:Hp):Prop
 |mk(p h l q:X8 V)(Yj:Yb (Pl×V×V))(i:Nat)(e:σ=[some (.ref r),some (.str s),some (.ref f),some (.ref g),p,h,l,q])(hm:m=o.length+1-i)(y:cJ H1 a)(z:a f=some (.ext (Dφ (eV P w) f Yj)))(dd:DD (eV P w) a f Yj)(hw:a g=some (.lst ((Yj.drop i).map (·.2.1))))(x:i<=Yj.length)(A:LR s G Yj)(st:jv s∈Yj.map (·.1))
  (cl:∀(j:Nat) e v n,j<i->Yj[j]? =some e->G e.1 v=some n->0<n->v∈Yj.map (·.1))(sub:∀e∈Yj,e.1=jv s\/∃u n,G u e.1=some n)
inductive NZ(P:X6)(w:X7)(r:X4)(s:Yc)(H1 i:Hp)(g h fl:X4)(pv:V)(Yj fr:Yb (Pl×V×V))(wl:Yb V)(j:Nat)(σ:St)(a:Hp):Prop
 |mk(l m:X8 V)(e:σ=[some (.ref r),some (.str s),some (.ref g),some (.ref h),some pv,l,some (.ref fl),m])(n:cJ H1 a)(o:Tk i a)(p:a g=some (.ext (Dφ (eV P w) g (Yj++(fr.take j).map λf=>(f.1,f.2.1,pv)))))(dd:DD (eV P w) a g (Yj++(fr.take j).map λf=>(f.1,f.2.1,pv)))(hw:a h=some (.lst wl))(hf:a fl=some (.lst (fr.map (·.2.1))))
def oY:cL ["room","start","came","waiting","place","around","fresh","other"] ["room","start"] (cK gN):={}
def NS (D:Df K mg "reached_from" gN ["room","start"] f fd):Gd P w K mg base 1 "reached_from" (K4 P w):=by
 refine aJ D oY λX H vs Q E R h=>?_;obtain⟨r,s,K',G,ia,B,PL,rfl,hr,bl,pl,ll,k⟩:=h;obtain⟨rfl,rfl⟩:=And.intro R.pr R.wd;have hu:=d9 R.room;have a2:=jg R.room;have Yu:sizeLine=16777216:=Sq;obtain⟨S0,S1,S2,S3,S4,S5,S6,S7,_⟩:=R.fA [0,1,2,3,4,5,6,7];refine⟨_,(af (aB S2 R.nd<|J.q1 (aa S1) bS)
 (af (aB S3 R.nd<|bg<|ao<|aa S1)
 (af (cC R.own (aI (J.pe hu) (aa S3) (bg bF)<|cM _)
 (af (aB S4 R.nd<|bA Ti PySem.F.slot_list_pop PySem.F.type_list_pop J.qv (aa S3)<|ao ae)
 (af (aB S5 R.nd<|J.LC a2 (aa S0) (aa S4) J.As)
 (af (J.Nn<|cj (is:=[2,5]) (xs:=["other"]) (ns:=["came","around"]) S6 R.nd R.calm (J.O2<|aa S5) {} (λ_ _ _ _ _=>br (i:=0)) (λ_ _ _ _ _=>bP<|a7<|bq (aI bV (J.yH a2 (a5 (i:=2)) (aT (i:=0)) aQ) ae<|cM _)<|bz<|J.oQ a2 (aT (i:=0))<|a5 (i:=1)) (λ_ _ _ _ _=>aT (i:=0)) R.hsc R.hN (by decide+kernel))
 (af (bh R.own R.calm (aX<|aa S6) (aR S7 R.nd)
 (ag<|J.Fl a2 (aa S2) (aa S7)<|aa S4))
 (ag<|bw<|bA Ti PySem.F.slot_list_extend PySem.F.type_list_extend J.nI (aa S3)<|ao<|aa S6))))))
 (ag<|aD<|aa S2)))),?_⟩
 intro I ay b1;refine⟨_,rfl,_,_,rfl,s,rfl,cG,?_⟩;rw[Av];have s1:=cJ.upd (o:=.ext<|Dφ (eV X.prog X.w) I [(.inl<|.inr s,.str s,.non)]) ay;have bx:upd H I (.ext<|Dφ (eV X.prog X.w) I [(.inl<|.inr s,.str s,.non)]) I=some (.ext<|Dφ (eV X.prog X.w) I [(jv s,.str s,.non)]):=cG;generalize upd H I (.ext<|Dφ (eV X.prog X.w) I [(.inl<|.inr s,.str s,.non)])=H1 at s1 bx;refine⟨_,rfl,MW,λN bd=>?_⟩;have s2:=cJ.upd (o:=.lst [.str s]) bd;have cg:upd H1 N (.lst [.str s]) N=some (.lst [.str s]):=cG;generalize upd H1 N (.lst [.str s])=H2 at s2 cg;have aq:=s2 _ _ bx;have av:H N=none:=s1.free bd;have ap:I≠N:=λe=>by rw[<-e,bx]at bd;cases bd
 refine⟨JV X.prog X.w r s H I N G PL,⟨_,none,none,none,none,[(jv s,.str s,.non)],0,rfl,rfl,s1.trans s2,aq,⟨.inl aq,λe C=>by rw[Sd.mp C];exact rfl,UB _ _,b1,by show 1<sizeLine;decide⟩,cg,Tq _,λj e C=>?_,Sd.mpr rfl,λj e v n hj=>by lia,λe C=>.inl<|by rw[Sd.mp C]⟩,?_⟩
 ·cases j with
  |zero=>
   cases C;exact .inl ⟨rfl,rfl,rfl⟩
  |succ j=>cases C
 rintro m σ H3 ⟨e4,e5,e6,e7,q,i,rfl,rfl,kp,hc,dd,hw,il,ck,st,cl,bj⟩;have dc:q.length<=PL.length+1:=by
  have:=lN (ys:=jv s::PL) dd.nd λx hx=>by
   obtain⟨e,C,rfl⟩:=SQ.mp hx;obtain z|⟨u,n,z⟩:=bj e C
   ·rw[z]
    exact .head _
   ·exact .tail _<|pl _ _ _ z
  rwa [R5,Te]at this
 refine ne_nil (K:=X.K) rfl hw λH4 s4=>⟨_,rfl,?_⟩;cases an:q.drop i with
 |nil=>
  refine dS ?_;have hi:i=q.length:=by
   have:=SY List.length an;rw[T3]at this;have z:([]:Yb (Pl×V×V)).length=0:=rfl;lia
  subst hi;exact⟨_,rfl,k I q H4 (kp.trans s4) ay ⟨s4 _ _ hc,dd.same s4,ck,st,λu hu v n g p=>by
   obtain⟨e,C,rfl⟩:=SQ.mp hu;obtain⟨j,hj⟩:=So C;exact cl j e v n (gI0.mp hj).1 hj g p,bj⟩⟩
 |cons A Y=>
  have c5:i<q.length:=by
   have:=SY List.length an;rw[T3,Te]at this;lia
  have Zz:q[i]? =some A:=by
   have:(q.drop i)[0]? =some A:=by rw[an];rfl
   rw[Va]at this;exact this
  have ce:q.drop (i+1)=Y:=by
   rw[<-drop_drop,an];rfl
  refine eU ⟨JV X.prog X.w r s H I N G PL<|PL.length+1-(i+1),λdg H' z=>⟨_,by lia,z⟩,?_⟩;rw[an]at hw;have c7:=kp.trans s4;have ct:=s4 _ _ hc;have cx:=dd.same s4;have bi:=s4 _ _ hw;clear hc dd hw kp s4;refine⟨_,rfl,.inl ⟨rfl,_,cP.of bi⟩,N,_,0,0,A.2.1,rfl,rfl,bi,by decide,by decide,QC _,rfl,?_⟩;have be:cJ H (upd H4 N<|.lst<|Y.map (·.2.1)):=λb o e=>by
   rw[cI<|cH e av];exact c7 _ _ e
  have bn:upd H4 N (.lst<|Y.map (·.2.1)) N=some (.lst<|Y.map (·.2.1)):=cG;have bc:upd H4 N (.lst<|Y.map (·.2.1)) I=some (.ext<|Dφ (eV X.prog X.w) I q):=by rw[cI ap];exact ct
  have a4:DD (eV X.prog X.w) (upd H4 N<|.lst<|Y.map (·.2.1)) I q:=cx.mono (cI ap)<|Tk.upd bi;show eX 4 A.2.1 _ (upd H4 N<|.lst<|Y.map (·.2.1)) _;generalize upd H4 N (.lst<|Y.map (·.2.1))=H5 at be bn bc a4;have aj:iS H5 A.1 A.2.1:=a4.r A<|R4 Zz;have bv:=hr.same (B':=B) be<|R9 _;obtain⟨a9,r1,r2,r3,r4⟩:=bv.ex;refine⟨_,rfl,r,a9,rfl,r2,_,rfl,λp np cf=>?_⟩;have s6:=cJ.upd (o:=.ext<|Dφ (eV X.prog X.w) p []) np;have a3:upd H5 p (.ext<|Dφ (eV X.prog X.w) p []) p=some (.ext<|Dφ (eV X.prog X.w) p []):=cG;generalize upd H5 p (.ext<|Dφ (eV X.prog X.w) p [])=H6 at s6 a3;refine⟨a9,A.1,r2.same s6,aj.mono<|Tk.of s6,?_⟩;have around:∃O L,((jo a9 A.1).map (·.2.2)).getD (.ref p)=.ref O/\H6 O=some (.ext<|Dφ (eV X.prog X.w) O L)/\DD (eV X.prog X.w) H6 O L/\L.length<=400000/\(∀v,jL L v=(G A.1 v).map V.int)/\I≠O:=by
   have c1:(jo a9 A.1).map (·.2.2)=_:=r4 A.1;rw[c1];cases hk:K' A.1 with
   |true=>
    obtain⟨L,h1,h2,h3,h4⟩:=(bv.inn _ hk).ex;obtain⟨o,ho⟩:=hr.there hk;exact⟨_,L,rfl,s6 _ _ h1,h2.same s6,SF h3 bl,h4,(cH ho ay).symm⟩
   |false=>exact⟨p,[],rfl,a3,⟨.inl a3,(λe C=>nomatch C),VD,cf,by show 0<sizeLine;decide⟩,Tq _,λv=>by rw[hr.no _ hk v];rfl,cH bc np⟩
  obtain⟨O,L,ea,am,M,b4,va,b0⟩:=around;rw[ea];have da:=be.trans s6;have ax:=s6 _ _ bn;have a1:=s6 _ _ bc;have co:=a4.same s6;have db:=aj.mono<|Tk.of s6;clear s6 a3 r4 r3 r2 r1 bv ea np cf be bn bc a4 aj;refine⟨_,rfl,O,L,rfl,M,λo H7 S W=>?_⟩;have t7:Tk H6 H7:=λb xs e=>by
   rw[S b λz=>by rw[z,am]at e;cases e];exact e
  have ai:DD (eV X.prog X.w) H7 O L:=⟨.inr ⟨o,W⟩,λe C=>(M.r e C).mono t7,M.nd,M.ns,M.l⟩;have cp:H7 I=some (.ext<|Dφ (eV X.prog X.w) I q):=by rw[S I b0];exact a1
  have ch:DD (eV X.prog X.w) H7 I q:=co.mono (S I b0) t7;have cc:N≠O:=λe=>by rw[<-e,ax]at am;cases am
  have c3:H7 N=some (.lst<|Y.map (·.2.1)):=by rw[S N cc];exact ax
  refine og (λ_ v (f:Pl×V×V)=>v=f.2.1) L (λf=>uu f.2.2 && !(jo q f.1).isSome) (λv d _ _ _ h=>h) (by lia) (λj H8 s8 hj=>⟨s8 _ _ W,hj⟩) (λH8 s8=>⟨s8 _ _ W,R9 _⟩) ?_ ?_
  ·intro j os v d H8 H9 K1 K2 hd c0 s8 y k1 k2
   obtain⟨e9,d',ca,rfl⟩:=y;subst e9;rw[hd]at ca;cases ca;obtain⟨o1,rfl⟩:=KC c0;have md:=R4 hd;have b3:=FW M.nd md;obtain⟨n,gn,dn⟩:∃n,G A.1 d.1=some n/\d.2.2=.int n:=by
    have:=va d.1;unfold jL at this;rw[b3]at this;cases hg:G A.1 d.1 with
    |none=>rw[hg]at this;cases this
    |some n=>rw[hg]at this;exact⟨n,rfl,Sy this⟩
   have ar:=(ai.same s8).r d md;refine⟨⟨[some d.2.1],rfl,rfl⟩,⟨_,rfl,_,rfl,O,L,d.1,d,rfl,ai.same s8,ar,b3,?_⟩⟩;rw[dn]at k1 k2 ⊢;refine⟨n,0,rfl,rfl,_,rfl,?_⟩;by_cases hn:0<n
   ·have hp:uu (.int n)=true:=dT0 hn
    rw[hp,To]at k1 k2;refine fD (dT0 hn) ⟨_,rfl,_,rfl,I,q,d.1,rfl,ch.same s8,ar,_,rfl,dJ (λz=>⟨_,rfl,k1 z _ _ (cJ.refl _) rfl⟩) λz=>k2 (Td.mpr z) _<|cJ.refl _⟩
   ·have hp:uu (.int n)=false:=Se hn
    rw[hp,Tw]at k2;exact gQ (λz=>hn<|Sj z)<|dS<|k2 rfl _<|cJ.refl _
  ·intro fl ys H8 a0 s8 bm lz
   have ey:=Es (f:=λf:Pl×V×V=>f.2.1) lz;clear lz;subst ey;have fk:∀f∈L.filter λf=>uu f.2.2 && !(jo q f.1).isSome,f∈L/\f.1 ∉ q.map (·.1)/\∃n,G A.1 f.1=some n/\0<n:=λf hf=>by
    obtain⟨h1,h2⟩:=Su.mp hf;rw[Uj]at h2;refine⟨h1,λz=>?_,?_⟩
    ·have:=iX.mpr z
     unfold jL at this;rw[UW]at this;rw[this]at h2;exact absurd h2.2 (by decide)
    ·have:=va f.1
     unfold jL at this;rw[FW M.nd h1]at this;cases hg:G A.1 f.1 with
     |none=>rw[hg]at this;cases this
     |some n=>
      rw[hg]at this;have e:f.2.2=.int n:=Sy this;rw[e]at h2;exact⟨n,rfl,Sj h2.1⟩
   have fa:∀v n,G A.1 v=some n->0<n->v ∉ q.map (·.1)->v∈(L.filter λf=>uu f.2.2 && !(jo q f.1).isSome).map (·.1):=λv n g hn nv=>by
    have:=va v;rw[g]at this;obtain⟨f,hf,ef⟩:=wm this;obtain⟨k1,k2⟩:=pB hf;refine SQ.mpr ⟨f,Su.mpr ⟨k2,?_⟩,k1⟩;have z:(jo q f.1).isSome=false:=Td.mpr λw=>nv (by
     rw[<-k1];refine iX.mp ?_;unfold jL;rw[UW];exact w)
    rw[z,ef];exact Wd.mpr ⟨dT0 hn,rfl⟩
   have b2:((L.filter λf=>uu f.2.2 && !(jo q f.1).isSome).map (·.1)).Nodup:=U6 (List.Sublist.map _ Vt) M.nd;have c2:(L.filter λf=>uu f.2.2 && !(jo q f.1).isSome).length<=400000:=SF (Ts _ _) b4;have al:∀f∈L.filter λf=>uu f.2.2 && !(jo q f.1).isSome,iS H6 f.1 f.2.1:=λf hf=>M.r f (fk f hf).1;generalize L.filter (λf=>uu f.2.2 && !(jo q f.1).isSome)=T at fk fa b2 c2 al bm;refine⟨O,o,L,s8 _ _ W,?_⟩;have cd:fl≠O:=λe=>by rw[e,W]at a0;cases a0
   have U:cJ H6 (upd H8 O<|.ext<|Dφ (eV X.prog X.w) O L):=λb u e=>by
    by_cases z:b=O
    ·rw[z]at e ⊢
     rw[cG,<-e,am]
    ·rw[cI z]
     exact s8 _ _<|(S b z).trans e
   have ab:upd H8 O (.ext<|Dφ (eV X.prog X.w) O L) fl=some (.lst<|T.map (·.2.1)):=by rw[cI cd];exact bm
   have as:H6 fl=none:=by rw[<-S fl cd];exact a0
   generalize upd H8 O (.ext<|Dφ (eV X.prog X.w) O L)=H9 at U ab;have cr:I≠fl:=cH a1 as;have de:N≠fl:=cH ax as;clear a0 s8 bm S W t7 ai cp ch cc c3 am M b4 va b0;dsimp only;refine⟨_,rfl,fl,rfl,⟨_,cP.of ab⟩,dw (K:=X.K) (a:=fl) (xs:=T.map (·.2.1)) (NZ X.prog X.w r s H H6 I N fl A.2.1 q T<|Y.map (·.2.1)) ?_ ?_ ?_ ?_⟩
   ·exact⟨_,e7,rfl,da.trans U,Tk.of U,by rw[Vg];exact(SH q).symm ▸ U _ _ a1,by rw[Vg];exact(SH q).symm ▸ co.same U,U _ _ ax,ab⟩
   ·rintro j σ HA hj ⟨e5,e7,rfl,kp,tk,hc,dd,hw,hf⟩
    exact cP.of hf
   ·rintro j v σ HA hv ⟨e5,e7,rfl,kp,tk,hc,dd,hw,hf⟩
    rw[Sk]at hv;obtain⟨f,bb,rfl⟩:=Th.mp hv;have jl:=(gI0.mp bb).1;have mf:=R4 bb;refine⟨_,rfl,_,rfl,_,rfl,I,_,f.1,rfl,dd,hc,(al f mf).mono tk,?_⟩;have vn:jL (q++(T.take j).map λf=>(f.1,f.2.1,A.2.1)) f.1=none:=by
     cases h:jL (q++(T.take j).map λf=>(f.1,f.2.1,A.2.1)) f.1 with
     |none=>rfl
     |some z=>
      exfalso
      have:=iX.mp (by rw[h];rfl);rw[TQ,Sz]at this;obtain m|m:=this
      ·exact(fk f mf).2.1 m
      ·rw[Ut]at m
       obtain⟨f',Z,e'⟩:=SQ.mp m;obtain⟨j',Zb,rfl⟩:=WG Z;rw[Tp]at Zb;have e2:T[j'].1=f.1:=by
        have e3:(T.take j)[j'].1=f.1:=e';rw[List.getElem_take]at e3;exact e3
       obtain⟨q1,q2⟩:=gI0.mp bb;have:j'=j:=(Uy (h₀:=by rw[R5];lia) (h₁:=by rw[R5];lia) b2).mp (by rw[Vi,Vi,q2,e2]);lia
    have ep:fG (q++(T.take j).map λf=>(f.1,f.2.1,A.2.1)) f.1 f.2.1 A.2.1=q++(T.take<|j+1).map λf=>(f.1,f.2.1,A.2.1):=by
     rw[qI vn,SU,bb,TQ,R8];rfl
    have cs:(q++(T.take j).map λf=>(f.1,f.2.1,A.2.1)).length+1<sizeLine:=by
     rw[R3,R5,Tp];lia
    have YQ:=dd.put (v:=A.2.1) hc ((al f mf).mono tk) cs;rw[ep]at YQ ⊢;refine⟨_,_,rfl,λb u e=>?_,λb xs e=>?_,cG,YQ,?_,?_⟩
    ·rw[cI<|cH e ay]
     exact kp _ _ e
    ·rw[cI λz=>by rw[z,a1]at e;cases e]
     exact tk _ _ e
    ·rw[cI ap.symm]
     exact hw
    ·rw[cI cr.symm]
     exact hf
   ·rintro σ HA ⟨e5,e7,rfl,kp,tk,hc,dd,hw,hf⟩
    rw[R5,Tj]at hc dd;refine⟨_,rfl,.inl ⟨rfl,_,cP.of hw⟩,_,rfl,N,fl,_,_,rfl,rfl,hw,hf,?_,?_⟩
    ·rw[R5,R5,<-ce,T3]
     lia
    have ew:Y.map (·.2.1)++T.map (·.2.1)=((q++T.map λf=>(f.1,f.2.1,A.2.1)).drop<|i+1).map (·.2.1):=by
     rw[List.drop_append_of_le_length c5,ce,TQ,Ut];rfl
    rw[ew];have bf:∀{j:Nat}{e:Pl×V×V},q[j]? =some e->(q++T.map λf=>(f.1,f.2.1,A.2.1))[j]? =some e:=λh=>by
     rw[Sr (gI0.mp h).1];exact h
    have ac:∀{x:Pl},x∈q.map (·.1)->x∈(q++T.map λf=>(f.1,f.2.1,A.2.1)).map (·.1):=λh=>by
     rw[TQ];exact SM _ h
    refine⟨_,_,_,_,q++T.map λf=>(f.1,f.2.1,A.2.1),i+1,rfl,rfl,λb u e=>?_,?_,?_,cG,?_,λj e C=>?_,ac st,λj e v n hj C g hn=>?_,λe C=>?_⟩
    ·rw[cI<|cH e av]
     exact kp _ _ e
    ·rw[cI ap]
     exact hc
    ·exact dd.mono (cI ap)<|Tk.upd hw
    ·rw[R3]
     lia
    ·by_cases jl:j<q.length
     ·rw[Sr jl]at C
      obtain z|⟨j',e',n,h1,h2,h3⟩:=ck j e C
      ·exact .inl z
      ·exact .inr ⟨j',e',n,h1,bf h2,h3⟩
     ·rw[Sf<|by lia,Sk]at C
      obtain⟨f,Z,rfl⟩:=Th.mp C;obtain⟨_,_,n,g,hn⟩:=fk f<|R4 Z;exact .inr ⟨i,A,n,by lia,bf Zz,rfl,g,hn⟩
    ·by_cases ji:j<i
     ·rw[Sr<|by lia]at C
      exact ac<|cl j e v n ji C g hn
     ·have ej:j=i:=by lia
      subst ej;rw[bf Zz]at C;cases C;by_cases m:v∈q.map (·.1)
      ·exact ac m
      ·rw[TQ,Ut]
       exact Sg _<|fa v n g hn m
    ·obtain h|h:=Sz.mp C
     ·exact bj e h
     ·obtain⟨f,Z,rfl⟩:=SQ.mp h
      obtain⟨_,_,n,g,_⟩:=fk f Z;exact .inr ⟨A.1,n,g⟩
def OX(m:Ab L b a)(ne:b≠a):qW (qW (jW L R) b a<|R b a-1) a b (R a b+1)=jW L (FL.way R b a):=by
 funext x y
 unfold qW;by_cases q:x=a/\y=b
 ·rw[Sb q,q.1,q.2]
  unfold jW;rw[Sb<|show Ab L a b from m.symm,FL.uJ ne]
 ·rw[R7 q]
  by_cases e:x=b/\y=a
  ·rw[Sb e,e.1,e.2]
   unfold jW;rw[Sb m,FL.uU]
  ·rw[R7 e]
   unfold jW;rw[FL.oz e q]
def IA{L:Yb (Pl×Pl)}{R:Pl->Pl->Int}{s:Yc}{Yj:Yb (Pl×V×V)}(nd:(Yj.map (·.1)).Nodup)(W:LR s (jW L R) Yj)(st:jv s∈Yj.map (·.1)):
  ∃N M,FL.Nv L R (jv s) (Yj.map (·.1)) N M/\(∀(j:Nat) e,Yj[j]? =some e->M e.1=j)/\∀(j:Nat) e,Yj[j]? =some e->e.1≠jv s->∃(m:Nat) (a:Pl×V×V),m<j/\Yj[m]? =some a/\e.2.2=a.2.1/\N e.1=a.1:=by
 have B:∀{i j:Nat}{e f:Pl×V×V},Yj[i]? =some e->Yj[j]? =some f->e.1=f.1->i=j:=λ{i j e f} C A h=>by
  obtain⟨a1,a2⟩:=gI0.mp C;obtain⟨b1,X⟩:=gI0.mp A;exact(Uy (h₀:=by rw[R5];lia) (h₁:=by rw[R5];lia) nd).mp (by rw[Vi,Vi,a2,X,h])
 have pick:∀x:Pl,∃p:Nat×Pl,∀(j:Nat) e,Yj[j]? =some e->e.1=x->p.1=j/\(x≠jv s->∃(m:Nat) (a:Pl×V×V) (n:Int),m<j/\Yj[m]? =some a/\e.2.2=a.2.1/\p.2=a.1/\jW L R a.1 x=some n/\0<n):=λx=>by
  by_cases h:x∈Yj.map (·.1)
  ·obtain⟨e,r,rfl⟩:=SQ.mp h
   obtain⟨j,w⟩:=So r;obtain ⟨_,z,_⟩|⟨m,a,n,C,A,Y,T,U⟩:=W j e w
   ·exact⟨(j,e.1),λi f D H=>⟨B w D H.symm,λl=>absurd z l⟩⟩
   ·refine⟨(j,a.1),λi f D H=>?_⟩
    have S:=B w D H.symm;subst S;rw[w]at D;cases D;exact⟨rfl,λ_=>⟨m,a,n,C,A,Y,rfl,T,U⟩⟩
  ·exact⟨(0,x),λj e r I=>absurd (SQ.mpr ⟨e,R4 r,I⟩) h⟩
 obtain⟨F,G⟩:=V1 pick;have get:∀x∈Yj.map (·.1),∃(j:Nat) (e:Pl×V×V),Yj[j]? =some e/\e.1=x:=λx o=>by
  obtain⟨e,r,rfl⟩:=SQ.mp o;obtain⟨j,w⟩:=So r;exact⟨j,e,w,rfl⟩
 have key:∀x∈Yj.map (·.1),x≠jv s->(F x).2∈Yj.map (·.1)/\(F (F x).2).1<(F x).1/\∃n,jW L R (F x).2 x=some n/\0<n:=λx o l=>by
  obtain⟨j,e,w,I⟩:=get x o;obtain⟨C,A⟩:=G x j e w I;obtain⟨m,a,n,K,E,P,J,Z,Q⟩:=A l;have:=(G a.1 m a E rfl).1;rw[J,this,C];exact⟨SQ.mpr ⟨a,R4 E,rfl⟩,K,n,Z,Q⟩
 have y:∀{u v:Pl}{n:Int},jW L R u v=some n->Ab L u v/\R u v=n:=λ{u v n} h=>by
  unfold jW at h;by_cases q:Ab L u v
  ·rw[Sb q]at h
   exact⟨q,Sy h⟩
  ·rw[R7 q]at h
   cases h
 refine⟨λx=>(F x).2,λx=>(F x).1,⟨st,λx o l=>(key x o l).1,λx o l=>(key x o l).2.1,λx o l=>?_,λx o l=>?_⟩,λj e r=>(G e.1 j e r rfl).1,λj e r l=>?_⟩
 ·obtain⟨_,_,n,g,O⟩:=key x o l
  show 0<R (F x).2 x;rw[(y g).2];exact O
 ·obtain⟨_,_,n,g,O⟩:=key x o l
  exact(y g).1
 ·obtain⟨m,a,n,K,E,P,J,_⟩:=(G e.1 j e r rfl).2 l
  exact⟨m,a,K,E,P,J⟩
inductive RH(P:X6)(w:X7)(vs:Yb V)(H:Hp)(Q:VK):Prop
 |mk(r g:X4)(s t:Yc)(K:Pl->Bool)(f:Pl->X4)(B:Nat)(L:Yb (Pl×Pl))(a:Pl×Pl->Int)(R:Pl->Pl->Int)(Yj:Yb (Pl×V×V))(e:vs=[.ref r,.ref g,.str t])(hr:eC P w H r K (jW L R) f B)(bl:B<=400000)(cd:jC P w H g s (jW L R) Yj)(mt:jv t∈Yj.map (·.1))(jB:FL.Net L)(l:FL.gT L a R)(ne:s≠t)(i:∀u,K u=true↔∃v,Ab L u v)(j:∀u,K u=true->f u≠g)
  (k:∀(H':Hp)(h:Pl->Pl->Int),(∀b o,H b=some o->(∀u,K u=true->b≠f u)->H' b=some o)->eC P w H' r K (jW L h) f B->FL.gT L a h->(∀n,FL.Flow L a (FL.fl R) (jv s) (jv t) n->FL.Flow L a (FL.fl h) (jv s) (jv t) (n+1))->Q .non H')
def LG(P:X6)(w:X7):Sp:=λa H Q _=>RH P w a H Q
inductive Ki(P:X6)(w:X7)(r j:X4)(s t:Yc)(H1:Hp)(K:Pl->Bool)(h:Pl->X4)(B:Nat)(L:Yb (Pl×Pl))(a:Pl×Pl->Int)(R:Pl->Pl->Int)(Yj:Yb (Pl×V×V))(i:Pl->Pl)(n:Pl->Nat)(m:Nat)(σ:St)(f:Hp):Prop
 |mk(l:X8 V)(e:Pl×V×V)(g:Pl->Pl->Int)(es:σ=[some (.ref r),some (.ref j),some (.str t),some e.2.1,l])(he:Yj[m]? =some e)(q:∀b o,H1 b=some o->(∀u,K u=true->b≠h u)->f b=some o)(hr:eC P w f r K (jW L g) h B)(p:FL.uG L a R g (jv s) (jv t) (Yj.map (·.1)) i n e.1)
def LO{H:Hp}:∀{x:Pl}{y:V},iS H x y->y≠.non
 |.inl (.inr _),_,h,e=>by rw[e]at h;cases h
 |.inl (.inl _),_,h,_=>h.elim
 |.inr _,_,⟨b,h,_⟩,e=>by rw[e]at h;cases h
def xA:cL ["room","came","end","place","before"] ["room","came","end"] (cK lJ):={}
def Pg (D:Df K mg "take_way" lJ ["room","came","end"] f fd):Gd P w K mg base 1 "take_way" (LG P w):=by
 refine aJ D xA λX H vs Q E v h=>?_;obtain⟨r,M,s,t,U,ia,B,L,ac,R,N,rfl,hr,bl,q,mt,jB,rm,ne,ku,nc,k⟩:=h;obtain⟨rfl,rfl⟩:=And.intro v.pr v.wd;have g:=jg v.room;have Yu:sizeLine=16777216:=Sq;obtain⟨S0,S1,S2,I,S4,_⟩:=v.fA [0,1,2,3,4];refine⟨_,(af (aB I v.nd<|aa S2)
 (ag (cC v.own (aI J.pC (bT g (aa S1) (aa I) aQ) bS<|cM _)
 (af (aB S4 v.nd<|bT g (aa S1) (aa I) aQ)
 (af (J.Kz g KW (bT g (aa S0) (aa S4) aQ) (aa I) ae λ_ _ _=>rfl)
 (af (J.Kz g K0 (bT g (aa S0) (aa I) aQ) (aa S4) ae λ_ _ _=>rfl)
 (ag<|aB I v.nd<|aa S4))))))),?_⟩
 obtain⟨bf,rk,x,Z,ap⟩:=IA q.dd.nd q.ck q.st;obtain⟨et,met,ab⟩:=SQ.mp mt;obtain⟨jt,am⟩:=So met;have an:et.2.1=.str t:=by
  have:=q.dd.r et met;rw[ab]at this;exact this
 refine⟨_,rfl,Ki X.prog X.w r M s t H U ia B L ac R N bf rk,⟨jt,none,et,R,by rw[an];rfl,am,λb o e _=>e,hr,by rw[ab];exact FL.uG.first rm mt⟩,?_⟩;rintro m σ H2 ⟨e4,e,A,rfl,W,kp,j,wi⟩;have t2:Tk H H2:=λb xs e=>kp b _ e λu hu z=>by
  obtain⟨_,z1,_⟩:=(hr.inn u hu).ex;rw[<-z,e]at z1;cases z1
 have aj:H2 M=H M:=by rw[q.hm];exact kp _ _ q.hm λu hu z=>nc u hu z.symm
 have l:=q.dd.mono aj t2;have me:=R4 W;have p:=l.r e me;have O:=FW l.nd me;refine⟨_,rfl,_,rfl,M,N,e.1,e,rfl,l,p,O,rfl,_,rfl,?_⟩;by_cases S:e.1=jv s
 ·have C:e.2.2=.non:=by
   obtain ⟨_,_,z⟩|⟨j',i,n,h1,h2,h3,h4,h5⟩:=q.ck m e W
   ·exact z
   ·exfalso
    obtain⟨C,Zz⟩:∃C,N[0]? =some C:=⟨_,RY (by have:=(gI0.mp W).1;lia)⟩;obtain ⟨_,z,_⟩|⟨j2,_,_,h,_⟩:=q.ck 0 C Zz
    ·have:=Z 0 C Zz
     rw[z,<-S,Z m e W]at this;lia
    ·lia
  rw[C];refine iN<|k H2 A kp j wi.rm λn F=>?_;rw[S]at wi;exact wi.last (λz=>ne<|by injection z with z;injection z) F
 ·obtain⟨j',i,h1,h2,h3,h4⟩:=ap m e W S
  have ad:=R4 h2;have a:=l.r i ad;have nn:(!decide (e.2.2=V.non))=true:=by
   rw[Se<|by rw[h3];exact LO a];rfl
  refine fD nn ⟨Ki X.prog X.w r M s t H U ia B L ac R N bf rk j',λaq H' z=>⟨j',h1,z⟩,?_⟩;have mS:e.1∈N.map (·.1):=SQ.mpr ⟨e,me,rfl⟩;have G:Ab L i.1 e.1:=by
   have:=x.link e.1 mS S;rw[h4]at this;exact this
  have T:i.1≠e.1:=G.elim (λz=>jB.ne _ z) λz=>(jB.ne _ z).symm;have Y:U i.1=true:=(ku _).mpr ⟨_,G⟩;have k2:U e.1=true:=(ku _).mpr ⟨_,G.symm⟩;have g1:jW L A i.1 e.1=some (A i.1 e.1):=Sb G;refine⟨_,rfl,_,rfl,M,N,e.1,e,rfl,l,p,O,?_⟩;rw[h3];refine⟨_,rfl,_,rfl,j.get Y a ⟨_,rfl,(j.inn _ Y).get g1 p ⟨_,_,rfl,rfl,j.put (B':=B) Y p (by lia) (.inr ⟨by rw[g1];rfl,R9 _⟩) λH3 f3 y=>?_⟩⟩⟩;have ai:∀b o,H b=some o->(∀u,U u=true->b≠ia u)->H3 b=some o:=λb o e n=>by
   rw[f3 b<|n _ Y];exact kp b o e n
  have t3:Tk H2 H3:=λb xs e=>by
   rw[f3 b λz=>by
    obtain⟨_,z1,_⟩:=(j.inn _ Y).ex;rw[z,z1]at e;cases e]
   exact e
  have g2:qW (jW L A) i.1 e.1 (A i.1 e.1-1) e.1 i.1=some (A e.1 i.1):=by
   unfold qW;rw[R7 λz=>T z.1.symm];exact Sb G.symm
  refine⟨_,rfl,_,rfl,y.get k2 (p.mono t3) ⟨_,rfl,(y.inn _ k2).get g2 (a.mono t3) ⟨_,_,rfl,rfl,y.put (B':=B) k2 (a.mono t3) (by lia) (.inr ⟨by rw[g2];rfl,R9 _⟩) λH4 f4 al=>?_⟩⟩⟩;refine⟨_,rfl,_,i,FL.way A i.1 e.1,rfl,h2,λb o e n=>?_,?_,?_⟩
  ·rw[f4 b<|n _ k2]
   exact ai b o e n
  ·rw[<-OX G T]
   exact al
  ·have:=wi.step jB x S
   rw[h4]at this;exact this
def vY(H:Hp)(v:V)(l:Pl×Pl):Prop:=∃a e f,v=.ref a/\H a=some (.tup [e,f])/\iS H l.1 e/\iS H l.2 f
def vY.mono(t:Tk H H')(h:vY H v l):vY H' v l:=by
 obtain⟨a,j,m,e,g,f,i⟩:=h;exact⟨a,j,m,e,t _ _ g,f.mono t,i.mono t⟩
def jC.mono(h:jC P w H cm s G Yj)(x:cJ H H'):jC P w H' cm s G Yj:=⟨x _ _ h.hm,h.dd.same x,h.ck,h.st,h.cl,h.sub⟩
def jC.keep(h:jC P w H cm s G Yj)(e:H' cm=H cm)(t:Tk H H'):jC P w H' cm s G Yj:=⟨e.trans h.hm,h.dd.mono e t,h.ck,h.st,h.cl,h.sub⟩
def eC.keep{K:Pl->Bool}(h:eC P w H r K G ia B)(e:H' r=H r)(i:∀u,K u=true->H' (ia u)=H (ia u))(t:Tk H H'):eC P w H' r K G ia B:=by
 obtain⟨l,g,a,j,f⟩:=h.ex;exact⟨⟨l,e.trans g,a.mono e t,j,f⟩,λu k=>(h.inn u k).keep (i u k) t<|R9 _,h.ne,h.inj,h.no⟩
inductive Qq(P:X6)(w:X7)(vs:Yb V)(H:Hp)(Q:VK):Prop
 |mk(d:X4)(s t:Yc)(L:Yb (Pl×Pl))(a:Pl×Pl->Int)(e:vs=[.ref d,.str s,.str t])(h:fX P w H d L a)(jB:FL.Net L)(i:L.length<=100000)(ne:s≠t)(j:∀l∈L,0<=a l)
  (k:∀(g ul f:X4)(us:Yb V)(Yj:Yb (Pl×V×V))(R:Pl->Pl->Int)(n:Int)(H':Hp),(∀b o,H b=some o->b≠d->H' b=some o)->H' g=some (.tup [.ref ul,.ref f])->H' ul=some (.lst us)->Lz vY H' us (L.filter λl=>decide (0<R l.2 l.1))->jC P w H' f s (jW L R) Yj->jv t ∉ Yj.map (·.1)->FL.gT L a R->FL.Flow L a (FL.fl R) (jv s) (jv t) n->Q (.ref g) H')
def Dt(P:X6)(w:X7):Sp:=λa H Q _=>Qq P w a H Q
inductive Fm(P:X6)(w:X7)(d r:X4)(s t:Yc)(H1:Hp)(K:Pl->Bool)(h:Pl->X4)(L:Yb (Pl×Pl))(a:Pl×Pl->Int)(m:Nat)(σ:St)(f:Hp):Prop
 |mk(g:X4)(i:X8 V)(Yj:Yb (Pl×V×V))(R:Pl->Pl->Int)(n:Int)(e:σ=[some (.ref d),some (.str s),some (.str t),some (.ref r),some (.ref g),i])(hm:m=((L.map λl=>FL.ind (l.1=jv s) (a l)).sum-n).toNat)(j:∀b o,H1 b=some o->b≠d->f b=some o)(p:fX P w f d L a)(hr:eC P w f r K (jW L R) h (4*L.length))(cd:jC P w f g s (jW L R) Yj)(v:FL.gT L a R)(x:FL.Flow L a (FL.fl R) (jv s) (jv t) n)(q:∀u,K u=true->h u≠g)(nd:g≠d)
def fX.mono(h:fX P w H d L cap)(e:H' d=H d)(t:Tk H H'):fX P w H' d L cap:=let ⟨f,g,a⟩:=h;⟨f,g.mono e t,a⟩
def fX.same(h:fX P w H d L cap)(s:cJ H H'):fX P w H' d L cap:=let ⟨e,f,a⟩:=h;⟨e,f.same s,a⟩
def fX.there(h:fX P w H d L cap):∃φ,H d=some (.ext φ):=let ⟨e,a,_⟩:=h;a.h.elim (λz=>⟨_,z⟩) λ⟨_,z⟩=>⟨_,z⟩
def O3(h:jW L R u v=some n):v∈L.map (·.1)++L.map (·.2):=by
 unfold jW at h;by_cases q:Ab L u v
 ·exact q.elim (λz=>Sg _<|SQ.mpr ⟨_,z,rfl⟩) λz=>SM _<|SQ.mpr ⟨_,z,rfl⟩
 ·grind
def BU:cL ["links","start","end","room","came","used"] ["links","start","end"] (cK pT):={}
def KO {fd:FuncData}(D:Df K mg "filled" pT ["links","start","end"] f fd) (bf:Gd P w K mg base 1 "rooms_of" (LX P w)) (a9:Gd P w K mg base 1 "reached_from" (K4 P w)) (a4:Gd P w K mg base 1 "take_way" (LG P w)):Gd P w K mg base 2 "filled" (Dt P w):=by
 refine aJ D BU λX H vs Q E g h=>?_;obtain⟨d,s,t,L,a,rfl,p,jB,ll,ne,cp,k⟩:=h;obtain⟨rfl,rfl⟩:=And.intro g.pr g.wd;have am:=g.eO a9 rfl (by lia) (by decide);have W:=jg g.room;have Yu:=Sq;obtain⟨S0,S1,S2,S3,S4,S5,_⟩:=g.fA [0,1,2,3,4,5];refine⟨_,(af (aB S3 g.nd<|au (g.eO bf rfl (by lia)<|by decide)<|ao<|aa S0)
 (af (aB S4 g.nd<|au am<|aE (aa S3)<|aa S1)
 (af (cC g.own (J.BC W (aa S2)<|aa S4)
 (af (bw<|au (g.eO a4 rfl (by lia)<|by decide)<|aO (aa S3) (aa S4)<|aa S2)
 (ag<|aB S4 g.nd<|au am<|aE (aa S3)<|aa S1)))
 (af (cj (is:=[3]) (xs:=["one","other"]) (ns:=["room"]) S5 g.nd g.calm (J.O8<|aa S0) {} (λ_ _ _ _ _=>J.vK (n:=2) g.calm<|a6 (br (i:=0))<|a6 (br (i:=1)) bO) (λ_ _ _ _ _=>bP<|aI bV (J.yH W (J.yH W (a5 (i:=2)) (aT (i:=1)) aQ) (aT (i:=0)) aQ) ae<|cM _) (λ_ _ _ _ _=>aN<|aE (aT (i:=0))<|aT (i:=1)) g.hsc g.hN (by decide+kernel))
 (ag<|aD<|aN<|aE (aa S5)<|aa S4))))),?_⟩
 have ax:(L.map (·.1)++L.map (·.2)).length<=400000:=by
  rw[R3,R5,R5];lia
 obtain⟨φ,hd⟩:=p.there;refine⟨_,rfl,d,L,a,rfl,p,jB,ll,λr H1 K' ia al N G nr fr ku=>?_⟩;have ap:FL.gT L a (R0 L a):=by
  have e1:∀l∈L,R0 L a l.1 l.2=a l:=λl p=>Sb p;have e2:∀l∈L,R0 L a l.2 l.1=0:=λl p=>R7<|jB.one l p;exact⟨λl p=>by rw[e1 l p,e2 l p,XC],λl p=>by rw[e1 l p];exact cp l p,λl p=>by rw[e2 l p];exact VX _⟩
 have aq:FL.Flow L a (FL.fl<|R0 L a) (jv s) (jv t) 0:=FL.Flow.zero (λl p=>R7<|jB.one l p) cp;refine⟨_,rfl,_,rfl,r,s,K',jW L<|R0 L a,ia,4*L.length,L.map (·.1)++L.map (·.2),rfl,G,by lia,λu v n=>O3,ax,λY Yj H2 s2 O cd=>?_⟩;refine⟨Fm X.prog X.w d r s t H K' ia L a,⟨_,Y,none,Yj,R0 L a,0,rfl,rfl,λb o e n=>s2 _ _<|al b o e n,N.same s2,G.same s2<|R9 _,cd,ap,aq,λu C=>?_,?_⟩,?_⟩
 ·obtain⟨o,ho⟩:=G.there C
  exact cH ho O
 ·obtain⟨b1,bj⟩:=N.there
  exact(cH bj O).symm
 clear cd O s2 aq ap G N al;rintro m σ H3 ⟨Y,e5,Yj,R,n,rfl,rfl,kp,I,T,cd,rm,fw,nc,bi⟩;refine⟨_,rfl,_,rfl,Y,Yj,jv t,rfl,cd.dd,rfl,_,rfl,dJ (λS=>?_) λno=>?_⟩
 ·have mt:jv t∈Yj.map (·.1):=iX.mp (by unfold jL;rw[UW];exact S)
  refine⟨λa0 H'=>Fm X.prog X.w d r s t H K' ia L a (((L.map λl=>FL.ind (l.1=jv s)<|a l).sum-(n+1)).toNat) a0 H'/\n+1<=(L.map λl=>FL.ind (l.1=jv s)<|a l).sum,λa0 H' z=>⟨_,by have:=z.2;lia,z.1⟩,?_⟩;refine⟨_,rfl,_,rfl,_,rfl,r,Y,s,t,K',ia,4*L.length,L,a,R,Yj,rfl,T,by lia,cd,mt,jB,rm,ne,ku,nc,λH4 R' M F bx as=>?_⟩;have t4:Tk H3 H4:=λb xs e=>M b _ e λu C z=>by
   obtain⟨_,z1,_⟩:=(T.inn u C).ex;rw[<-z,e]at z1;cases z1
  have b2:∀u,K' u=true->d≠ia u:=λu C=>cH hd<|fr u C;obtain⟨bn,aj⟩:=I.there;have bm:=I.mono (by grind) t4;have ab:∀b o,H b=some o->b≠d->H4 b=some o:=λb o e n=>M b o (kp b o e n) λu C=>cH e<|fr u C;refine⟨_,rfl,_,rfl,r,s,K',jW L R',ia,4*L.length,L.map (·.1)++L.map (·.2),rfl,F,by lia,λu v n=>O3,ax,λa3 ad H5 x ai a2=>?_⟩;refine⟨⟨a3,e5,ad,R',n+1,rfl,rfl,λb o e n=>x _ _<|ab b o e n,bm.same x,F.same x<|R9 _,a2,bx,as n fw,λu C=>?_,?_⟩,(as n fw).bound⟩
  ·obtain⟨o,ho⟩:=F.there C
   exact cH ho ai
  ·grind
 ·have nt:jv t ∉ Yj.map (·.1):=λz=>no (by
   have:=iX.mpr z;unfold jL at this;rw[UW]at this;exact this)
  obtain⟨U,A,ek⟩:=id I;have kl:U.length=L.length:=by
   have:=SY List.length ek
   rwa [R5,R5]at this
  refine⟨_,rfl,d,U,rfl,A,λo H4 B Z=>?_⟩;have be:∀{b:X4}{xs:Yb V},H3 b=some (.tup xs)->b≠d:=λe z=>by
   obtain⟨bn,aj⟩:=I.there;rw[z,aj]at e;cases e
  have t4:Tk H3 H4:=λb xs e=>by rw[B b<|be e];exact e
  have ac:DD (mR X.prog X.w) H4 d U:=⟨.inr ⟨o,Z⟩,λe he=>(mR X.prog X.w).mono t4<|A.r e he,A.nd,A.ns,A.l⟩;have bc:=cd.keep (B Y bi) t4;have F:=T.keep (B r (cH hd nr).symm) (λu C=>B _ (cH hd<|fr u C).symm) t4;have M:∀b o,H b=some o->b≠d->H4 b=some o:=λb o e n=>by
   rw[B b n];exact kp b o e n
  refine og vY L (λl=>decide<|0<R l.2 l.1) (λv d _ _ t h=>h.mono t) (by lia) (λj H5 x hj=>⟨x _ _ Z,by rw[kl];exact hj⟩) (λH5 x=>⟨x _ _ Z,Um kl⟩) ?_ ?_
  ·intro j os v l H5 H6 K1 K2 ar bd x y k1 k2
   obtain⟨e6,e,he,rfl⟩:=y;subst e6;obtain⟨o1,o2,rfl⟩:=Pp bd;obtain⟨l',b,y1,y2,ay,ea,eb,ev,hb,p1,p2⟩:=fX.at (ac.same x) ek he;rw[ar]at ay;cases ay;rw[eb];have ml:=R4 ar;have a1:Ab L l.2 l.1:=.inr ml;have g1:jW L R l.2 l.1=some (R l.2 l.1):=Sb a1;have an:=(ku l.2).mpr ⟨_,a1⟩;have av:=F.same (B':=4*L.length) x<|R9 _;refine⟨b,_,rfl,fc.of hb,rfl,_,_,rfl,_,_,rfl,rfl,⟨[some y1,some y2],rfl,rfl⟩,?_⟩;refine⟨_,rfl,_,rfl,av.get an p2 ⟨_,rfl,(av.inn _ an).get g1 p1 ⟨_,_,rfl,rfl,_,rfl,dJ (λS=>?_) λno=>k2 (Td.mpr no) _<|cJ.refl _⟩⟩⟩;exact⟨_,rfl,_,rfl,uk,λq nq=>k1 S _ _ (cJ.upd nq) ⟨q,y1,y2,rfl,cG,p1.mono<|Tk.of<|cJ.upd nq,p2.mono<|Tk.of<|cJ.upd nq⟩⟩
  ·intro ul us H5 b0 x bv lz
   refine⟨_,rfl,_,rfl,uk,λtp bb=>?_⟩;have s6:=cJ.upd (o:=.tup [.ref ul,.ref Y]) bb;exact k tp ul Y us Yj R n _ (λb o e n=>s6 _ _<|x _ _<|M b o e n) cG (s6 _ _ bv) (lz.mono λ_ _ h=>h.mono<|Tk.of s6) (bc.mono<|x.trans s6) nt rm fw
def ee(k:Nat):Pl:=.inr [.inr "into",.inl (k:Int)]
def eY(k:Nat):Pl:=.inr [.inr "out",.inl (k:Int)]
abbrev sP:Pl:=jv "start"
abbrev eP:Pl:=jv "end"
def J2:¬("out" :Yc)= "into" :=by decide+kernel
def Ke:("start" :Yc)≠ "end" :=by decide+kernel
def lK(h:ee k=ee l):k=l:=by
 injection (Up h) with _ h2
 grind
def qT(h:eY k=eY l):k=l:=by
 injection (Up h) with _ h2
 grind
def oW(h:ee k=eY l):False:=by
 injection (Up h) with h2
 exact J2 (Up h2).symm
def fJ(h:ee k=jv z):False:=nomatch h
def eQ(h:eY k=jv z):False:=nomatch h
def Kl(h:sP=eP):False:=Ke (by injection h with h;injection h)
def rK(f:Yb QD)(F:FH)(z:Yc)(a:Yb TK)(u v:Pl):Prop:=(∃t∈a,u=ee t.1/\v=eY t.1)\/(∃t∈a,gK F t.2.1 (cN f t.1)=true/\u=sP/\v=ee t.1)\/(∃t∈a,t.2.2=z/\u=eY t.1/\v=eP)\/∃t∈a,∃e∈a,dO f t e=true/\u=eY t.1/\v=ee e.1
def fh(l:Pl×Pl):Int:=match l.1 with
 |.inr (.inr a::_)=>if a= "into" then 1 else 2
 |_=>2
def zN:fh (ee k,v)=1:=by
 show(if("into" :Yc)= "into" then(1:Int) else 2)=1;grind
def vh:fh (eY k,v)=2:=by
 show(if("out" :Yc)= "into" then(1:Int) else 2)=2;exact R7 J2
def Mh(l:Pl×Pl):0<=fh l:=by
 unfold fh;split
 ·split<;>decide
 ·decide
structure kW(qd:Yb QD)(F:FH)(z:Yc)(tl:Yb TK)(L:Yb (Pl×Pl)):Prop where
 nd:L.Nodup
 mem:∀u v,(u,v)∈L↔rK qd F z tl u v
section
variable {qd:Yb QD}{F:FH}{z:Yc}{tl:Yb TK}{L:Yb (Pl×Pl)}{f:Pl×Pl->Int}{n:Int}
def kR(h:dO qd t u=true):t.2.2=u.2.1/\cN qd t.1<cN qd u.1:=by
 unfold dO at h;grind
def rK.pZ(h:rK qd F z tl (ee k) v):v=eY k/\∃t∈tl,t.1=k:=by
 obtain ⟨t,m,a,e⟩|⟨t,m,_,a,e⟩|⟨t,m,_,a,e⟩|⟨t,m,f,g,_,a,e⟩:=h
 ·have:=lK a
  grind
 ·exact(fJ a).elim
 ·exact(oW a).elim
 ·exact(oW a).elim
def rK.EY{k:Nat}{u:Pl}(h:rK qd F z tl u (ee k)):∃t∈tl,t.1=k/\((u=sP/\gK F t.2.1 (cN qd k)=true)\/∃t'∈tl,dO qd t' t=true/\u=eY t'.1):=by
 obtain ⟨t,m,e,a⟩|⟨t,m,s,e,a⟩|⟨t,m,_,e,a⟩|⟨t,m,t',f,l,e,a⟩:=h
 ·exact(oW a).elim
 ·have:=lK a
  exact⟨t,m,this.symm,.inl ⟨e,by rw[this];exact s⟩⟩
 ·exact(fJ a).elim
 ·exact⟨t',f,(lK a).symm,.inr ⟨t,m,l,e⟩⟩
def rK.qO(h:rK qd F z tl (eY k) v):∃t∈tl,t.1=k/\((v=eP/\t.2.2=z)\/∃t'∈tl,dO qd t t'=true/\v=ee t'.1):=by
 obtain ⟨t,m,a,e⟩|⟨t,m,s,a,e⟩|⟨t,m,q,a,e⟩|⟨t,m,t',f,l,a,e⟩:=h
 ·exact(oW a.symm).elim
 ·exact(eQ a).elim
 ·exact⟨t,m,(qT a).symm,.inl ⟨e,q⟩⟩
 ·exact⟨t,m,(qT a).symm,.inr ⟨t',f,l,e⟩⟩
def rK.JK(h:rK qd F z tl u (eY k)):u=ee k:=by
 obtain ⟨t,m,e,a⟩|⟨t,m,s,e,a⟩|⟨t,m,q,e,a⟩|⟨t,m,g,f,l,e,a⟩:=h
 ·rw[e,qT a]
 ·exact(oW a.symm).elim
 ·exact(eQ a).elim
 ·exact(oW a.symm).elim
def rK.xY(h:rK qd F z tl u sP):False:=by
 obtain ⟨t,m,e,a⟩|⟨t,m,s,e,a⟩|⟨t,m,q,e,a⟩|⟨t,m,g,f,l,e,a⟩:=h
 ·exact eQ a.symm
 ·exact fJ a.symm
 ·exact Kl a
 ·exact fJ a.symm
def rK.Mz(h:rK qd F z tl eP v):False:=by
 obtain ⟨t,m,a,e⟩|⟨t,m,s,a,e⟩|⟨t,m,q,a,e⟩|⟨t,m,g,f,l,a,e⟩:=h
 ·exact fJ a.symm
 ·exact Kl a.symm
 ·exact eQ a.symm
 ·exact eQ a.symm
def rK.QB{v:Pl}(h:rK qd F z tl sP v):∃t∈tl,gK F t.2.1 (cN qd t.1)=true/\v=ee t.1:=by
 obtain ⟨t,m,a,e⟩|⟨t,m,s,a,e⟩|⟨t,m,q,a,e⟩|⟨t,m,g,f,l,a,e⟩:=h
 ·exact(fJ a.symm).elim
 ·exact⟨t,m,s,e⟩
 ·exact(eQ a.symm).elim
 ·exact(eQ a.symm).elim
def kW.jB(T:kW qd F z tl L):FL.Net L:=by
 have key:∀u v,rK qd F z tl u v->u≠v/\¬rK qd F z tl v u:=λu v h=>by
  obtain ⟨t,m,rfl,rfl⟩|⟨t,m,s,rfl,rfl⟩|⟨t,m,q,rfl,rfl⟩|⟨t,m,i,j,l,rfl,rfl⟩:=h
  ·refine⟨λe=>oW e,λh=>?_⟩
   obtain⟨a,_,g,⟨e,_⟩|⟨b,_,l,e⟩⟩:=h.qO
   ·exact fJ e
   ·have:=(kR l).2
    rw[g,<-lK e]at this;lia
  ·exact⟨λe=>fJ e.symm,λh=>h.xY⟩
  ·exact⟨λe=>eQ e,λh=>h.Mz⟩
  ·refine⟨λe=>oW e.symm,λh=>?_⟩
   have:=(kR l).2;have e:=qT h.pZ.1;grind
 exact⟨T.nd,λl f=>(key _ _<|(T.mem _ _).mp f).1,λl f h=>(key _ _<|(T.mem _ _).mp f).2<|(T.mem _ _).mp h⟩
def kW.Nj(T:kW qd F z tl L)(m:t∈tl):(ee t.1,eY t.1)∈L:=(T.mem _ _).mpr<|.inl ⟨t,m,rfl,rfl⟩
def kW.CJ(T:kW qd F z tl L)(W:FL.Flow L fh f sP eP n)(m:(ee k,eY k)∈L):f (ee k,eY k)<=1:=by
 have:=W.hi _ m
 rwa [zN]at this
def kW.into(T:kW qd F z tl L)(W:FL.Flow L fh f sP eP n)(m:(u,ee k)∈L):(ee k,eY k)∈L/\f (u,ee k)<=f (ee k,eY k):=by
 obtain⟨t,i,e,_⟩:=((T.mem _ _).mp m).EY;have g:=T.Nj i;rw[e]at g;exact⟨g,W.into T.nd m g rfl (λe=>fJ e) (λe=>fJ e) λq h e=>by
  obtain⟨a,b⟩:=q;have e:=e;subst e;rw[((T.mem _ _).mp h).pZ.1]⟩
def kW.wV(T:kW qd F z tl L)(W:FL.Flow L fh f sP eP n)(m:(eY k,v)∈L):(ee k,eY k)∈L/\f (eY k,v)<=f (ee k,eY k):=by
 obtain⟨t,i,e,_⟩:=((T.mem _ _).mp m).qO;have g:=T.Nj i;rw[e]at g;exact⟨g,W.wV T.nd m g rfl (λe=>eQ e) (λe=>eQ e) λq h e=>by
  obtain⟨a,b⟩:=q;have e:=e;subst e;rw[((T.mem _ _).mp h).JK]⟩
def kW.low(T:kW qd F z tl L)(W:FL.Flow L fh f sP eP n)(m:(u,v)∈L):f (u,v)<=1/\(fh (u,v)=2\/∃k,u=ee k/\v=eY k):=by
 obtain ⟨t,a,rfl,rfl⟩|⟨t,a,s,rfl,rfl⟩|⟨t,a,q,rfl,rfl⟩|⟨t,a,g,e,l,rfl,rfl⟩:=(T.mem _ _).mp m
 ·exact⟨T.CJ W m,.inr ⟨_,rfl,rfl⟩⟩
 ·have h:=T.into W m
  have:=T.CJ W h.1;exact⟨by have:=h.2;lia,.inl rfl⟩
 ·have h:=T.wV W m
  have:=T.CJ W h.1;exact⟨by have:=h.2;lia,.inl vh⟩
 ·have h:=T.wV W m
  have:=T.CJ W h.1;exact⟨by have:=h.2;lia,.inl vh⟩
theorem v8{β:Type} [DecidableEq β]{g:β->Int}{x y:β}:∀{M:Yb β},(∀l∈M,0<=g l)->x∈M->y∈M->x≠y->g x+g y<=(M.map g).sum
 |[],_,h,_,_=>nomatch h
 |a::r,p,hx,hy,ne=>by
  rw[SV,UG];have q:=p a<|.head _;have f:=λl n=>p l<|.tail _ n;obtain j|i:=SS.mp hx
  ·subst j
   have:=FL.qF f<|(SS.mp hy).resolve_left λe=>ne e.symm;lia
  ·obtain o|m:=SS.mp hy
   ·subst o
    have:=FL.qF f i;lia
   ·have:=v8 f i m ne
    lia
def kW.AD(T:kW qd F z tl L)(W:FL.Flow L fh f sP eP n){v i:Pl}(m:(eY k,v)∈L)(r:(eY k,i)∈L)(p:0<f (eY k,v))(y:0<f (eY k,i)):v=i:=by
 apply TC;intro j;obtain⟨g,_⟩:=T.wV W m;have l:=FL.lR L f<|eY k;rw[W.no _ (λe=>eQ e) λe=>eQ e]at l;have s:FL.Jq L f (eY k)<=f (ee k,eY k):=by
  have:=FL.ja (f:=λq:Pl×Pl=>FL.ind (q.2=eY k)<|f q) T.nd (FL.hZ<|W.lo _ g) λq h j=>FL.dh λw=>j (by
   obtain⟨a,b⟩:=q;have w:=w;subst w;rw[((T.mem _ _).mp h).JK])
  rwa [FL.di rfl]at this
 have o:=v8 (g:=λq:Pl×Pl=>FL.ind (q.1=eY k)<|f q) (λq h=>FL.hZ<|W.lo q h) m r λe=>j (U8 e).2;rw[FL.di rfl,FL.di rfl]at o;have x:_=FL.r6 L f (eY k):=rfl;have:=T.CJ W g;unfold FL.r6 at l;lia
def kW.yS(T:kW qd F z tl L)(W:FL.Flow L fh f sP eP n){u j:Pl}(m:(u,ee k)∈L)(o:(j,ee k)∈L)(p:0<f (u,ee k))(v:0<f (j,ee k)):u=j:=by
 apply TC;intro i;obtain⟨g,_⟩:=T.into W m;have l:=FL.lR L f<|ee k;rw[W.no _ (λe=>fJ e) λe=>fJ e]at l;have s:FL.r6 L f (ee k)<=f (ee k,eY k):=by
  have:=FL.ja (f:=λq:Pl×Pl=>FL.ind (q.1=ee k)<|f q) T.nd (FL.hZ<|W.lo _ g) λq h i=>FL.dh λw=>i (by
   obtain⟨a,b⟩:=q;have w:=w;subst w;rw[((T.mem _ _).mp h).pZ.1])
  rwa [FL.di rfl]at this
 have r:=v8 (g:=λq:Pl×Pl=>FL.ind (q.2=ee k)<|f q) (λq h=>FL.hZ<|W.lo q h) m o λe=>i (U8 e).1;rw[FL.di rfl,FL.di rfl]at r;have:=T.CJ W g;unfold FL.Jq at l;lia
structure wR(qd:Yb QD)(F:FH)(z:Yc)(tl:Yb TK)(S:Yb Pl):Prop where
 nd:S.Nodup
 s:sP∈S
 e:eP ∉ S
 Nj:∀u v,rK qd F z tl u v->u∈S->v ∉ S->∃k,u=ee k/\v=eY k
noncomputable instance decP (x:Pl)(S:Yb Pl):Decidable (x∈S):=Classical.propDecidable _
noncomputable def dX (S:Yb Pl)(N:Nat):Yb Nat:=(List.range N).filter λk=>decide (ee k∈S/\eY k ∉ S)
theorem kB{β:Type}(p:β->Prop) [DecidablePred p]:∀M:Yb β,(M.map λl=>if p l then(1:Int) else 0).sum=((M.filter λl=>decide<|p l).length:Int)
 |[]=>rfl
 |a::r=>by
  rw[SV,UG,kB p r,TV];by_cases h:p a
  ·grind
  ·grind
def qj(T:kW qd F z tl L)(C:wR qd F z tl S)(i:∀t∈tl,t.1<N)(m:l∈L)(h:l.1∈S/\l.2 ∉ S):fh l=1/\∃k∈dX S N,l=(ee k,eY k):=by
 obtain⟨u,v⟩:=l;have f:=(T.mem _ _).mp m;obtain⟨k,a,e⟩:=C.Nj u v f h.1 h.2;have a:=a;have e:=e;subst a e;obtain⟨_,t,g,j⟩:=f.pZ;refine⟨zN,k,Su.mpr ⟨TU.mpr<|by grind,dT0 h⟩,rfl⟩
def tV(T:kW qd F z tl L)(C:wR qd F z tl S)(f:∀t∈tl,t.1<N):(L.filter λl=>decide<|l.1∈S/\l.2 ∉ S).length<=(dX S N).length:=by
 have:=lN (ys:=(dX S N).map λk=>(ee k,eY k)) (U6 Vt T.nd) λl a=>by
  obtain⟨m,h⟩:=Su.mp a;obtain⟨_,k,mk,e⟩:=qj T C f m<|Sj h;grind
 grind
def kW.F9(T:kW qd F z tl L)(W:FL.Flow L fh f sP eP n)(C:wR qd F z tl S)(i:∀t∈tl,t.1<N):n<=((dX S N).length:Int):=by
 have v:n=(L.map λl=>FL.ind (l.1∈S) (f l)-FL.ind (l.2∈S) (f l)).sum:=by
  have j:=FL.uQ L f C.nd;rw[FL.AI C.nd C.s W.ns λx r o=>W.no x o λq=>C.e<|by rw[<-q];exact r]at j;rw[j];grind
 have m:(L.map λl=>FL.ind (l.1∈S) (f l)-FL.ind (l.2∈S) (f l)).sum<=(L.map λl=>if l.1∈S/\l.2 ∉ S then(1:Int) else 0).sum:=FL.l9 λl g=>by
  by_cases a:l.1∈S
  ·by_cases b:l.2∈S
   ·grind
   ·rw[FL.di a,FL.dh b,Sb ⟨a,b⟩]
    have:=W.hi l g;rw[(qj T C i g ⟨a,b⟩).1]at this;lia
  ·rw[FL.dh a,R7 λh=>a h.1]
   have:=FL.hZ (p:=l.2∈S)<|W.lo l g;lia
 rw[kB]at m;have w:=tV T C i;lia
def kW.cut(T:kW qd F z tl L)(W:FL.Flow L fh (FL.fl R) sP eP n)(j:FL.gT L fh R)(nd:S.Nodup)(s:sP∈S)(he:eP ∉ S)(cl:∀u∈S,∀v n,jW L R u v=some n->0<n->v∈S)(w:∀t∈tl,t.1<N)(sub:∀x∈S,x=sP\/∃u n,jW L R u x=some n):wR qd F z tl S/\n=((dX S N).length:Int):=by
 have y:∀l∈L,l.1∈S->l.2 ∉ S->R l.1 l.2=0:=λl f a b=>by
  apply TC;intro o;have:=j.on l f;exact b (cl _ a l.2 _ (Sb<|.inl f)<|by lia)
 have C:wR qd F z tl S:=⟨nd,s,he,λu v A a b=>by
  have m:=(T.mem _ _).mpr A;obtain⟨J,i⟩:=T.low W m;obtain i|i:=i
  ·have I:=j.all _ m
   have E:=y _ m a b;have M:FL.fl R (u,v)=R v u:=rfl;grind
  ·exact i⟩
 refine⟨C,?_⟩;have H:=FL.cut W nd s he (λl f a b=>by
  have I:=j.all l f;have E:=y l f a b;show R l.2 l.1=fh l;lia) λl f a b=>by
  apply TC;intro o;have:0<=R l.2 l.1:=j.off l f;have o:¬R l.2 l.1=0:=o;exact a (cl _ b l.1 (R l.2 l.1) (Sb<|.inr f)<|by lia)
 have e:n=(L.map λl=>if l.1∈S/\l.2 ∉ S then(1:Int) else 0).sum:=by
  rw[<-H];refine FL.eK λl f=>?_;by_cases h:l.1∈S/\l.2 ∉ S
  ·rw[Sb h,Sb h,(qj T C w f h).1]
  ·grind
 rw[kB]at e;have K:=tV T C w;have D:=lN (xs:=(dX S N).map λk=>(ee k,eY k)) (ys:=L.filter λl=>decide<|l.1∈S/\l.2 ∉ S) (by
  refine WL.mpr<|List.Pairwise.imp (λh e=>h<|lK (U8 e).1)<|show(dX S N).Nodup from U6 Vt List.nodup_range) λl f=>by
  obtain⟨k,mk,rfl⟩:=SQ.mp f;have p:=Sj (Su.mp mk).2;refine Su.mpr ⟨?_,dT0 p⟩;obtain e|⟨u,n,g⟩:=sub _ p.1
  ·exact(fJ e).elim
  ·have G:Ab L u (ee k):=by
    apply TC;intro q;unfold jW at g;grind
   have B:∃t∈tl,t.1=k:=by
    obtain h|h:=G
    ·obtain⟨t,r,e,_⟩:=((T.mem _ _).mp h).EY
     grind
    ·exact((T.mem _ _).mp h).pZ.2
   obtain⟨t,r,rfl⟩:=B;exact T.Nj r
 rw[R5]at D;lia
end
def zw(a:Yb QD)(F:FH)(z:Yc)(e:Yb TK)(N n:Nat):Prop:=(∃L f,kW a F z e L/\FL.Flow L fh f sP eP (n:Int))/\∃S,wR a F z e S/\(dX S N).length=n
def zw.one(g:∀t∈tl,t.1<N)(a:zw qd F z tl N n)(b:zw qd F z tl N m):n=m:=by
 obtain⟨⟨L,f,T,W⟩,S,C,e⟩:=a;obtain⟨⟨r,q,i,j⟩,l,h,s⟩:=b;have p:=T.F9 W h g;have o:=i.F9 j C g;lia
def sv(L:Yb (Pl×Pl))(f:Pl×Pl->Int)(u v:Pl):Prop:=(u,v)∈L/\0<f (u,v)
inductive Way(U:Pl->Pl->Prop):Nat->Yb Nat->Prop
 |fin {k:Nat}(a:U (ee k) (eY k))(b:U (eY k) eP):Way U k [k]
 |led {k e:Nat}{f:Yb Nat}(a:U (ee k) (eY k))(b:U (eY k) (ee e))(r:Way U e f):Way U k (k::f)
theorem u6{α:Type}{p q:α->Bool}{x:α}:∀{l:Yb α},(∀y∈l,p y=true->q y=true)->x∈l->q x=true->p x=false->(l.filter p).length<(l.filter q).length
 |[],_,h,_,_=>nomatch h
 |a::r,h,m,hq,hp=>by
  have le:∀{l:Yb α},(∀y∈l,p y=true->q y=true)->(l.filter p).length<=(l.filter q).length:=λ{l} h=>by
   induction l with
   |nil=>grind
   |cons b s g=>grind
  rw[TV,TV];obtain e|m:=SS.mp m
  ·grind
  ·have:=u6 (λy f=>h y<|.tail _ f) m hq hp
   grind
section
variable {qd:Yb QD}{F:FH}{z:Yc}{tl:Yb TK}{L:Yb (Pl×Pl)}{f:Pl×Pl->Int}{n:Int}
def Ll(T:kW qd F z tl L)(W:FL.Flow L fh f sP eP n):∀(m k:Nat),(tl.filter λt=>decide<|cN qd k<cN qd t.1).length<=m->sv L f (ee k) (eY k)->∃x,Way (sv L f) k x:=λm=>by
 induction m with
 |zero=>
  intro k C u;obtain⟨⟨a,v⟩,j,e,o⟩:=W.on u.1 u.2 (λe=>eQ e) λe=>eQ e;have e:=e;subst e;obtain⟨t,B,A,⟨rfl,_⟩|⟨r,i,l,rfl⟩⟩:=((T.mem _ _).mp j).qO
  ·exact⟨[k],.fin u ⟨j,o⟩⟩
  ·exfalso
   have s:=(kR l).2;rw[A]at s;have:r∈tl.filter λt=>decide (cN qd k<cN qd t.1):=Su.mpr ⟨i,dT0 s⟩;grind
 |succ m D=>
  intro k C u;obtain⟨⟨a,v⟩,j,e,o⟩:=W.on u.1 u.2 (λe=>eQ e) λe=>eQ e;have e:=e;subst e;obtain⟨t,B,A,⟨rfl,_⟩|⟨r,i,l,rfl⟩⟩:=((T.mem _ _).mp j).qO
  ·exact⟨[k],.fin u ⟨j,o⟩⟩
  ·have s:=(kR l).2
   rw[A]at s;have lt:=u6 (p:=λt:TK=>decide<|cN qd r.1<cN qd t.1) (q:=λt:TK=>decide<|cN qd k<cN qd t.1) (λy _ h=>dT0<|by grind) i (dT0 s) (Se<|by lia);have g:=T.into W j;obtain⟨x,w⟩:=D r.1 (by lia) ⟨g.1,by have:=g.2;have o:0<f (eY k,ee r.1):=o;lia⟩;exact⟨k::x,.led u ⟨j,o⟩ w⟩
def Way.first{U:Pl->Pl->Prop}{k:Nat}{e:Yb Nat}(w:Way U k e):e[0]? =some k/\∀(i a b:Nat),e[i]? =some a->e[i+1]? =some b->U (eY a) (ee b):=by
 induction w with
 |fin a b=>exact⟨rfl,λi a b _ h=>by cases i<;>cases h⟩
 | @led k k' e a b r ih=>
  refine⟨rfl,λi x y g f=>?_⟩;cases i with
  |zero=>
   have f:e[0]? =some y:=f;rw[ih.1]at f;cases f;cases g;exact b
  |succ i=>exact ih.2 i x y g f
def Cc(T:kW qd F z tl L)(W:FL.Flow L fh f sP eP n){k1 k2:Nat}{r o:Yb Nat}(x:Way (sv L f) k1 r)(s:Way (sv L f) k2 o)(s1:sv L f sP (ee k1))(s2:sv L f sP (ee k2)):∀(p q j:Nat),r[p]? =some j->o[q]? =some j->k1=k2:=λp=>by
 have l:∀{y:Yb Nat}{i j:Nat},y[i+1]? =some j->∃a,y[i]? =some a:=λh=>⟨_,RY<|by grind⟩
 induction p with
 |zero=>
  intro q j m g;rw[x.first.1]at m;cases m;cases q with
  |zero=>
   rw[s.first.1]at g;cases g;rfl
  |succ q=>
   obtain⟨a,w⟩:=l g;have u:=s.first.2 q a k1 w g;exact absurd (T.yS W s1.1 u.1 s1.2 u.2).symm λe=>eQ e
 |succ p B=>
  intro q j m g;obtain⟨a,w⟩:=l m;have u:=x.first.2 p a j w m;cases q with
  |zero=>
   rw[s.first.1]at g;cases g;exact absurd (T.yS W u.1 s2.1 u.2 s2.2) λe=>eQ e
  |succ q=>
   obtain⟨b,A⟩:=l g;have v:=s.first.2 q b j A g;have e:=qT<|T.yS W u.1 v.1 u.2 v.2;grind
def Way.rise(T:kW qd F z tl L){k:Nat}{i:Yb Nat}(w:Way (sv L f) k i):(∀j∈i,(∃t∈tl,t.1=j)/\(j=k\/cN qd k<cN qd j))/\i.Nodup:=by
 induction w with
 | @fin k a b=>exact⟨λj g=>by rw[Sd.mp g];exact⟨((T.mem _ _).mp a.1).pZ.2,.inl rfl⟩,UB _ _⟩
 | @led k k' i a b r ih=>
  obtain⟨t,o,m,⟨e,_⟩|⟨p,n,l,e⟩⟩:=((T.mem _ _).mp b.1).qO
  ·exact(fJ e).elim
  have lt:=(kR l).2;rw[m,<-lK e]at lt;have up:∀j∈i,cN qd k<cN qd j:=λj g=>by
   obtain h|h:=(ih.1 j g).2
   ·rw[h]
    exact lt
   ·lia
  refine⟨λj g=>?_,Uz.mpr ⟨λh=>?_,ih.2⟩⟩
  ·obtain rfl|g:=SS.mp g
   ·exact⟨⟨t,o,m⟩,.inl rfl⟩
   ·exact⟨(ih.1 j g).1,.inr<|up j g⟩
  ·have:=up k h
   lia
end
def Ia(m:t∈fF 0 (fH qd))(l:t'∈fF 0 (fH qd))(e:t'.1=t.1):t'.2.2=t.2.1\/t'.2.2=t.2.2:=by
 obtain⟨j,d,i,o,f⟩:=mz m;obtain⟨h,p,g,n,a⟩:=mz l;have:h=j:=by lia
 subst this;rw[i]at g;cases g;rcases f with f|f<;>rcases a with a|a<;>rw[f,a]
 ·grind
 ·grind
 ·grind
 ·grind
def mY(a:Yb Nat)(d:ED):Bool:=match d.2.2 with
 |.saw _=>true
 |.hrd k _=>decide<|k∈a
def BS{m:Yb QD}{F:FH}{z:Yc}{s:Yb TK}{L:Yb (Pl×Pl)}{f:Pl×Pl->Int}{E:Yb ED}{B:Yb Nat}{Fk:FH}{h:Int}(T:kW m F z s L)(P:GF (E.filter<|mY B) Fk)(I:∀t∈s,IF m t∈E)(p:∀t∈s,t∈fF 0 (fH m)/\cN m t.1<=h){k:Nat}{y:Yb Nat}(w:Way (sv L f) k y):
  (∀j∈y,j∈B)->∀t∈s,t.1=k->(∃a,Fk t.2.1=some a/\a<cN m k)->∃b,Fk z=some b/\b<=h:=by
 have both:∀(k:Nat) (t:TK),k∈B->t∈s->t.1=k->(∃a,Fk t.2.1=some a/\a<cN m k)->∀o∈s,o.1=k->∃b,Fk o.2.2=some b/\b<=cN m k:=λk t mk q v ⟨a,G,M⟩ o i g=>by
  subst v;have R:=P (IF m t) (Su.mpr ⟨I t q,dT0 mk⟩) (by
   show(match Fk t.2.1 with|none=>false|some a=>decide<|a<cN m t.1)=true;rw[G];exact dT0 M)
  obtain e|e:=Ia (p t q).1 (p o i).1 g
  ·rw[e]
   exact⟨a,G,by lia⟩
  ·obtain⟨b,H,N⟩:=R
   rw[e];exact⟨b,N,H⟩
 induction w with
 | @fin k a b=>
  intro n t q v A;obtain⟨o,i,g,⟨_,K⟩|⟨_,_,_,e⟩⟩:=((T.mem _ _).mp b.1).qO
  ·obtain⟨c,x,J⟩:=both k t (n k<|.head _) q v A o i g
   rw[K]at x;have:=(p t q).2;rw[v]at this;exact⟨c,x,by lia⟩
  ·exact(fJ e.symm).elim
 | @led k k' y a b r ih=>
  intro n t q v A;obtain⟨o,i,g,⟨e,_⟩|⟨u,O,l,e⟩⟩:=((T.mem _ _).mp b.1).qO
  ·exact(fJ e).elim
  ·obtain⟨c,x,J⟩:=both k t (n k<|.head _) q v A o i g
   have D:=kR l;rw[D.1]at x;have lt:=D.2;have C:=lK e;rw[g,<-C]at lt;exact ih (λj Q=>n j<|.tail _ Q) u O C.symm ⟨c,x,by lia⟩
theorem ow:∀(l:Yb GD) (f:FH),(∀p j,l.foldl fV f p=some j->f p=some j\/∃g∈l,g.1=p/\g.2=j)/\(∀p i,f p=some i->∃j,l.foldl fV f p=some j/\j<=i)/\∀g∈l,∃j,l.foldl fV f g.1=some j/\j<=g.2
 |[],f=>⟨λp j h=>.inl h,λp i h=>⟨i,h,VX _⟩,λg h=>nomatch h⟩
 |a::r,f=>by
  obtain⟨w,s,y⟩:=ow r<|fV f a;have z:∃m,fV f a a.1=some m/\m<=a.2/\(m=a.2\/f a.1=some m)/\∀i,f a.1=some i->m<=i:=by
   unfold fV;rw[Sb rfl];cases E:f a.1 with
   |none=>grind
   |some j=>grind
  have D:∀p,p≠a.1->fV f a p=f p:=λp h=>R7 h;obtain⟨m,v,B,C,A⟩:=z;refine⟨λp j h=>?_,λp i h=>?_,λg o=>?_⟩
  ·obtain h|⟨g,F,e⟩:=w p j h
   ·grind
   ·grind
  ·by_cases q:p=a.1
   ·obtain⟨j,n,x⟩:=s p m (by rw[q];exact v)
    rw[q]at h;have:=A i h;exact⟨j,n,by lia⟩
   ·simp_all
  ·obtain rfl|o:=SS.mp o
   ·obtain⟨j,n,x⟩:=s _ m v
    exact⟨j,n,by lia⟩
   ·exact y g o
def Gz(m:d∈JP sg qd sd)(e:d.2.2=.saw i):∃g∈sg.filter (cR sd),d.1=g.1/\d.2.1=g.2:=by
 unfold JP at m;obtain m|m:=Sz.mp m
 ·obtain⟨j,h,rfl⟩:=SQ.mp m
  obtain⟨n,a⟩:=Su.mp h;have l:=TU.mp n;have f:sg[j]? =some sg[j]:=RY l;rw[rp f]at a;refine⟨sg[j],Su.mpr ⟨UN _,a⟩,?_⟩;unfold Hg;rw[f];grind
 ·obtain⟨t,_,rfl⟩:=SQ.mp m
  cases e
def IM(m:g∈sg.filter (cR sd)):∃i,(g.1,g.2,EW.saw i)∈JP sg qd sd:=by
 obtain⟨f,e⟩:=Su.mp m;obtain⟨j,a⟩:=So f;refine⟨j,SM _<|SQ.mpr ⟨j,Su.mpr ⟨TU.mpr (gI0.mp a).1,by rw[rp a];exact e⟩,?_⟩⟩;unfold Hg;rw[a]
def IU{h:Yb GD}{a:Yb QD}{sd:Yb SD}{d:ED}{k:Nat}{f:Yc}(m:d∈JP h a sd)(e:d.2.2=.hrd k f):(k,f,d.1)∈(fF 0<|fH a).filter (dj a sd)/\d.2.1=cN a k:=by
 unfold JP at m;obtain m|m:=Sz.mp m
 ·obtain⟨j,i,rfl⟩:=SQ.mp m
  unfold Hg at e;split at e<;>cases e
 ·obtain⟨t,g,rfl⟩:=SQ.mp m
  cases e;exact⟨g,rfl⟩
def IP{f:Pl×Pl->Int}(T:kW qd (c4<|sg.filter<|cR sd) z tl L)(n:GF ((JP sg qd sd).filter<|mY ks) Fk)(a:∀t∈tl,t∈(fF 0<|fH qd).filter (dj qd sd)/\cN qd t.1<=h)(w:Way (sv L f) k ks)(u:sv L f sP (ee k)):∃b,Fk z=some b/\b<=h:=by
 obtain⟨t,l,o,⟨_,s⟩|⟨_,_,_,e⟩⟩:=((T.mem _ _).mp u.1).EY
 ·refine BS T n (λt l=>Sg _<|SQ.mpr ⟨t,(a t l).1,rfl⟩) (λt l=>⟨(Su.mp (a t l).1).1,(a t l).2⟩) w (λ_ h=>h) t l o ?_
  unfold gK at s;cases m:c4 (sg.filter<|cR sd) t.2.1 with
  |none=>grind
  |some j=>
   rw[m]at s;have lt:=Sj s;obtain h|⟨g,q,y,v⟩:=(ow (sg.filter<|cR sd) λ_=>none).1 t.2.1 j m
   ·cases h
   ·obtain⟨i,p⟩:=IM q
    obtain⟨b,r,x⟩:=n _ (Su.mpr ⟨p,rfl⟩) rfl;grind
 ·exact(eQ e.symm).elim
inductive Tr(a:Yb QD)(f:Yb TK)(g:Yb Nat)(z:Yc)(h:Int):Yb TK->Yc->Int->Prop
 |nil {b:Int}(l:b<=h):Tr a f g z h [] z b
 |cons {t:TK}{j:Yb TK}{p:Yc}{b i:Int}(r:Tr a f g z h j p b)(e:t.2.2=p)(n:cN a t.1=b)(m:t∈f)(mk:t.1∈g)(lt:i<b):Tr a f g z h (t::j) t.2.1 i
section
variable {qd:Yb QD}{ot:Yb TK}{ks:Yb Nat}{z:Yc}{h:Int}{rv:Yb TK}{p:Yc}{b:Int}
def Tr.all(r:Tr qd ot ks z h rv p b):∀t∈rv,t∈ot/\t.1∈ks/\b<cN qd t.1:=by
 induction r with
 |nil l=>grind
 |cons r e f m mk lt a=>grind
def Tr.nd(r:Tr qd ot ks z h rv p b):(rv.map (·.1)).Nodup:=by
 induction r with
 |nil l=>grind
 | @cons t rv p b b' r e eh m mk lt ih=>
  rw[SV];refine Uz.mpr ⟨λa=>?_,ih⟩;obtain⟨u,f,g⟩:=SQ.mp a;have:=(r.all u f).2.2;grind
def Tr.last(r:Tr qd ot ks z h rv p b):rv≠[]->∃l,rv.getLast? =some l/\l.2.2=z/\cN qd l.1<=h:=by
 induction r with
 |nil l=>exact λn=>absurd rfl n
 | @cons t rv p b b' r e eh m mk lt ih=>
  intro _;cases r with
  |nil l=>exact⟨t,rfl,e,by lia⟩
  |cons j o i q mk' a=>
   obtain⟨l,g,f⟩:=ih (by simp);exact⟨l,by rw[List.getLast?_cons_cons];exact g,f⟩
def Tr.chain(r:Tr qd ot ks z h rv p b):∀(i:Nat) x y,rv[i]? =some x->rv[i+1]? =some y->dO qd x y=true:=by
 induction r with
 |nil l=>exact λi x y a=>by cases a
 | @cons t rv p b b' r e eh m mk lt ih=>
  intro i x y a f;cases i with
  |zero=>
   cases a;cases r with
   |nil l=>cases f
   |cons n o j q mk' g=>
    cases f;unfold dO;rw[dT0 e,dT0 (by lia:cN qd t.1<cN qd y.1)];rfl
  |succ i=>exact ih i x y a f
def Tr.line{F:FH}{j:Int}(r:Tr qd ot ks z h rv p b)(q:∀j,F z=some j->h<j)(s:F p=some j)(l:j<=b):pX F qd ot rv z h=true:=by
 cases r with
 |nil D=>
  have:=q j s;lia
 | @cons t rv p b0 b' r e eh m mk lt=>
  have a:Tr qd ot ks z h (t::rv) t.2.1 b:=.cons r e eh m mk lt;obtain⟨n,y,v,B⟩:=a.last (by simp);unfold pX;rw[y];show(((t::rv).all λt=>decide<|t∈ot)&&(gK F t.2.1 (cN qd t.1)&&(jY qd (t::rv)&&(decide (n.2.2=z)&&decide (cN qd n.1<=h)))))=true;have w:((t::rv).all λt=>decide<|t∈ot)=true:=Tv.mpr λu A=>dT0 (a.all u A).1;have x:gK F t.2.1 (cN qd t.1)=true:=by
   unfold gK;rw[s];exact dT0 (by lia)
  have C:jY qd (t::rv)=true:=by
   unfold jY;refine Tv.mpr λi g=>?_;have g:=TU.mp g;have f:(t::rv)[i]? =some ((t::rv)[i]'(by lia)):=RY _;have o:(t::rv)[i+1]? =some ((t::rv)[i+1]'(by lia)):=RY _;rw[f,o];exact a.chain i _ _ f o
  rw[w,x,C,dT0 v,dT0 B];rfl
end
def zx(P:X6)(w:X7)(H:Hp)(d:X4)(M:Yb (Pl×Pl)):Prop:=∃a,H d=some (.ext<|Dφ (mR P w) d a)/\DD (mR P w) H d a/\a.length<=M.length/\(∀e∈a,∃l:Pl×Pl,e.1=[l.1,l.2]/\e.2.2=.int (fh l))/\∀u v,[u,v]∈a.map (·.1)↔(u,v)∈M
def Du [DecidableEq κ]{y v:V}{e:κ×V×V}(h:e∈fG Yj x y v):e∈Yj\/(e.1=x/\e.2.2=v):=by
 unfold fG at h;split at h
 ·grind
 ·grind
def LZ{y:V}{n:Int}{Q:Hp->Prop}(li:zx P w H d M)(r:Pt H [u,v] y)(e:n=fh (u,v))(l:M.length+2<sizeLine)(q:∀H',(∀b,b≠d->H' b=H b)->zx P w H' d (M++[(u,v)])->Q H'):xj (mR P w) (.ref d) y (.int n) H Q:=by
 obtain⟨g,f,i,A,p,s⟩:=li;refine⟨d,g,[u,v],rfl,i,f,r,q _ (λb o=>cI o) ⟨_,cG,i.put f r<|by lia,?_,λm j=>?_,λa b=>?_⟩⟩
 ·rw[R3]
  have:=mV g [u,v] y<|.int n;show _<=M.length+1;lia
 ·obtain h|⟨z,x⟩:=Du j
  ·exact p m h
  ·grind
 ·rw[<-iX,vR,Sz,Sd,<-s,<-iX]
  by_cases h:[a,b]=[u,v]
  ·grind
  ·grind
def zx.keep(li:zx P w H d M)(s:cJ H H'):zx P w H' d M:=let ⟨f,a,e,r⟩:=li;⟨f,s _ _ a,e.same s,r⟩
def zx.there(li:zx P w H d M):∃φ,H d=some (.ext φ):=let ⟨_,a,_⟩:=li;⟨_,a⟩
def zx.link(li:zx P w H d M):∃L,fX P w H d L fh/\L.Nodup/\L.length<=M.length/\∀u v,(u,v)∈L↔(u,v)∈M:=by
 obtain⟨a,s,g,y,m,x⟩:=li;have i:∀a:Yb (Yb Pl×V×V),(∀e∈a,∃l:Pl×Pl,e.1=[l.1,l.2]/\e.2.2=.int (fh l))->∃L:Yb (Pl×Pl),a.map (λe=>(e.1,e.2.2))=L.map λl=>([l.1,l.2],V.int<|fh l):=λa=>by
  induction a with
  |nil=>simp_all
  |cons e r p=>
   intro h;obtain⟨L,f⟩:=p λe o=>h e<|.tail _ o;obtain⟨l,n,j⟩:=h e<|.head _;exact⟨l::L,by rw[SV,SV,f,n,j]⟩
 obtain⟨L,f⟩:=i a m;have q:a.map (·.1)=L.map λl=>[l.1,l.2]:=by
  have:=SY (List.map Prod.fst) f
  rwa [Ut,Ut]at this
 refine⟨L,⟨a,g,f⟩,?_,?_,λu v=>?_⟩
 ·have nd:=g.nd
  grind
 ·have:=SY List.length f
  grind
 ·grind
def rJ(a:Yb QD)(F:FH)(z:Yc)(e:Yb TK)(t:TK):Yb (Pl×Pl):=[(ee t.1,eY t.1)]++(if gK F t.2.1 (cN a t.1)=true then [(sP,ee t.1)] else [])++(if t.2.2=z then [(eY t.1,eP)] else [])++(e.filter<|dO a t).map λu=>(eY t.1,ee u.1)
def IL:(u,v)∈tl.flatMap (rJ qd F z tl)↔rK qd F z tl u v:=by
 rw[WS];unfold rJ;constructor
 ·rintro⟨t,mt,h⟩
  obtain h|h:=Sz.mp h
  ·obtain h|h:=Sz.mp h
   ·obtain h|h:=Sz.mp h
    ·obtain⟨a,f⟩:=U8 (Sd.mp h)
     exact .inl ⟨t,mt,a,f⟩
    ·by_cases q:gK F t.2.1 (cN qd t.1)=true
     ·rw[Sb q]at h
      obtain⟨a,f⟩:=U8<|Sd.mp h;exact .inr<|.inl ⟨t,mt,q,a,f⟩
     ·grind
   ·by_cases q:t.2.2=z
    ·rw[Sb q]at h
     obtain⟨a,f⟩:=U8<|Sd.mp h;exact .inr<|.inr<|.inl ⟨t,mt,q,a,f⟩
    ·grind
  ·obtain⟨j,g,e⟩:=SQ.mp h
   obtain⟨i,l⟩:=Su.mp g;obtain⟨a,f⟩:=U8 e;exact .inr<|.inr<|.inr ⟨t,mt,j,i,l,a.symm,f.symm⟩
 ·rintro(⟨t,mt,rfl,rfl⟩|⟨t,mt,s,rfl,rfl⟩|⟨t,mt,q,rfl,rfl⟩|⟨t,mt,j,i,l,rfl,rfl⟩)
  ·grind
  ·grind
  ·grind
  ·grind
def t8(h:∀t,t∈a↔t∈b)(l:rK qd F z a u v):rK qd F z b u v:=by
 obtain ⟨t,m,e⟩|⟨t,m,e⟩|⟨t,m,e⟩|⟨t,m,f,g,e⟩:=l
 ·exact .inl ⟨t,(h t).mp m,e⟩
 ·exact .inr<|.inl ⟨t,(h t).mp m,e⟩
 ·exact .inr<|.inr<|.inl ⟨t,(h t).mp m,e⟩
 ·exact .inr<|.inr<|.inr ⟨t,(h t).mp m,f,(h f).mp g,e⟩
def ju(a:Yb QD)(sd:Yb SD)(h:Int):Yb TK:=((fF 0<|fH a).filter<|dj a sd).filter λt=>decide<|cN a t.1<=h
inductive Ry(P:X6)(w:X7)(C:X4)(vs:Yb V)(H:Hp)(Q:VK):Prop
 |mk(x p s t y:X4)(ps:Yb Yc)(ss g ys:Yb V)(f:Yb GD)(a:Yb QD)(sd:Yb SD)(z:Yc)(h:Int)(e:vs=[.ref x,.str z,.int h])(bk:Bk C H x p s t y ps ss g ys)(pl:ps.length<=24)(sl:ss.length<=24)(i:g.length<=120)(o:Lz dz H ss f)(n:∀d∈f,d.1∈ps)(q:Lz dD H g a)(j:∀d∈a,lS ps d)(m:Sys H ys sd)(l:ys.length<=60)
   (k:∀d L H',cJ H H'->H d=none->fX P w H' d L fh->kW a (c4 (f.filter (cR sd))) z (ju a sd h) L->L.length<=100000->Q (.ref d) H')
def LS(P:X6)(w:X7)(C:X4):Sp:=λa H Q _=>Ry P w C a H Q
inductive OW(P:X6)(w:X7)(x:X4)(z:Yc)(h:Int)(n l to d:X4)(j:Hp)(g:Yb QD)(F:FH)(a:Yb TK)(i:Nat)(σ:St)(f:Hp):Prop
 |mk(m o q p:X8 V)(e:σ=[some (.ref x),some (.str z),some (.int h),some (.ref n),some (.ref l),some (.ref to),some (.ref d),m,o,q,p])(s:cJ j f)(li:zx P w f d ((a.take i).flatMap (rJ g F z a)))(r:((a.take i).flatMap (rJ g F z a)).length<=400*i)
inductive OS(P:X6)(w:X7)(x:X4)(z:Yc)(h:Int)(o l to d a q g:X4)(m H1:Hp)(i:Yb QD)(n:Yb TK)(t:TK)(M:Yb (Pl×Pl))(j:Nat)(σ:St)(f:Hp):Prop
 |mk(p:X8 V)(e:σ=[some (.ref x),some (.str z),some (.int h),some (.ref o),some (.ref l),some (.ref to),some (.ref d),some (.ref a),some (.ref q),some (.ref g),p])(r:cJ m f)(s:Tk H1 f)(li:zx P w f d (M++((n.take j).filter (dO i t)).map λu=>(eY t.1,ee u.1)))
def QE(H:Hp)(v:V)(t:TK):Prop:=∃a,v=.ref a/\lC H a t
def rZ:cL ["book","person","hour","seen","hours","told","links","telling","into","out","later"] ["book","person","hour"] (cK i7):={}
def O7 (D:Df K mg "talk_links" i7 ["book","person","hour"] f fd) (c5:Gd P w K mg base 5 "seen_hours" (zW C)) (c2:Gd P w K mg base 5 "hours_of_open" (Ju C)) (c7:Gd P w K mg base 1 "saw_ahead_of" EG) (d2:Gd P w K mg base 1 "leads_to" yP):Gd P w K mg base 6 "talk_links" (LS P w C):=by
 refine aJ D rZ λX H vs Q E I h=>?_;obtain⟨x,p,s,t,y,ps,ss,ts,ys,sg,l,sd,z,h,rfl,bk,pl,sl,dn,gs,gp,qs,qk,sy,YB,k⟩:=h;obtain⟨rfl,rfl⟩:=And.intro I.pr I.wd;have hu:=d9 I.room;have a2:=jg I.room;have Yu:=Sq;obtain⟨S0,S1,S2,S3,S4,S5,S6,S7,S8,S9,bf,_⟩:=I.fA [0,1,2,3,4,5,6,7,8,9,10];refine⟨_,(af (aB S3 I.nd<|au (I.eO c5 rfl (by lia)<|by decide)<|ao<|aa S0)
 (af (aB S4 I.nd<|au (I.eO c2 rfl (by lia)<|by decide)<|ao<|aa S0)
 (af (cj (is:=[2,4]) (xs:=["telling"]) (ns:=["hour","hours"]) S5 I.nd I.calm (J.DX<|aa S4) {} (λ_ _ _ _ _=>br (i:=0)) (λ_ _ _ _ _=>bP<|aI bB (aM hu (a5 (i:=2)) (aT (i:=0)) aQ) (a5 (i:=1))<|cM _) (λ_ _ _ _ _=>aT (i:=0)) I.hsc I.hN (by decide+kernel))
 (af (aB S6 I.nd J.Nq)
 (af (bh I.own I.calm (aX<|aa S5) (aR S7 I.nd)
 (af (aB S8 I.nd<|aN<|aE aw<|ah aG (aa S7) ae ak)
 (af (aB S9 I.nd<|aN<|aE aw<|ah aG (aa S7) ae ak)
 (af (J.Af a2 (aa S6) (aN<|aE (aa S8)<|aa S9) ae)
 (af (aK (bo<|au (I.eO c7 rfl (by lia)<|by decide)<|aO (aa S3) (ah aG (aa S7) ae ak)<|aM hu (aa S4) (aa S7) aQ)
 (ag<|J.Af a2 (aa S6) (aN<|aE aw<|aa S8) ae)
 aL)
 (af (aK (aI aS (ah aG (aa S7) ae ak) (aa S1)<|cM _)
 (ag<|J.Af a2 (aa S6) (aN<|aE (aa S9) aw) ae)
 aL)
 (ag (bh I.own I.calm (aX<|aa S5) (aR bf I.nd)
 (ag (aK (bo<|au (I.eO d2 rfl (by lia)<|by decide)<|aO (aa S4) (aa S7)<|aa bf)
 (ag<|J.Af a2 (aa S6) (aN<|aE (aa S9)<|aN<|aE aw<|ah aG (aa bf) ae ak) ae)
 aL))))))))))
 (ag<|aD<|aa S6)))))),?_⟩
 refine⟨_,rfl,x,p,s,t,y,ps,ss,ts,ys,sg,sd,rfl,bk,pl,sl,gs,gp,sy,YB,λse cc H1 s1 ed Y6 sn=>?_⟩;refine⟨_,rfl,x,p,s,t,y,ps,ss,ts,ys,l,sd,rfl,bk.mono s1,pl,dn,qs.mono<|dD.mono<|Tk.of s1,qk,sy.mono<|Tk.of s1,YB,λho O H2 s2 bb da am ei ch=>?_⟩;have ar:=s2 _ _ Y6;have cr:=s1.trans s2;have b2:H ho=none:=s1.free bb;unfold ju at k;generalize hF:c4 (sg.filter<|cR sd)=F at sn k;generalize eh:(fF 0<|fH l).filter (dj l sd)=ot at am ch k;obtain⟨B,ai⟩:∃B:Yb TK,O.map (·.1)=B.map rB/\∀t∈B,t∈ot:=by
  have ex:∀Yj:Yb (Yb Key×V),(∀kv∈Yj,∃t∈ot,kv.1=rB t)->∃B:Yb TK,Yj.map (·.1)=B.map rB/\∀t∈B,t∈ot:=λYj=>by
   induction Yj with
   |nil=>exact λ_=>⟨[],rfl,λt h=>nomatch h⟩
   |cons e r ih=>
    intro h;obtain⟨T,h1,h2⟩:=ih λe he=>h e<|.tail _ he;obtain⟨t,mt,et⟩:=h e<|.head _;exact⟨t::T,by rw[SV,SV,h1,et],λu hu=>(SS.mp hu).elim (λe=>by rw[e];exact mt)<|h2 u⟩
  exact ex O ch
 have ec:O.length=B.length:=by
  have:=SY List.length ai.1
  rwa [R5,R5]at this
 have c3:∀t,t∈B↔t∈ot:=λt=>⟨ai.2 t,λm=>by
  have h1:=am t;rw[Sb m]at h1;have h2:rB t∈O.map (·.1):=by
   apply TC;intro no;have:dY O (rB t)=none:=by
    cases hv:dY O (rB t) with
    |none=>rfl
    |some v=>
     exfalso
     have ha:(O.any λkv=>decide<|kv.1=rB t)=true:=by
      rw[gI,hv];rfl
     obtain⟨kv,d1,e⟩:=V7.mp ha;exact no (SQ.mpr ⟨kv,d1,Sj e⟩)
   rw[this]at h1;cases h1
  rw[ai.1]at h2;obtain⟨u,mu,e⟩:=SQ.mp h2;rw[<-vN e];exact mu⟩
 refine⟨_,rfl,ho,O,rfl,da,λo H3 bm aj=>?_⟩;have cx:cJ H H3:=λb u e=>by
  rw[bm b<|cH e b2];exact cr _ _ e
 have dm:se≠ho:=λe=>by rw[<-e,Y6]at bb;cases bb
 have ap:H3 se=some (.dK cc):=by rw[bm se dm];exact ar
 refine og QE B (λt=>decide<|cN l t.1<=h) (λv d _ _ tk ⟨a,e,ha⟩=>⟨a,e,tk _ _ ha⟩) (by lia) (λi H4 s4 hi=>⟨s4 _ _ aj,by lia⟩) (λH4 s4=>⟨s4 _ _ aj,by lia⟩) ?_ ?_
 ·intro i os v u H4 H5 K1 K2 hu dc s4 yl k1 k2
  obtain⟨e5,kv,b,db,rfl,hb⟩:=yl;subst e5;have ek:kv.1=rB u:=by
   have h1:(O.map (·.1))[i]? =some kv.1:=by rw[Sk,db];rfl
   rw[ai.1,Sk,hu]at h1;exact(Sy h1).symm
  rw[ek]at hb;obtain⟨o1,rfl⟩:=KC dc;have dg:=dP.tr (k:=rB u) (.inr ⟨o,s4 _ _ aj⟩) hb;rw[am u,Sb<|ai.2 u<|R4 hu]at dg;exact⟨⟨[_],rfl,rfl⟩,⟨_,rfl,_,rfl,ho,_,rfl,dg,_,rfl,_,_,rfl,rfl,_,rfl,dJ (λW=>⟨_,rfl,k1 W _ _ (cJ.refl _) ⟨b,rfl,hb⟩⟩) λno=>k2 (Td.mpr no) _<|cJ.refl _⟩⟩
 intro to us H4 ef s4 ax lz;have ab:∀t∈B.filter λt=>decide<|cN l t.1<=h,t∈ot:=λt ht=>ai.2 t (Su.mp ht).1;have bi:∀t,t∈B.filter (λt=>decide<|cN l t.1<=h)↔t∈ot.filter (λt=>decide<|cN l t.1<=h):=λt=>by rw[Su,Su,c3 t]
 have aq:(B.filter λt=>decide<|cN l t.1<=h).length<=240:=SF (Ts _ _) (by lia);generalize B.filter (λt=>decide<|cN l t.1<=h)=U at lz ab bi aq;have ce:=cx.trans s4;have b3:=s4 _ _ ap;have as:=s4 _ _ aj;clear s4 ap aj bm cx ar cr s2 s1;intro d nd dr;have s5:=cJ.upd (o:=.ext<|Dφ (mR X.prog X.w) d []) nd;have bc:upd H4 d (.ext<|Dφ (mR X.prog X.w) d []) d=some (.ext<|Dφ (mR X.prog X.w) d []):=cG;generalize upd H4 d (.ext<|Dφ (mR X.prog X.w) d [])=H5 at s5 bc;have cl:us.length=U.length:=lz.1;refine⟨_,rfl,to,rfl,⟨_,cP.of<|s5 _ _ ax⟩,dw (K:=X.K) (a:=to) (xs:=us) (OW X.prog X.w x z h se ho to d H4 l F U) ⟨none,none,none,none,rfl,s5,⟨[],bc,⟨.inl bc,(λe he=>nomatch he),VD,dr,by show 0<sizeLine;decide⟩,R9 _,(λe he=>nomatch he),λu v=>⟨(λz=>nomatch z),λz=>nomatch z⟩⟩,R9 _⟩ ?_ ?_ ?_⟩
 ·rintro i σ H6 hi ⟨e7,e8,e9,YC,rfl,kp,li,ml⟩
  exact cP.of<|kp _ _ ax
 ·rintro i v σ H6 hv ⟨e7,e8,e9,YC,rfl,kp,li,ml⟩
  have il:=(gI0.mp hv).1;obtain⟨t,ht,a,rfl,ha⟩:=lz.at hv;have mt:=R4 ht;have Zc:(U.take<|i+1).flatMap (rJ l F z U)=(U.take i).flatMap (rJ l F z U)++rJ l F z U t:=by
   rw[SU,ht,Wq];show _++List.flatMap _ [t]=_;rw[List.flatMap_cons,List.flatMap_nil,SH]
  generalize (U.take i).flatMap (rJ l F z U)=M at li ml Zc;have cs:lC H6 a t:=kp _ _ ha;refine⟨_,rfl,xT cs rfl ⟨uk,λia dk=>?_⟩⟩;generalize ea:upd H6 ia _=H7;obtain⟨s7,cf⟩:=nx dk ea;refine⟨_,rfl,xT (s7 _ _ cs) rfl ⟨uk,λoa de=>?_⟩⟩;generalize d0:upd H7 oa _=H8;obtain⟨s8,co⟩:=nx de d0;have b1:=s8 _ _ cf;have c0:=s7.trans s8;have ck:∀{R:Hp},Tk H8 R->iS R (ee t.1) (.ref ia):=λtk=>⟨ia,rfl,tk _ _ b1⟩;have bj:∀{R:Hp},Tk H8 R->iS R (eY t.1) (.ref oa):=λtk=>⟨oa,rfl,tk _ _ co⟩;have cm:=li.keep c0;have dd:=kp.trans c0;clear s7 s8 cf co;have put:∀{Y:Hp}{M':Yb (Pl×Pl)}{u v:Pl}{y:V}{n:Int}{Q':Hp->Prop},cJ H4 Y->Tk H8 Y->zx X.prog X.w Y d M'->Pt Y [u,v] y->n=fh (u,v)->M'.length<=400*240+400->(∀R,cJ H4 R->Tk H8 R->zx X.prog X.w R d (M'++[(u,v)])->Q' R)->xj (mR X.prog X.w) (.ref d) y (.int n) Y Q':=λ{Y M' u v y n Q'} sA tA lA rA eA mA kA=>
   LZ lA rA eA (by lia) λR eb lI=>by
    have dx:∀{b:X4}{o:HO},H4 b=some o->b≠d:=λe=>cH e nd;refine kA R (λb u e=>by rw[eb b<|dx e];exact sA _ _ e) (λb xs e=>?_) lI;rw[eb b λz=>by
     obtain⟨φ,ct⟩:=lA.there;rw[z]at e;rw[tA _ _ e]at ct;cases ct]
    exact tA _ _ e
  have eg:M.length<=400*240:=by lia
  have a0:∀{Y:Hp}{u v:Pl}{yu yv:V}{q:X4},Y q=some (.tup [yu,yv])->iS Y u yu->iS Y v yv->Pt Y [u,v] (.ref q):=λhq pu pv=>⟨_,_,rfl,hq,.cons pu<|.cons pv .nil⟩;refine⟨_,rfl,_,rfl,_,rfl,uk,λq1 cp=>?_⟩;have s9:=cJ.upd (o:=.tup [.ref ia,.ref oa]) cp;have t9:=Tk.of s9;refine put (dd.trans s9) t9 (cm.keep s9) (a0 cG (ck t9)<|bj t9) zN.symm (by lia) λY ad b0 bx=>?_;clear s9 t9 cp cm li;have a9:lC Y a t:=ad _ _ ha;have dg:dP Y ho (.ref a) (some<|.int<|cN l t.1):=by
   have:=dP.tr (k:=rB t) (.inr ⟨o,ad _ _ as⟩) a9;rw[am t,Sb<|ab t mt]at this;exact this
  dsimp only;refine kP (λal R=>al=[some<|.ref x,some<|.str z,some<|.int h,some<|.ref se,some<|.ref ho,some<|.ref to,some<|.ref d,some<|.ref a,some<|.ref ia,some<|.ref oa,YC]/\cJ H4 R/\Tk H8 R/\zx X.prog X.w R d (M++[(ee t.1,eY t.1)]++(if gK F t.2.1 (cN l t.1)=true then [(sP,ee t.1)] else []))) ?_ (gK F t.2.1<|cN l t.1) (λQ' q'=>?_) (λW bv N hR=>?_) λno bv N=>?_
  rotate_left
  ·exact⟨_,rfl,_,rfl,xT a9 rfl ⟨_,rfl,_,rfl,ho,_,rfl,dg,se,cc,F,t.2.1,cN l t.1,rfl,ad _ _ b3,sn,_,rfl,q' _<|cJ.refl _⟩⟩
  ·refine⟨_,rfl,_,rfl,uk,λq2 a3=>?_⟩
   have G:=N.trans<|cJ.upd (o:=.tup [.str "start",.ref ia]) a3;have ay:=b0.trans<|Tk.of G;refine put (ad.trans G) ay (bx.keep G) (a0 cG (show iS _ sP (.str "start") from rfl)<|ck ay) rfl (by rw[R3];show M.length+1<=_;lia) λa1 g S A=>hR _ _ ⟨rfl,g,S,?_⟩;rw[Sb W];exact A
  ·rw[R7<|by rw[no];exact bF0,SH]
   exact⟨rfl,ad.trans N,b0.trans<|Tk.of N,bx.keep N⟩
  rintro al bv ⟨rfl,N,bd,Z⟩;have an:(M++[(ee t.1,eY t.1)]++(if gK F t.2.1 (cN l t.1)=true then [(sP,ee t.1)] else [])).length<=M.length+2:=by grind
  have eM:(U.take<|i+1).flatMap (rJ l F z U)=M++[(ee t.1,eY t.1)]++(if gK F t.2.1 (cN l t.1)=true then [(sP,ee t.1)] else [])++(if t.2.2=z then [(eY t.1,eP)] else [])++(U.filter<|dO l t).map λu=>(eY t.1,ee u.1):=by
   rw[Zc];unfold rJ;simp only[append_assoc]
  clear bx ad b0 a9 dg Zc;generalize M++[(ee t.1,eY t.1)]++(if gK F t.2.1 (cN l t.1)=true then [(sP,ee t.1)] else [])=M2 at Z an eM;have cd:lC bv a t:=N _ _ ha;refine kP (λal R=>al=[some<|.ref x,some<|.str z,some<|.int h,some<|.ref se,some<|.ref ho,some<|.ref to,some<|.ref d,some<|.ref a,some<|.ref ia,some<|.ref oa,YC]/\cJ H4 R/\Tk H8 R/\zx X.prog X.w R d (M2++(if t.2.2=z then [(eY t.1,eP)] else []))) ?_ (decide<|V.str t.2.2=V.str z) (λQ' q'=>?_) (λW ca G hR=>?_) λno ca G=>?_
  rotate_left
  ·exact⟨_,rfl,xT cd rfl ⟨_,rfl,rfl,_,rfl,q' _<|cJ.refl _⟩⟩
  ·have ez:t.2.2=z:=V.str.inj (Sj W)
   refine⟨_,rfl,_,rfl,uk,λq2 a3=>?_⟩;have g:=G.trans<|cJ.upd (o:=.tup [.ref oa,.str "end"]) a3;have S:=bd.trans<|Tk.of g;refine put (N.trans g) S (Z.keep g) (a0 cG (bj S)<|show iS _ eP (.str "end") from rfl) vh.symm (by lia) λd3 be a4 ac=>hR _ _ ⟨rfl,be,a4,?_⟩;rw[Sb ez];exact ac
  ·rw[R7 (λe=>by rw[e,dT0 rfl]at no;cases no),SH]
   exact⟨rfl,N.trans G,bd.trans<|Tk.of G,Z.keep G⟩
  rintro al ca ⟨rfl,G,ay,av⟩;have b4:(M2++(if t.2.2=z then [(eY t.1,eP)] else [])).length<=M.length+3:=by grind
  clear Z N bd cd an;generalize M2++(if t.2.2=z then [(eY t.1,eP)] else [])=M3 at av b4 eM;refine⟨_,rfl,to,rfl,⟨_,cP.of<|G _ _ ax⟩,dw (K:=X.K) (a:=to) (xs:=us) (OS X.prog X.w x z h se ho to d a ia oa H4 H8 l U t M3) ⟨YC,rfl,G,ay,by rw[Vg];exact(SH M3).symm ▸ av⟩ ?_ ?_ ?_⟩
  ·rintro j σ a1 hj ⟨YC,rfl,g,S,A⟩
   exact cP.of<|g _ _ ax
  ·rintro j v σ a1 hv ⟨YC,rfl,g,S,A⟩
   have jl:=(gI0.mp hv).1;obtain⟨u,hu,b,rfl,hb⟩:=lz.at hv;have mu:=R4 hu;have c1:lC a1 b u:=g _ _ hb;have tj:(U.take<|j+1).filter (dO l t)=(U.take j).filter (dO l t)++if dO l t u=true then [u] else []:=by
    rw[SU,hu,T7]
    congr 1
    show List.filter _ [u]=_;rw[TV];rfl
   have lj:((U.take j).filter<|dO l t).length<=240:=SF (Ts _ _) (SF (X2 _ _)<|by lia);refine⟨_,rfl,_,rfl,_,rfl,ho,a,b,O,l,ot,t,u,rfl,.inr ⟨o,g _ _ as⟩,am,g _ _ ha,c1,ab t mt,ab u mu,_,rfl,dJ (λW=>?_) λno=>?_⟩
   ·refine⟨_,rfl,_,rfl,_,rfl,xT c1 rfl ⟨uk,λq3 dl=>⟨uk,λq4 d5=>?_⟩⟩⟩
    have sA:=cJ.upd (o:=.tup [.str "into",.int (u.1:Nat)]) dl;have sB:=cJ.upd (o:=.tup [.ref oa,.ref q3]) d5;have bn:=sA.trans sB;have cg:=S.trans<|Tk.of bn;refine put (g.trans bn) cg (A.keep bn) (a0 cG (bj cg)<|show iS _ (ee u.1) (.ref q3) from ⟨q3,rfl,sB _ _ cG⟩) vh.symm (by grind) λd3 be a4 ac=>⟨_,rfl,be,a4,?_⟩;rw[tj,Sb W,TQ,<-R8];exact ac
   ·refine⟨_,rfl,g,S,?_⟩
    rw[tj,R7 no,SH];exact A
  ·rintro σ a1 ⟨YC,rfl,g,S,A⟩
   rw[cl,Tj]at A;rw[<-eM]at A;refine⟨_,_,_,_,rfl,g,A,?_⟩;have lj:(U.filter<|dO l t).length<=240:=SF (Ts _ _) aq;rw[eM,R3,R5];lia
 ·rintro σ H6 ⟨e7,e8,e9,YC,rfl,kp,li,ml⟩
  rw[cl,Tj]at li ml;obtain⟨L,hL,nL,lL,mL⟩:=li.link;exact⟨_,rfl,k d L H6 (ce.trans kp) (ce.free nd) hL ⟨nL,λu v=>(mL u v).trans<|IL.trans ⟨t8 bi,t8 λt=>(bi t).symm⟩⟩<|by lia⟩
def nums(a:Yb Nat):Yb V:=a.map λk=>V.int (k:Nat)
def Way.inv{U:Pl->Pl->Prop}{k:Nat}{f:Yb Nat}(w:Way U k f):∃e v,f=k::e/\U (ee k) (eY k)/\U (eY k) v/\((v=eP/\e=[])\/∃g,v=ee g/\Way U g e):=by
 cases w with
 |fin a b=>exact⟨[],eP,rfl,a,b,.inl ⟨rfl,rfl⟩⟩
 |led a b r=>exact⟨_,_,rfl,a,b,.inr ⟨_,rfl,r⟩⟩
inductive RP(P:X6)(w:X7)(vs:Yb V)(H:Hp)(Q:VK):Prop
 |mk(f:X4)(Yj:Yb (Pl×V×V))(k0:Nat)(pv:V)(a:Yb Nat)(U:Pl->Pl->Prop)(e:vs=[.ref f,pv])(g:iS H (ee k0) pv)(dd:DD (eV P w) H f Yj)(j:∀u v,U u v->u≠sP->∃y,jL Yj u=some y/\iS H v y)(h:Way U k0 a)(i:a.length<=1000)
  (k:∀(l:X4)(H':Hp),cJ H H'->H l=none->H' l=some (.lst (nums a))->Q (.ref l) H')
def Lm(P:X6)(w:X7):Sp:=λa H Q _=>RP P w a H Q
inductive Jy(g l:X4)(H1:Hp)(U:Pl->Pl->Prop)(h:Yb Nat)(m:Nat)(σ:St)(a:Hp):Prop
 |mk (pv:V) (f rs:Yb Nat) (e:σ=[some (.ref g),some pv,some (.ref l)]) (i:cJ H1 a) (n:a l=some (.lst (nums f))) (j:h=f++rs) (hm:m=rs.length) (pl:(rs=[]/\pv=.str "end")\/∃k,Way U k rs/\iS H1 (ee k) pv)
def o5:cL ["following","place","talks"] ["following","place"] (cK gM):={}
def O9 {fd:FuncData}(D:Df K mg "talks_behind" gM ["following","place"] f fd):Gd P w K mg base 1 "talks_behind" (Lm P w):=by
 refine aJ D o5 λX H vs Q E j h=>?_;obtain⟨y,W,k0,pv,F,U,rfl,hp,dd,Y,wy,kl,k⟩:=h;obtain⟨rfl,rfl⟩:=And.intro j.pr j.wd;have i:=jg j.room;have Yu:=Sq;obtain⟨S,A,M,_⟩:=j.fA [0,1,2];refine⟨_,(af (aB M j.nd<|bg bF)
 (af (cC j.own (aI (J.vP<|VY (Wh _ 3) i) (aa A) aw<|cM _)
 (af (bw<|bA Ti SE SG bG (aa M)<|ao<|ah aG (aa A) ae ak)
 (ag<|aB A j.nd<|bT i (aa S) (bT i (aa S) (aa A) aQ) cA)))
 (ag<|aD<|aa M))),?_⟩
 refine⟨by decide,λl O=>?_⟩;generalize C:upd H l _=H1;obtain⟨s1,R⟩:=nx O C;refine⟨Jy y l H U F,⟨_,pv,[],F,rfl,s1,R,rfl,rfl,.inr ⟨k0,wy,hp⟩⟩,?_⟩;rintro m σ x ⟨pv,n,rs,rfl,B,N,L,rfl,pl⟩;obtain ⟨rfl,rfl⟩|⟨g,wk,pk⟩:=pl
 ·refine⟨_,rfl,.txt _ _ rfl rfl ⟨_,rfl,gQ (by grind) ?_⟩⟩
  rw[SH]at L;subst L;exact⟨_,rfl,k l x B O N⟩
 ·obtain⟨b,rfl,T⟩:=pk
  have s:x b=some (.tup [.str "into",.int (g:Nat)]):=B _ _ T;obtain⟨q,v,rfl,u1,u2,nx⟩:=wk.inv;obtain⟨y1,v1,p1⟩:=Y _ _ u1 λe=>fJ e;obtain⟨y2,v2,p2⟩:=Y _ _ u2 λe=>eQ e;obtain⟨e1,a1,G⟩:=wm v1;obtain⟨e2,a2,I⟩:=wm v2;have dl:n.length<=1000:=by grind
  refine⟨_,rfl,.tup b _ _ rfl s rfl ⟨_,rfl,fD rfl ⟨Jy y l H U F q.length,λab H' z=>⟨_,Vp _,z⟩,?_⟩⟩⟩;refine⟨_,rfl,.inl ⟨rfl,_,cP.of N⟩,_,rfl,xT s rfl ⟨l,_,_,rfl,rfl,N,by unfold nums;rw[R5];lia,?_⟩⟩;have a:cJ H (upd x l<|.lst<|nums n++[.int (g:Nat)]):=λb' o e=>by
   rw[cI<|cH e O];exact B _ _ e
  have r:upd x l (.lst<|nums n++[.int (g:Nat)]) l=some (.lst<|nums<|n++[g]):=by
   rw[cG];unfold nums;rw[TQ];rfl
  generalize upd x l (.lst<|nums n++[.int (g:Nat)])=H3 at a r;have p:=dd.same a;have Z:=Tk.of a;refine⟨_,rfl,_,rfl,_,rfl,y,W,ee g,e1,rfl,p,⟨b,rfl,a _ _ T⟩,a1,?_⟩;rw[G];refine⟨y,W,eY g,e2,rfl,p,p1.mono Z,a2,?_⟩;rw[I];refine⟨y2,n++[g],q,rfl,a,r,by rw[L,R8];rfl,rfl,?_⟩;obtain ⟨rfl,rfl⟩|⟨k',rfl,w'⟩:=nx
  ·exact .inl ⟨rfl,p2⟩
  ·grind
def Gh{H:Hp}{us:Yb V}{ds:Yb ED}(g:Lz lO H us ds):∃f:Yb X4,us=f.map V.ref/\f.length=ds.length/\∀(i:Nat) a d,f[i]? =some a->ds[i]? =some d->mP H a d:=by
 have l:∀us:Yb V,(∀v∈us,∃a,v=V.ref a)->∃f:Yb X4,us=f.map V.ref:=λus=>by
  induction us with
  |nil=>exact λ_=>⟨[],rfl⟩
  |cons v r q=>
   intro h;obtain⟨f,e⟩:=q λu m=>h u<|.tail _ m;obtain⟨a,rfl⟩:=h v<|.head _;exact⟨a::f,by rw[SV,<-e]⟩
 obtain⟨f,rfl⟩:=l us λv o=>by
  obtain⟨i,n⟩:=So o;obtain⟨d,_,a,e,_⟩:=g.at n;exact⟨a,e⟩
 refine⟨f,rfl,by rw[<-g.1,R5],λi a d p j=>?_⟩;obtain⟨s,e,h⟩:=g.2 i _ d (by rw[Sk,p];rfl) j;cases e;exact h
def in_nums(k:Nat)(a:Yb Nat):J6 (.int (k:Nat)) (nums a)=decide (k∈a):=by
 show(a.map λk=>V.int (k:Nat)).any (λy=>tf y<|.int (k:Nat))=_;rw[any_map,VB,V7,Sw];constructor
 ·rintro⟨j,hj,e⟩
  have f:((j:Int)==(k:Int))=true:=e;grind
 ·intro h
  exact⟨k,h,Tz _⟩
def Di(e:Yb Nat):(nums e).all dI=true:=Tv.mpr λv a=>by
 obtain⟨k,_,rfl⟩:=SQ.mp a;rfl
def d6.rev(h:d6 H us ks):d6 H us.reverse ks.reverse:=by
 have l:=h.1;refine⟨by rw[TM,TM,l],λi u t a e=>?_⟩;have f:=(gI0.mp a).1;rw[TM]at f;rw[Vl f]at a;rw[Vl<|by lia,<-l]at e;exact h.2 _ u t a e
inductive RJ(vs:Yb V)(H:Hp)(Q:VK):Prop
 |mk(q n:X4)(us:Yb V)(E:Yb ED)(a:Yb Nat)(z:Yc)(h:Int)(m:Yb QD)(g:Yb TK)(F:FH)(e:vs=[.ref q,.ref n,.str z])(r:H q=some (.lst us))(w:Lz lO H us E)(ul:us.length<=400)(A:H n=some (.lst (nums a)))(y:a.length<=1000)
  (s:∀Fk,GF (E.filter (mY a)) Fk->∃b,Fk z=some b/\b<=h)(x:∀d∈E,∀i,d.2.2=.saw i->∃j,F d.1=some j/\j<=d.2.1)(hr:∀d∈E,∀k p,d.2.2=.hrd k p->(k,p,d.1)∈g/\d.2.1=cN m k)(v:∀j,F z=some j->h<j)
  (k:∀(l:X4)(o:Yb V)(f:Yb TK)(H':Hp),cJ H H'->H l=none->H' l=some (.lst o)->d6 H' o f->pX F m g f z h=true->(∀t∈f,t.1∈a/\t∈g)->(f.map (·.1)).Nodup->Q (.ref l) H')
def Pj:Sp:=λa H Q _=>RJ a H Q
inductive Kt(n j f l:X4)(H1:Hp)(Fk:FH)(ds:Yb ED)(i:Yb QD)(o:Yb TK)(q:Yb Nat)(z:Yc)(h:Int)(m:Nat)(σ:St)(a:Hp):Prop
 |mk(g:X8 V)(p:Yc)(b:Int)(us:Yb V)(ac:Yb TK)(e:σ=[some (.ref n),some (.ref j),some (.str p),some (.ref f),some (.ref l),g])(hm:m=(ds.filter λd=>decide (d.2.1<b)).length)(r:cJ H1 a)(s:a l=some (.lst us))(v:d6 a us ac)(tr:Tr i o q z h ac.reverse p b)(fp:Fk p=some b)
def vO:cL ["entries","talks","person","known","line","way"] ["entries","talks","person"] (cK jS):={}
def NI {fd:FuncData}(D:Df K mg "line_over" jS ["entries","talks","person"] f fd) (T:Txt K mg kw C) (a2:Gd P w K mg base 4 "first_entries" Nf):Gd P w K mg base 5 "line_over" Pj:=by
 refine aJ D vO λX H s Q E g h=>?_;obtain⟨en,tk,us,E,I,z,h,qd,ot,F,rfl,M,lz,ul,YI,kl,kn,hs,hr,nz,k⟩:=h;have hu:=d9 g.room;have Yu:=Sq;obtain⟨S0,S1,S2,S3,S4,S5,_⟩:=g.fA [0,1,2,3,4,5];refine⟨_,(af (aB S3 g.nd<|au (g.eO a2 rfl (by lia)<|by decide)<|ao<|bN (is:=[1]) (xs:=["entry"]) (ns:=["talks"]) g.calm (aX<|aa S0) {} (λ_ _ _ _ _=>br (i:=0)) (λ_ _ _ _ _=>bP<|a7<|bI (aI aS (ah bE (ah bE (aT (i:=0)) ae ak) ae ak) aw<|cM _)<|bR<|aI J.zy (ah bE (ah bE (aT (i:=0)) ae ak) ae ak) (a5 (i:=1)) cq) (λ_ _ _ _ _=>aT (i:=0)) g.hsc g.hN)
 (af (aB S4 g.nd<|bg bF)
 (af (cC g.own (aI aS (ah aG (ah aG (aM hu (aa S3) (aa S2) aQ) ae ak) ae ak) aw<|cM _)
 (af (aB S5 g.nd<|ah aG (aM hu (aa S3) (aa S2) aQ) ae ak)
 (af (bw<|bA Ti SE SG bG (aa S4)<|ao<|aN<|aO (ah aG (aa S5) ae ak) (ah aG (aa S5) ae ak)<|aa S2)
 (ag<|aB S2 g.nd<|ah aG (aa S5) ae ak))))
 (ag<|aD<|J.ES g.calm (g.b T.b_list) (g.b T.b_reversed)<|ao<|aa S4)))),?_⟩
 have el:E.length<=400:=by rw[<-lz.1];exact ul
 refine⟨_,rfl,en,rfl,⟨_,cP.of M⟩,og lO E (mY I) (λv d _ _ t h=>h.mono t) (by lia) (λi H2 L hi=>⟨us,us[i]'(by rw[lz.1];exact hi),cP.of<|L _ _ M,RY _⟩) (λH2 L=>⟨us,cP.of<|L _ _ M,Um lz.1⟩) ?_ ?_⟩
 ·intro i os v d H2 H3 K1 K2 G ay L y k1 k2
  obtain⟨e3,y⟩:=y;subst e3;obtain⟨o1,rfl⟩:=KC ay;have ev:lO _ v d:=(lz.2 i v d (y us<|cP.of<|L _ _ M) G).mono<|Tk.of L;obtain⟨a,rfl,wa,B,A⟩:=id ev;obtain⟨y,b,way⟩:=d;refine⟨⟨[_],rfl,rfl⟩,⟨_,rfl,xT B rfl ?_⟩⟩;cases way with
  |saw j=>exact(xT A rfl ⟨rfl,_,rfl,iP<|eU ⟨_,rfl,k1 rfl _ _ (cJ.refl _) ev⟩⟩)
  |hrd kk r=>
   refine(xT A rfl ⟨rfl,_,rfl,iN ⟨_,rfl,xT B rfl<|xT A rfl ⟨_,rfl,tk,_,rfl,.inl<|cP.of<|L _ _ YI,rfl,Di I,?_⟩⟩⟩);rw[in_nums];exact⟨_,rfl,dJ (λax=>⟨_,rfl,k1 ax _ _ (cJ.refl _) ev⟩) λno=>k2 (Td.mpr no) _<|cJ.refl _⟩
 intro fl fs H2 bd L av ai;obtain⟨as,rfl,ar,U⟩:=Gh ai;have an:(E.filter<|mY I).length<=400:=SF (Ts _ _) el;have O:∀d∈E.filter (mY I),d∈E/\mY I d=true:=λd G=>Su.mp G;generalize E.filter (mY I)=ds at ai ar U an O kn;refine⟨fl,as,ds,rfl,av,by lia,λa B=>?_,λd G=>?_,λkd Yj Fk H3 s3 bi a1 ka fo=>?_⟩
 ·obtain⟨i,hi⟩:=So B
  obtain⟨d,G⟩:∃d,ds[i]? =some d:=⟨_,RY<|by grind⟩;exact⟨d,R4 G,U i a d hi G⟩
 ·obtain⟨i,hi⟩:=So G
  obtain⟨a,B⟩:∃a,as[i]? =some a:=⟨_,RY<|by grind⟩;exact⟨a,R4 B,U i a d B hi⟩
 obtain⟨b0,bb,am⟩:=kn Fk fo;refine⟨Km,λl nl=>?_⟩;generalize bc:upd H3 l _=H4;obtain⟨s4,a3⟩:=nx nl bc;have a9:=L.trans s3;have step:∀{p:Yc}{b:Int}{a:X4}{d:ED},d∈ds->d.1=p->d.2.1=b->∀{k:Nat}{r:Yc},d.2.2=.hrd k r->Dq Fk d=true->∃S,Fk r=some S/\S<b/\(k,r,p)∈ot/\cN qd k=b/\k∈I:=λ{p b a d} G e1 e2 {k r} e3 c=>by
  obtain⟨dE,dk⟩:=O d G;obtain⟨h1,h2⟩:=hr d dE k r e3;unfold Dq at c;unfold mY at dk;rw[e3]at c dk;have c':(match Fk r with|none=>false|some a=>decide<|a<d.2.1)=true:=c;cases hT:Fk r with
  |none=>grind
  |some S=>grind
 refine⟨Kt en tk kd l H3 Fk ds qd ot I z h,⟨_,none,z,b0,[],[],rfl,rfl,s4,a3,⟨rfl,λi u t hu=>by cases hu⟩,.nil am,bb⟩,?_⟩;rintro m σ H5 ⟨e5,p,b,s,ac,rfl,rfl,kp,hl,tu,tr,fp⟩;obtain⟨a,d,va,ev,md,d1,d2,cf⟩:=ka p b fp;obtain⟨wa,aq,a0⟩:=id ev;have B:=kp _ _ aq;have A:=a0.mono<|Tk.of kp;have dg:=dP.k (k:=Sum.inr p)<|kp _ _ a1;rw[va]at dg;have bf:ac.length<=1000:=by
  have h1:=tr.nd;have h2:=lN (ys:=I) h1 λx hx=>by
   obtain⟨t,ht,rfl⟩:=SQ.mp hx;exact(tr.all t ht).2.1
  rw[R5,TM]at h2;lia
 have vl:=tu.1;refine⟨_,rfl,_,rfl,kd,_,rfl,dg,xT B rfl ?_⟩;cases n:d.2.2 with
 |saw i=>
  rw[n]at A;refine(xT A rfl ⟨rfl,_,rfl,iN ?_⟩);obtain⟨j,fj,jl⟩:=hs d (O d md).1 i n;rw[d1]at fj;refine⟨_,rfl,l,_,rfl,cP.of hl,λrl Y=>?_⟩;have ad:=a9.trans kp;have N:=cJ.upd (o:=.lst s.reverse) Y;exact k rl s.reverse ac.reverse _ (ad.trans N) (ad.free Y) cG (tu.rev.mono<|Tk.of N) (tr.line nz fj<|by lia) (λt ht=>⟨(tr.all t ht).2.1,(tr.all t ht).1⟩) tr.nd
 |hrd kk r=>
  rw[n]at A;obtain⟨S,Z,lt,mo,eh,mk⟩:=step (a:=a) md d1 d2 n cf;refine(xT A rfl ⟨rfl,_,rfl,iP ⟨Kt en tk kd l H3 Fk ds qd ot I z h<|(ds.filter λd=>decide<|d.2.1<S).length,λbj H' z=>⟨_,?_,z⟩,?_⟩⟩)
  ·obtain⟨a',d',_,_,ap,_,be,_⟩:=ka r S Z
   exact u6 (x:=d') (λy _ h=>dT0<|by grind) ap (dT0<|by lia) (Se<|by lia)
  refine⟨_,rfl,_,rfl,kd,_,rfl,dg,xT B rfl ?_⟩;refine⟨_,rfl,.inl ⟨rfl,_,cP.of hl⟩,_,rfl,xT A rfl ⟨_,rfl,xT A rfl ⟨_,rfl,tL,λq nq=>?_⟩⟩⟩;generalize a4:upd H5 q _=H6;obtain⟨N,hq⟩:=nx nq a4;refine⟨l,s,.ref q,rfl,rfl,N _ _ hl,by lia,?_⟩;have R:=Tk.upd (N _ _ hl) (ys:=s++[.ref q]);have W:cJ H3 (upd H6 l<|.lst<|s++[.ref q]):=λb u e=>by
   rw[cI<|cH e nl];exact N _ _<|kp _ _ e
  have ab:d6 (upd H6 l<|.lst<|s++[.ref q]) (s++[.ref q]) (ac++[(kk,r,p)]):=((tu.mono<|Tk.of N).mono R).snoc ⟨q,rfl,R _ _ hq⟩;have aj:upd H6 l (.lst<|s++[.ref q]) l=some (.lst<|s++[.ref q]):=cG;have al:=(A.mono<|Tk.of N).mono R;generalize upd H6 l (.lst<|s++[.ref q])=H7 at W ab aj al;refine⟨_,rfl,xT al rfl ?_⟩;refine⟨_,r,S,_,_,rfl,rfl,W,aj,ab,?_,Z⟩;rw[Wn];exact .cons (t:=(kk,r,p)) tr rfl eh mo mk lt
inductive Rz(P:X6)(w:X7)(C o:X4)(vs:Yb V)(H:Hp)(Q:VK)(E:XK):Prop
 |mk(x p s t y:X4)(ps:Yb Yc)(ss g ys:Yb V)(a:Yb GD)(f:Yb QD)(sd:Yb SD)(z:Yc)(h:Int)(e:vs=[.ref x,.str z,.int h])(bk:Bk C H x p s t y ps ss g ys)(pl:ps.length<=24)(sl:ss.length<=24)(q:g.length<=120)(B:Lz dz H ss a)(A:∀d∈a,d.1∈ps)(D:Lz dD H g f)(r:∀d∈f,lS ps d)(v:Sys H ys sd)(l:ys.length<=60)
   (k:(∀j,c4 (a.filter (cR sd)) z=some j->h<j)->∀(m ul i:X4) (us:Yb V) (Yj:Yb (Pl×V×V)) (L:Yb (Pl×Pl)) (R:Pl->Pl->Int) (n:Int) (H':Hp),cJ H H'->H' m=some (.tup [.ref ul,.ref i])->H' ul=some (.lst us)->Lz vY H' us (L.filter λl=>decide (0<R l.2 l.1))->jC P w H' i "start" (jW L R) Yj->eP ∉ Yj.map (·.1)->FL.gT L fh R->FL.Flow L fh (FL.fl R) sP eP n->kW f (c4 (a.filter (cR sd))) z (ju f sd h) L->L.length<=100000->Q (.ref m) H')
   (F:∀j,c4 (a.filter (cR sd)) z=some j->j<=h->∀H',cJ H H'->E (.ref o) none H')
def K9(P:X6)(w:X7)(C a:X4):Sp:=λe H Q E=>Rz P w C a e H Q E
section
variable {P:X6}{w:X7}{K:Frag}{mg:Yh}{base:Heap}{kw C Sa:X4}{bm:Yb X3}
def uK:cL ["book","person","hour","seen"] ["book","person","hour"] (cK j9):={}
def O6 (D:Df K mg "talk_flow" j9 ["book","person","hour"] f fd) (a:gJ K Sa bm) (i:mg "Saw" =some (.ref Sa)) (O:Gd P w K mg base 5 "seen_hours" (zW C)) (Z:Gd P w K mg base 2 "filled" (Dt P w)) (I:Gd P w K mg base 6 "talk_links" (LS P w C)):Az P w K mg base 7 "talk_flow" (K9 P w C Sa):=by
 refine J.v9 D uK (λvs H Q E h=>?_) λX Y H vs Q E fs h=>?_
 ·obtain⟨x,p,s,t,y,M,F,N,ys,v,qd,sd,z,h,rfl,_⟩:=h
  rfl
 ·obtain⟨x,p,s,t,y,M,F,N,ys,v,qd,sd,z,h,rfl,bk,pl,sl,ab,gs,gp,qs,qk,sy,YB,k,kE⟩:=h
  have r:=fs.fr;have m:=r.here;have hu:=d9 m.room;have Yu:=Sq;obtain⟨S0,W,S2,U,_⟩:=m.fA [0,1,2,3];refine⟨_,(af (r.js<|aB U m.nd<|au (m.eO O rfl (by lia)<|by decide)<|ao<|aa S0)
 (af (aK (r.jt<|a7<|bq (J.Ek hu (aa W)<|aa U)<|bz<|aI bB (aM hu (aa U) (aa W) aQ) (aa S2)<|cM _)
 (ag<|r.rz a i rfl (by decide) (ao aw) rfl)
 aL)
 (ag<|r.js<|aD<|au (m.eO Z rfl (by lia)<|by decide)<|aO (au (m.eO I rfl (by lia)<|by decide)<|aO (aa S0) (aa W)<|aa S2) aw aw))),?_⟩
  refine⟨_,rfl,x,p,s,t,y,M,F,N,ys,v,sd,rfl,bk,pl,sl,gs,gp,sy,YB,λA ac H1 g ad Y6 sn=>?_⟩;have q:=dP.k (k:=Sum.inr z) Y6;rw[sn.get]at q;refine both (G:=(∀j,c4 (v.filter<|cR sd) z=some j->h<j)->zm (jO (Dt P w) [] E0<|dF (jO (LS P w C) [] E0<|dF (gC 0)<|dF (gC 1)<|dF (gC 2) kU)<|dF (tC<|.str "start")<|dF (tC<|.str "end") kU) { nx:=λ_ H'=>Q .non H',rt:=Q } [some<|.ref x,some<|.str z,some<|.int h,some<|.ref A] H1) ?_ λrest=>?_
  ·intro nz
   refine⟨_,rfl,_,rfl,_,rfl,x,p,s,t,y,M,F,N,ys,v,qd,sd,z,h,rfl,bk.mono g,pl,sl,ab,gs.mono<|dz.mono<|Tk.of g,gp,qs.mono<|dD.mono<|Tk.of g,qk,sy.mono<|Tk.of g,YB,λd L H2 s2 nd ld T lL=>?_⟩;refine⟨d,"start","end",L,fh,rfl,ld,T.jB,lL,Ke,λl _=>Mh l,λtp ul cm us Yj R n H3 kp h1 h2 h3 h4 h5 h6 h7=>?_⟩;exact k nz tp ul cm us Yj L R n H3 (λb o e=>kp b o (s2 _ _<|g _ _ e)<|cH e<|g.free nd) h1 h2 h3 h4 h5 h6 h7 T lL
  ·cases B:c4 (v.filter<|cR sd) z with
   |none=>
    rw[B]at q;exact⟨_,rfl,_,rfl,A,_,rfl,q,_,rfl,gQ bF0<|dS<|rest λj e=>by rw[B]at e;cases e⟩
   |some j=>
    rw[B]at q;refine⟨_,rfl,_,rfl,A,_,rfl,q,_,rfl,fD rfl ⟨_,rfl,_,rfl,A,_,rfl,q,_,rfl,_,_,rfl,rfl,_,rfl,dJ (λS=>?_) λno=>rest λj' e=>?_⟩⟩
    ·exact⟨by decide,kE j B (Sj S) H1 g⟩
    ·grind
end
section
variable {qd:Yb QD}{F:FH}{z:Yc}{tl:Yb TK}{L:Yb (Pl×Pl)}{f:Pl×Pl->Int}{n:Int}
def kW.Lw(T:kW qd F z tl L)(W:FL.Flow L fh f sP eP n):(((L.filter λl=>decide<|0<f l).filter λl=>decide<|l.1=sP).length:Int)=n:=by
 have i:=FL.lR L f sP;rw[W.ns]at i;have m:FL.Jq L f sP=0:=FL.gb λl g=>FL.dh λe=>by
  obtain⟨a,b⟩:=l;have e:=e;subst e;exact((T.mem _ _).mp g).xY
 have j:FL.r6 L f sP=(L.map λl=>if l.1=sP/\0<f l then(1:Int) else 0).sum:=FL.eK λl g=>by
  by_cases e:l.1=sP
  ·rw[FL.di e]
   have o:=W.lo l g;have h:=(T.low W g).1;have h:f l<=1:=h;by_cases q:0<f l
   ·grind
   ·lia
  ·rw[FL.dh e,R7 λz=>e z.1]
 rw[kB]at j;rw[List.filter_filter];have e:(λl:Pl×Pl=>decide (l.1=sP)&&decide (0<f l))=λl=>decide (l.1=sP/\0<f l):=funext λl=>by rw[Bool.decide_and]
 rw[e];lia
end
theorem xu{κ:Type} [DecidableEq κ]:∀(ps Yj:Yb (κ×V×V)) (x:κ),(∀v,jL (eJ Yj ps) x=some v->jL Yj x=some v\/∃q∈ps,q.1=x/\q.2.2=v)/\(((jL Yj x).isSome=true\/∃q∈ps,q.1=x)->(jL (eJ Yj ps) x).isSome=true)
 |[],Yj,x=>⟨λv h=>.inl h,λh=>h.elim id λ⟨_,m,_⟩=>nomatch m⟩
 |p::r,Yj,x=>by
  obtain⟨f,a⟩:=xu r (fG Yj p.1 p.2.1 p.2.2) x;have g:=vR Yj p.1 x p.2.1 p.2.2;refine⟨λv h=>?_,λh=>a ?_⟩
  ·obtain h|⟨q,i,e⟩:=f v h
   ·grind
   ·grind
  ·grind
theorem wL{P:X6}{w:X7}{H:Hp}{d:X4}:∀(ps Yj:Yb (Pl×V×V)),(Yj.map (·.1)).Nodup->(∀e∈Yj,iS H e.1 e.2.1)->(∀e∈ps,iS H e.1 e.2.1)->((eJ Yj ps).map (·.1)).Nodup/\(∀e∈eJ Yj ps,iS H e.1 e.2.1)/\(eJ Yj ps).length<=Yj.length+ps.length
 |[],Yj,nd,h,_=>⟨nd,h,R9 _⟩
 |p::r,Yj,nd,h,hp=>by
  obtain⟨l,j,m⟩:=wL (P:=P) (w:=w) (d:=d) r (fG Yj p.1 p.2.1 p.2.2) (Ft nd) (λe f=>by
   obtain ⟨q,i,a,g⟩|⟨a,g⟩:=An f
   ·rw[a,g]
    exact h q i
   ·rw[a,g]
    exact hp p<|.head _) λe f=>hp e<|.tail _ f
  have:=mV Yj p.1 p.2.1 p.2.2;exact⟨l,j,by rw[Te];show(eJ (fG Yj p.1 p.2.1 p.2.2) r).length<=_;lia⟩
theorem By{H:Hp}:∀{us:Yb V}{ls:Yb (Pl×Pl)},Lz vY H us ls->∃Yj:Yb (Pl×V×V),us.length=Yj.length/\(∀(i:Nat) x f,us[i]? =some x->Yj[i]? =some f->∃a,x=.ref a/\H a=some (.tup [f.2.1,f.2.2])/\iS H f.1 f.2.1)/\(∀f∈Yj,∃l∈ls,l.1=f.1/\iS H l.2 f.2.2)/\∀l∈ls,∃f∈Yj,f.1=l.1
 |[],[],_=>⟨[],rfl,(λi x f h=>by cases h),(λf h=>nomatch h),λl h=>nomatch h⟩
 |[],_::_,h=>by cases h.1
 |_::_,[],h=>by cases h.1
 |v::us,l::ls,h=>by
  obtain⟨Yj,A,s,C,z⟩:=By (us:=us) (ls:=ls) ⟨Ua h.1,λi v d D q=>h.2 (i+1) v d D q⟩;obtain⟨a,y,F,e,E,B,w⟩:=h.2 0 v l rfl rfl;refine⟨(l.1,y,F)::Yj,by rw[Te,Te,A],λi x f p g=>?_,λf j=>?_,λo n=>?_⟩
  ·cases i with
   |zero=>
    cases p;cases g;exact⟨a,e,E,B⟩
   |succ i=>exact s i x f p g
  ·obtain rfl|j:=SS.mp j
   ·exact⟨l,.head _,rfl,w⟩
   ·obtain⟨o,m,r⟩:=C f j
    exact⟨o,.tail _ m,r⟩
  ·obtain rfl|n:=SS.mp n
   ·exact⟨_,.head _,rfl⟩
   ·obtain⟨f,m,r⟩:=z o n
    exact⟨f,.tail _ m,r⟩
def Jk(R:Hp->V->δ->Prop)(dl:Yb δ)(mono:∀D v d H H',v≠.ref D->(∀b o,H b=some o->b≠D->H' b=some o)->(∃ys,H D=some (.lst ys))->R H v d->R H' v d)(Y:dl.length<=sizeLine)(T:∀i f,cJ H f->i<dl.length->J.go i f)(YD:∀f,cJ H f->J.stop dl.length f)
  (he:∀(i:Nat)(C:St) v d f B (M:VK),dl[i]? =some d->C.length=n->cJ H f->J.yld i f v B->(∀y r,cJ f r->(∃a,y=.ref a/\f a=none)->R r y d->M y r)->
   g v (C++eF is σ) B λl H4=>(∃s:St,s.length=n/\l=s++eF is σ)/\te l H4 M)
  (S:∀v σ H (N O:St->Hp->Prop),(∀l H',N l H'->O l H')->g v σ H N->g v σ H O)
  (q:∀D ys H',H D=none->cJ H H'->H' D=some (.lst ys)->Lz R H' ys dl->Q (.ref D) H'):eN J n is g xI te σ H Q:=by
 intro D w;refine⟨λi m ys f=>m=dl.length-i/\i<=dl.length/\cJ H f/\f D=some (.lst ys)/\Lz R f ys (dl.take i)/\∀y∈ys,y≠.ref D,⟨_,rfl,Tq _,cJ.upd w,cG,⟨rfl,λi v d h=>by cases h⟩,λy h=>by cases h⟩,?_⟩;rintro i m ys f ⟨rfl,hi,E,x,F,P⟩;refine⟨x,?_⟩;have yl:ys.length<=i:=by
  rw[F.1];grind
 by_cases p:i<dl.length
 ·have I:=RY p
  have U:dl.take (i+1)=dl.take i++[dl[i]]:=by simp_all
  refine .inr ⟨T i f E p,λC v B K y=>S _ _ _ _ _ (λl H' h=>⟨h.1,Pe h.2⟩)<|he i C v dl[i] f B _ I K E y λz r A W X=>⟨A _ _ x,by lia,dl.length-(i+1),by lia,rfl,p,λb o e=>?_,cG,?_,λu G=>?_⟩⟩
  ·rw[cI<|cH e w]
   exact A _ _<|E _ _ e
  ·have up:∀b o,r b=some o->b≠D->upd r D (.lst<|ys++[z]) b=some o:=λb o e n=>by rw[cI n];exact e
   obtain⟨a,rfl,Z⟩:=W;rw[U];refine Lz.snoc ⟨F.1,λj u d G L=>?_⟩ (mono D _ _ _ _ (λe=>by grind) up ⟨_,A _ _ x⟩ X);exact mono D _ _ _ _ (P u<|R4 G) (λb o e n=>up b o (A _ _ e) n) ⟨_,x⟩<|F.2 j u d G L
  ·grind
 ·grind
def Hu(H:Hp)(v:V)(f:Yb TK):Prop:=∃a e,v=.ref a/\H a=some (.lst e)/\d6 H e f
structure Fv(F:FH)(qd:Yb QD)(ot:Yb TK)(z:Yc)(h:Int)(Yx:Yb (Yb TK)):Prop where
 line:∀sm∈Yx,pX F qd ot sm z h=true
 inn:∀sm∈Yx,∀t∈sm,t∈ot
 nd:(Yx.flatMap λsm=>sm.map (·.1)).Nodup
inductive Rn(C i:X4)(vs:Yb V)(H:Hp)(Q:VK)(E:XK):Prop
 |mk(x p s t y:X4)(ps:Yb Yc)(ss g ys:Yb V)(f:Yb GD)(a:Yb QD)(sd:Yb SD)(z:Yc)(h:Int)(e:vs=[.ref x,.str z,.int h])(bk:Bk C H x p s t y ps ss g ys)(pl:ps.length<=24)(sl:ss.length<=24)(m:g.length<=120)(r:Lz dz H ss f)(q:∀d∈f,d.1∈ps)(v:Lz dD H g a)(n:∀d∈a,lS ps d)(o:Sys H ys sd)(l:ys.length<=60)
   (k:(∀j,c4 (f.filter (cR sd)) z=some j->h<j)->∀(l:X4)(us:Yb V)(Yx:Yb (Yb TK))(H':Hp),cJ H H'->H l=none->H' l=some (.lst us)->Lz Hu H' us Yx->Fv (c4 (f.filter (cR sd))) a ((fF 0 (fH a)).filter (dj a sd)) z h Yx->zw a (c4 (f.filter (cR sd))) z (ju a sd h) a.length Yx.length->Q (.ref l) H')
   (w:∀j,c4 (f.filter (cR sd)) z=some j->j<=h->∀H',cJ H H'->E (.ref i) none H')
def OJ(C a:X4):Sp:=λe H Q E=>Rn C a e H Q E
def Kx(C a:X4):Sp:=λe H Q _=>Rn C a e H Q E0
def MP:(u,v)∈L.filter (λl=>decide<|0<R l.2 l.1)↔sv L (FL.fl R) u v:=by
 rw[Su];exact⟨λh=>⟨h.1,Sj h.2⟩,λh=>⟨h.1,dT0 h.2⟩⟩
def ph(a:∀d∈qd,lS ps d)(m:t∈ju qd sd h):t.1<qd.length:=by
 obtain⟨q,e,_⟩:=qh a (Su.mp (Su.mp m).1).1;grind
def Ob(F:FH)(g:Yb QD)(e:Yb TK)(z:Yc)(h:Int)(U:Pl->Pl->Prop)(l:Pl×Pl)(a:Yb TK):Prop:=∃k f,l.2=ee k/\Way U k f/\pX F g e a z h=true/\(∀t∈a,t.1∈f/\t∈e)/\(a.map (·.1)).Nodup
theorem we{G:Yb QD}{F X:FH}{z:Yc}{Q ot:Yb TK}{L:Yb (Pl×Pl)}{f:Pl×Pl->Int}{n h:Int}(T:kW G F z Q L)(W:FL.Flow L fh f sP eP n):∀{ls:Yb (Pl×Pl)}{Yx:Yb (Yb TK)},ls.Nodup->(∀l∈ls,l.1=sP/\sv L f l.1 l.2)->ls.length=Yx.length->(∀(i:Nat) l o,ls[i]? =some l->Yx[i]? =some o->Ob X G ot z h (sv L f) l o)->(Yx.flatMap λo=>o.map (·.1)).Nodup
 |[],[],_,_,_,_=>VD
 |[],_::_,_,_,e,_=>by cases e
 |_::_,[],_,_,e,_=>by cases e
 |l::ls,o::Yx,nd,hl,e,ho=>by
  obtain⟨n1,n2⟩:=Uz.mp nd;have ih:=we T W n2 (λg m=>hl g<|.tail _ m) (Ua e) λi g x Z y=>ho (i+1) g x Z y;obtain⟨k,ks,M,w,_,y,h3⟩:=ho 0 l o rfl rfl;rw[List.flatMap_cons];refine WM.mpr ⟨h3,ih,λa ha b U eq=>?_⟩;subst eq;obtain⟨x,P,ma⟩:=WS.mp U;obtain⟨i,K⟩:=So P;obtain⟨g,s⟩:∃g,ls[i]? =some g:=⟨_,RY (by have:=(gI0.mp K).1;have e':ls.length=Yx.length:=Ua e;lia)⟩;obtain⟨k',S,v,R,_,C,_⟩:=ho (i+1) g x s K;obtain⟨t,mt,B⟩:=SQ.mp ha;obtain⟨E,A,j⟩:=SQ.mp ma;obtain⟨p,I⟩:=So (y t mt).1;obtain⟨q,H⟩:=So (C E A).1;have r:=R4 s;obtain⟨N,O⟩:=hl l<|.head _;obtain⟨D,J⟩:=hl g<|.tail _ r;rw[N,M]at O;rw[D,v]at J;have B:t.1=a:=B;have j:E.1=a:=j;rw[B]at I;rw[j]at H;have Y:=Cc T W w R O J p q a I H;have:g=l:=W8 (D.trans N.symm) (by rw[M,v,Y]);exact n1 (by rw[<-this];exact r)
theorem AZ{α β:Type}{A:Hp->V->β->Prop}{O:α->β->Prop}{H:Hp}:∀{us:Yb V}{ls:Yb α},Lz (λH v l=>∃b,A H v b/\O l b) H us ls->∃bs:Yb β,Lz A H us bs/\ls.length=bs.length/\∀(i:Nat) l b,ls[i]? =some l->bs[i]? =some b->O l b
 |[],[],_=>⟨[],⟨rfl,λi v d h=>by cases h⟩,rfl,λi l b h=>by cases h⟩
 |[],_::_,h=>by cases h.1
 |_::_,[],h=>by cases h.1
 |v::us,l::ls,h=>by
  obtain⟨bs,f,m,o⟩:=AZ (us:=us) (ls:=ls) ⟨Ua h.1,λi v d p a=>h.2 (i+1) v d p a⟩;obtain⟨b,q,r⟩:=h.2 0 v l rfl rfl;refine⟨b::bs,⟨by rw[Te,Te,f.1],λi u d j a=>?_⟩,by rw[Te,Te,m],λi s n e g=>?_⟩
  ·cases i with
   |zero=>
    cases j;cases a;exact q
   |succ i=>exact f.2 i u d j a
  ·cases i with
   |zero=>
    cases e;cases g;exact r
   |succ i=>exact o i s n e g
section
variable {P:X6}{w:X7}{K:Frag}{mg:Yh}{base:Heap}{kw C Sa:X4}
def pY:cL ["book","person","hour","used","following","firsts","entries"] ["book","person","hour"] (cK hV):={}
def NT {f:X4}{fd:FuncData}(D:Df K mg "apart_lines" hV ["book","person","hour"] f fd) (T:Txt K mg kw C) (be:Az P w K mg base 7 "talk_flow" (K9 P w C Sa)) (cc:Gd P w K mg base 5 "open_entries" (Og C)) (bx:Gd P w K mg base 1 "talks_behind" (Lm P w)) (bj:Gd P w K mg base 5 "line_over" Pj):Az P w K mg base 8 "apart_lines" (OJ C Sa):=by
 refine J.v9 D pY (λvs H Q E h=>?_) λX Y H vs Q E fs h=>?_
 ·obtain⟨x,p,s,t,y,ps,ss,ts,ys,sg,F,sd,z,h,rfl,_⟩:=h
  rfl
 ·obtain⟨x,p,s,t,y,ps,ss,ts,ys,sg,F,sd,z,h,rfl,bk,pl,sl,as,gs,gp,qs,qk,sy,YB,k,kE⟩:=h
  have fr:=fs.fr;have A:=fr.here;obtain⟨rfl,rfl⟩:=And.intro A.pr A.wd;have Yu:sizeLine=16777216:=Sq;obtain⟨S0,S1,S2,S3,S4,S5,S6,_⟩:=A.fA [0,1,2,3,4,5,6];refine⟨_,(af (aB (fs.slot S3) fs.nd<|ah aG (fs.cld be (aO (aa S0) (aa S1)<|aa S2) rfl (by lia) (by decide) rfl rfl) ae ak)
 (af (fr.js<|aB S4 A.nd<|bu (A.b T.b_dict) (J.v7 A.room A.calm) AW<|ao<|aa S3)
 (af (fr.js<|cj (is:=[]) (xs:=["one","other"]) (ns:=[]) S5 A.nd A.calm (aX<|aa S3) {} (λ_ _ _ _ _=>J.vK (n:=2) A.calm<|a6 (br (i:=0))<|a6 (br (i:=1)) bO) (λ_ _ _ _ _=>bP<|aI (J.vT<|VY (Wh _ 3)<|jg A.room) (aT (i:=0)) aw<|cM _) (λ_ _ _ _ _=>aT (i:=1)) A.hsc A.hN (by decide+kernel))
 (af (fr.js<|aB S6 A.nd<|au (A.eO cc rfl (by lia)<|by decide)<|ao<|aa S0)
 (ag<|fr.js<|aD<|bN (is:=[1,4,6]) (xs:=["place"]) (ns:=["person","following","entries"]) A.calm (aX<|aa S5) {} (λ_ _ _ _ _=>br (i:=0)) (λ_ _ _ _ _=>bX) (λ_ _ _ _ _=>au ((A.rR bj (by lia)<|by decide).lg rfl)<|aO (a5 (i:=3)) (au ((A.rR bx (by lia)<|by decide).lg rfl)<|aE (a5 (i:=2))<|aT (i:=0))<|a5 (i:=1)) A.hsc A.hN))))),?_⟩
  refine⟨_,rfl,_,rfl,_,rfl,x,p,s,t,y,ps,ss,ts,ys,sg,F,sd,z,h,rfl,bk,pl,sl,as,gs,gp,qs,qk,sy,YB,λnz tp ul cm us Yj L R n H1 s1 b1 av aj cd nt rm W I lL=>?_,kE⟩;refine(xT b1 rfl ?_);obtain⟨m,l2,t2,f2,b2⟩:=By aj;have ck:us.length<=100000:=by
   rw[aj.1];exact SF (Ts _ _) lL
  refine⟨_,rfl,ul,us,m,rfl,cP.of av,l2,t2,λfo bb ac=>?_⟩;have s2:=cJ.upd (o:=.ext<|Dφ (eV X.prog X.w) fo<|eJ [] m) bb;have an:upd H1 fo (.ext<|Dφ (eV X.prog X.w) fo<|eJ [] m) fo=some (.ext<|Dφ (eV X.prog X.w) fo<|eJ [] m):=cG;generalize upd H1 fo (.ext<|Dφ (eV X.prog X.w) fo<|eJ [] m)=H2 at s2 an;obtain⟨m1,m2,m3⟩:=wL (P:=X.prog) (w:=X.w) (H:=H2) (d:=fo) m [] VD (λe he=>nomatch he) λe he=>by
   obtain⟨i,hi⟩:=So he;obtain⟨v,hv⟩:∃v,us[i]? =some v:=⟨_,RY<|by grind⟩;obtain⟨a,_,_,r⟩:=t2 i v e hv hi;exact r.mono<|Tk.of s2
  have ax:DD (eV X.prog X.w) H2 fo (eJ [] m):=⟨.inl an,m2,m1,ac,by
   have z:([]:Yb (Pl×V×V)).length=0:=rfl;lia⟩
  have fw:∀u v,sv L (FL.fl R) u v->u≠sP->∃y,jL (eJ [] m) u=some y/\iS H2 v y:=λu v U ns=>by
   obtain⟨kv,mk,ek⟩:=b2 _<|MP.mpr U;have ek:kv.1=u:=ek;obtain⟨v1,v2⟩:=xu m [] u;cases hv:jL (eJ [] m) u with
   |none=>grind
   |some y=>
    obtain h0|⟨q,mq,e1,e2⟩:=v1 y hv
    ·cases h0
    ·obtain⟨⟨a,b⟩,ml,e3,pr⟩:=f2 q mq
     have e3:a=q.1:=e3;have ea:a=u:=e3.trans e1;subst ea;have YS:=MP.mp ml;rw[e2]at pr;have eb:b=v:=by
      obtain ⟨t,mt,B,e5⟩|⟨t,mt,s,B,e5⟩|⟨t,mt,q,B,e5⟩|⟨t,mt,t',m',l,B,e5⟩:=(I.mem _ _).mp U.1
      ·have hb:=YS.1
       rw[B]at hb;rw[((I.mem _ _).mp hb).pZ.1,e5]
      ·grind
      ·rw[B]at U YS
       exact I.AD W YS.1 U.1 YS.2 U.2
      ·rw[B]at U YS
       exact I.AD W YS.1 U.1 YS.2 U.2
     rw[<-eb];exact⟨y,rfl,pr.mono<|Tk.of s2⟩
  clear m1 m2 m3 b2 f2 t2 l2 an;have G:=s2 _ _ av;have ab:=aj.mono λ_ _ h=>vY.mono (Tk.of s2) h;have bd:=s1.trans s2;generalize eJ [] m=a9 at ax fw;clear s2 aj av bb ac;have mU:∀l∈L.filter λl=>decide<|0<R l.2 l.1,sv L (FL.fl R) l.1 l.2:=λl M=>MP.mp M;have a4:(L.filter λl=>decide<|0<R l.2 l.1).Nodup:=U6 Vt I.nd;have al:=I.Lw W;have al:(((L.filter λl=>decide<|0<R l.2 l.1).filter λl=>decide<|l.1=sP).length:Int)=n:=al;have a1:(L.filter λl=>decide<|0<R l.2 l.1).length<=100000:=SF (Ts _ _) lL;generalize L.filter (λl=>decide<|0<R l.2 l.1)=ls at ab mU a4 al a1;refine⟨_,rfl,ul,rfl,⟨_,cP.of G⟩,og (λH v (l:Pl×Pl)=>iS H l.2 v) ls (λl=>decide<|l.1=sP) (λv d _ _ t h=>h.mono t) (by lia) (λi H3 s3 hi=>⟨us,us[i]'(by rw[ab.1];exact hi),cP.of<|s3 _ _ G,RY _⟩) (λH3 s3=>⟨us,cP.of<|s3 _ _ G,Um ab.1⟩) ?_ ?_⟩
  ·intro i os v l H3 H4 K1 K2 M aq s3 y k1 k2
   obtain⟨e3,y⟩:=y;subst e3;have hv:=y us<|cP.of<|s3 _ _ G;obtain⟨o1,o2,rfl⟩:=Pp aq;obtain⟨a,y1,y2,rfl,ha,p1,p2⟩:=vY.mono (Tk.of s3)<|ab.2 i v l hv M;refine⟨a,_,rfl,fc.of ha,rfl,_,_,rfl,_,_,rfl,rfl,⟨[some y1,some y2],rfl,rfl⟩,⟨_,rfl,?_⟩⟩;have lk:=(I.mem _ _).mp (mU l<|R4 M).1;obtain ⟨t,mt,B,e5⟩|⟨t,mt,s,B,e5⟩|⟨t,mt,q,B,e5⟩|⟨t,mt,t',m',l,B,e5⟩:=lk
   ·rw[B]at p1
    obtain⟨b,eb,hb⟩:=p1;exact .tup _ _ _ eb hb rfl ⟨_,rfl,dS<|k2 (Se λe=>fJ<|B.symm.trans e) _<|cJ.refl _⟩
   ·rw[B]at p1
    exact .txt _ _ p1 rfl ⟨_,rfl,fD (dT0 rfl) ⟨_,rfl,k1 (dT0 B) _ _ (cJ.refl _) p2⟩⟩
   ·rw[B]at p1
    obtain⟨b,eb,hb⟩:=p1;exact .tup _ _ _ eb hb rfl ⟨_,rfl,dS<|k2 (Se λe=>eQ<|B.symm.trans e) _<|cJ.refl _⟩
   ·rw[B]at p1
    obtain⟨b,eb,hb⟩:=p1;exact .tup _ _ _ eb hb rfl ⟨_,rfl,dS<|k2 (Se λe=>eQ<|B.symm.trans e) _<|cJ.refl _⟩
  intro fi fv H3 cf s3 bc ar;have S:=bd.trans s3;have mF:∀l∈ls.filter λl=>decide<|l.1=sP,l.1=sP/\sv L (FL.fl R) l.1 l.2:=λl M=>⟨Sj (Su.mp M).2,mU l (Su.mp M).1⟩;have a2:(ls.filter λl=>decide<|l.1=sP).Nodup:=U6 Vt a4;have ce:(ls.filter λl=>decide<|l.1=sP).length<=100000:=SF (Ts _ _) a1;generalize ls.filter (λl=>decide<|l.1=sP)=ai at ar mF a2 ce al;refine⟨_,rfl,x,p,s,t,y,ps,ss,ts,ys,sg,F,sd,rfl,bk.mono S,pl,sl,as,gs.mono<|dz.mono<|Tk.of S,gp,qs.mono<|dD.mono<|Tk.of S,qk,sy.mono<|Tk.of S,YB,λen ev H4 s4 cg ca bf b4=>?_⟩;have a3:=S.trans s4;have O:=s4 _ _ bc;have ay:Lz (λH v (l:Pl×Pl)=>iS H l.2 v) H4 fv ai:=ar.mono λ_ _ h=>h.mono<|Tk.of s4;have bm:=(ax.same s3).same s4;have bv:∀u v,sv L (FL.fl R) u v->u≠sP->∃y,jL a9 u=some y/\iS H4 v y:=λu v U ns=>let ⟨y,h1,h2⟩:=fw u v U ns;⟨y,h1,h2.mono<|Tk.of<|s3.trans s4⟩;have ad:∀t∈ju F sd h,t∈(fF 0<|fH F).filter (dj F sd)/\cN F t.1<=h:=λt ht=>⟨(Su.mp ht).1,Sj (Su.mp ht).2⟩;clear fw ax ar s3 s4 bc bd S ab G;refine⟨_,rfl,fi,rfl,⟨_,cP.of O⟩,Jk (λH v l=>∃sm,Hu H v sm/\Ob (c4<|sg.filter<|cR sd) F ((fF 0<|fH F).filter<|dj F sd) z h (sv L<|FL.fl R) l sm) ai (λD v d Ha Hb nv up hD ⟨sm,⟨a,xs,ea,ha,tu⟩,o⟩=>⟨sm,⟨a,xs,ea,up a _ ha λe=>nv<|by rw[ea,e],tu.mono λb zs e=>up b _ e λq=>by
   obtain⟨yy,hy⟩:=hD;rw[q,hy]at e;cases e⟩,o⟩) (by lia) (λi H5 Z hi=>⟨fv,fv[i]'(by rw[ay.1];exact hi),cP.of<|Z _ _ O,RY _⟩) (λH5 Z=>⟨fv,cP.of<|Z _ _ O,Um ay.1⟩) ?_ (λ_ _ _ _ _ h k=>h _ _ k) ?_⟩
  ·intro i os v l H5 H6 K1 M aq Z yl k1
   obtain⟨e5,yl⟩:=yl;subst e5;have hv:=yl fv<|cP.of<|Z _ _ O;obtain⟨o1,rfl⟩:=KC aq;have pv:=(ay.2 i v l hv M).mono<|Tk.of Z;obtain⟨f1,f2⟩:=mF l<|R4 M;obtain⟨a,b⟩:=l;have f1:a=sP:=f1;subst f1;have f2:sv L (FL.fl R) sP b:=f2;obtain⟨t0,ch,_,eb⟩:=((I.mem _ _).mp f2.1).QB;have eb:b=ee t0.1:=eb;subst eb;obtain⟨g1,g2⟩:=I.into W f2.1;obtain⟨ks,wy⟩:=Ll I W _ t0.1 (R9 _) ⟨g1,by have:=f2.2;lia⟩;obtain⟨r1,r2⟩:=wy.rise I;have co:F.length<=120:=by rw[<-qs.1];exact as
   have kl:ks.length<=1000:=by
    have:=lN (ys:=List.range F.length) r2 λj hj=>by
     obtain⟨⟨t,mt,et⟩,_⟩:=r1 j hj;rw[<-et];exact TU.mpr<|ph qk mt
    rw[UU]at this;lia
   refine⟨⟨[some v],rfl,rfl⟩,⟨_,rfl,_,rfl,_,rfl,fo,a9,t0.1,v,ks,sv L<|FL.fl R,rfl,pv,bm.same Z,λu v' U ns=>let ⟨y,h1,h2⟩:=bv u v' U ns;⟨y,h1,h2.mono<|Tk.of Z⟩,wy,kl,λtk H7 s7 cp YI=>?_⟩⟩;refine⟨_,rfl,en,tk,ev,JP sg F sd,ks,z,h,F,(fF 0<|fH F).filter<|dj F sd,c4<|sg.filter<|cR sd,rfl,s7 _ _<|Z _ _ ca,bf.mono λ_ _ h=>lO.mono (Tk.of<|Z.trans s7) _ _ h,b4,YI,kl,λFk fo=>IP I fo ad wy f2,λd hd i e=>?_,λd hd k te e=>IU hd e,nz,λrl YS sm H8 s8 am ap tu lb bn b0=>k1 _ _ (s7.trans s8) ⟨rl,rfl,s7.free am⟩ ⟨sm,⟨rl,YS,rfl,ap,tu⟩,t0.1,ks,rfl,wy,lb,bn,b0⟩⟩;obtain⟨g,mg,e1,e2⟩:=Gz hd e;obtain⟨j,j1,j2⟩:=(ow (sg.filter<|cR sd) λ_=>none).2.2 g mg;rw[e1,e2];exact⟨j,j1,j2⟩
  ·intro rl rv H5 am Z ap b3
   obtain⟨Yx,bi,le,ho⟩:=AZ b3;have a0:=I.cut (N:=F.length) W rm cd.dd.nd cd.st nt cd.cl (λt ht=>ph qk ht) λx hx=>by
    obtain⟨e,he,rfl⟩:=SQ.mp hx;exact cd.sub e he
   obtain⟨C1,C2⟩:=a0;refine k nz rl rv Yx H5 (a3.trans Z) (a3.free am) ap bi ⟨λsm hm=>?_,λsm hm t ht=>?_,we I W a2 mF le ho⟩ ⟨⟨L,FL.fl R,I,?_⟩,Yj.map (·.1),C1,?_⟩
   ·obtain⟨i,hi⟩:=So hm
    obtain⟨l,M⟩:∃l,ai[i]? =some l:=⟨_,RY<|by grind⟩;obtain⟨_,_,_,_,h1,_⟩:=ho i l sm M hi;exact h1
   ·obtain⟨i,hi⟩:=So hm
    obtain⟨l,M⟩:∃l,ai[i]? =some l:=⟨_,RY<|by grind⟩;obtain⟨_,_,_,_,_,h2,_⟩:=ho i l sm M hi;exact(h2 t ht).2
   ·grind
   ·grind
end
inductive Ru(C i:X4)(vs:Yb V)(H:Hp)(Q:VK)(E:XK):Prop
 |mk(x p s t y:X4)(ps:Yb Yc)(ss g ys:Yb V)(f:Yb GD)(a:Yb QD)(sd:Yb SD)(z:Yc)(h:Int)(e:vs=[.ref x,.str z,.int h])(bk:Bk C H x p s t y ps ss g ys)(pl:ps.length<=24)(sl:ss.length<=24)(m:g.length<=120)(r:Lz dz H ss f)(q:∀d∈f,d.1∈ps)(v:Lz dD H g a)(n:∀d∈a,lS ps d)(o:Sys H ys sd)(l:ys.length<=60)
   (k:(∀j,c4 (f.filter (cR sd)) z=some j->h<j)->∀(l:X4)(S:Yb Pl)(H':Hp),cJ H H'->H l=none->H' l=some (.lst (nums (dX S a.length)))->wR a (c4 (f.filter (cR sd))) z (ju a sd h) S->zw a (c4 (f.filter (cR sd))) z (ju a sd h) a.length (dX S a.length).length->Q (.ref l) H')
   (w:∀j,c4 (f.filter (cR sd)) z=some j->j<=h->∀H',cJ H H'->E (.ref i) none H')
def NU(C a:X4):Sp:=λe H Q E=>Ru C a e H Q E
def JR(C a:X4):Sp:=λe H Q _=>Ru C a e H Q E0
section
variable {P:X6}{w:X7}{K:Frag}{mg:Yh}{base:Heap}{kw C Sa:X4}
def wD:cL ["book","person","hour","reached"] ["book","person","hour"] (cK lT):={}
def OM (D:Df K mg "talk_cut" lT ["book","person","hour"] f fd) (T:Txt K mg kw C) (M:Az P w K mg base 7 "talk_flow" (K9 P w C Sa)) (Zt:Md P w K mg base 1 C "talks" (dq C λ_ _ t _=>t)):Az P w K mg base 8 "talk_cut" (NU C Sa):=by
 refine J.v9 D wD (λvs H Q E h=>?_) λX Y H vs Q E fs h=>?_
 ·obtain⟨x,p,s,t,y,ps,ss,B,ys,sg,O,sd,z,h,rfl,_⟩:=h
  rfl
 ·obtain⟨x,p,s,t,y,ps,ss,B,ys,sg,O,sd,z,h,rfl,bk,pl,sl,am,gs,gp,qs,qk,sy,YB,k,kE⟩:=h
  have fr:=fs.fr;have a:=fr.here;obtain⟨rfl,rfl⟩:=And.intro a.pr a.wd;have o:=jg a.room;have Yu:=Sq;obtain⟨S0,S1,S2,S3,_⟩:=a.fA [0,1,2,3];refine⟨_,(af (aB (fs.slot S3) fs.nd<|ah aG (fs.cld M (aO (aa S0) (aa S1)<|aa S2) rfl (by lia) (by decide) rfl rfl) ae ak)
 (ag<|fr.js<|aD<|bN (is:=[3]) (xs:=["k"]) (ns:=["reached"]) a.calm (cb (a.b T.b_range)<|ao<|aH (a.b T.b_len) aV cZ<|ao<|bC (a.met Zt<|by decide) (aa S0) rfl) {} (λ_ _ _ _ _=>br (i:=0)) (λ_ _ _ _ _=>bP<|a7<|bq (J.Gg o (aN<|aE aw<|aT (i:=0))<|a5 (i:=1))<|bz<|J.oQ o (aN<|aE aw<|aT (i:=0))<|a5 (i:=1)) (λ_ _ _ _ _=>aT (i:=0)) a.hsc a.hN)),?_⟩
  refine⟨_,rfl,_,rfl,_,rfl,x,p,s,t,y,ps,ss,B,ys,sg,O,sd,z,h,rfl,bk,pl,sl,am,gs,gp,qs,qk,sy,YB,λnz tp ul cm us m L R n H1 s1 al av as v nt rm W TL lL=>?_,kE⟩;refine(xT al rfl ?_);obtain⟨⟨dx,A⟩,hp,hs,I,hy⟩:=bk.mono s1;refine⟨_,rfl,x,dx,_,rfl,A,fm _ _ _ _ (by decide+kernel) (by decide+kernel) (by decide+kernel)<|by decide+kernel,x,p,s,t,y,B,rfl,⟨dx,A⟩,I,λtb U=>?_⟩;generalize aq:upd H1 tb _=H2;obtain⟨s2,Z⟩:=nx U aq;have r:=v.mono s2;have aj:=qs.1;refine⟨tb,_,rfl,.inl<|cP.of Z,_,rfl,by lia,by lia,sI (lo:=0) (N:=B.length) (λk=>decide<|ee k∈m.map (·.1)/\eY k ∉ m.map (·.1)) (λi=>V.int (i:Nat)) (by lia) ?_ ?_⟩
  ·intro i os H3 K1 K2 hi ad G k1 k2
   obtain⟨o1,rfl⟩:=KC ad;rw[WN];have j:∀{H4:Hp}{u:Pl},(jo m u).isSome=true↔u∈m.map (·.1):=λ{H4 u}=>by
    rw[<-iX];unfold jL;rw[UW]
   refine⟨⟨[_],rfl,rfl⟩,⟨_,rfl,uk,λq nq=>?_⟩⟩;generalize ar:upd H3 q _=H4;obtain⟨F,hq⟩:=nx nq ar;refine⟨_,rfl,cm,m,ee i,rfl,(r.mono<|G.trans F).dd,⟨q,rfl,hq⟩,_,rfl,dJ (λac=>?_) λno=>?_⟩
   ·refine⟨_,rfl,uk,λq2 S=>?_⟩
    generalize ab:upd H4 q2 _=H5;obtain⟨s5,ai⟩:=nx S ab;refine⟨_,rfl,cm,m,eY i,rfl,(r.mono<|(G.trans F).trans s5).dd,⟨q2,rfl,ai⟩,_,rfl,dJ (λg=>?_) λan=>?_⟩
    ·refine⟨_,rfl,k1 (dT0 ⟨(j (H4:=H4)).mp ac,λz=>?_⟩) _<|F.trans s5⟩
     rw[(j (H4:=H4)).mpr z]at g;cases g
    ·refine k2 (Se λz=>an ?_) _ (F.trans s5)
     rw[Td.mpr λw=>z.2<|(j (H4:=H4)).mp w];rfl
   ·simp_all
  ·intro l H3 nl G hl
   have ap:=(s1.trans s2).trans G;rw[aj]at hl;obtain⟨C1,C2⟩:=TL.cut (N:=O.length) W rm v.dd.nd v.st nt v.cl (λt I=>ph qk I) λx A=>by
    obtain⟨e,he,rfl⟩:=SQ.mp A;exact v.sub e he
   refine k nz l (m.map λe:Pl×V×V=>e.1) H3 ap ((s1.trans s2).free nl) hl C1 ⟨⟨L,FL.fl R,TL,?_⟩,_,C1,rfl⟩;rw[<-C2];exact W
end
structure Rv(K:Frag)(mg:Yh)(Kn Sa Nb Nd Nr Ny Ns Tm:X4):Prop where
 oS:gJ K Sa (.ref Kn::oG)
 oK:gJ K Kn oG
 hS:mg "Saw" =some (.ref Sa)
 hK:mg "KnewError" =some (.ref Kn)
 g_Saw:∃u,mg "Saw" =some u/\RelV (.ref Sa) u
 G1z:∃u,mg "KnewError" =some u/\RelV (.ref Kn) u
 g_NoBook:∃u,mg "NoBook" =some u/\RelV (.ref Nb) u
 g_NoDeed:∃u,mg "NoDeed" =some u/\RelV (.ref Nd) u
 g_NoRow:∃u,mg "NoRow" =some u/\RelV (.ref Nr) u
 g_NoSaying:∃u,mg "NoSaying" =some u/\RelV (.ref Ny) u
 g_NoStory:∃u,mg "NoStory" =some u/\RelV (.ref Ns) u
 g_TooMuch:∃u,mg "TooMuch" =some u/\RelV (.ref Tm) u
 b_ValueError:mg "ValueError" =none
 k1:kitOne K (.ref Sa) (.ref Sa)=some true
 k2:kitOne K (.ref Sa) (.ref Kn)=some true
 k3:kitOne K (.ref Sa) (.type "ValueError")=some true
 k4:kitOne K (.ref Sa) (.ref Nb)=some false
 k5:kitOne K (.ref Sa) (.ref Nd)=some false
 k6:kitOne K (.ref Sa) (.ref Nr)=some false
 k7:kitOne K (.ref Sa) (.ref Ny)=some false
 k8:kitOne K (.ref Sa) (.ref Ns)=some false
 k9:kitOne K (.ref Sa) (.ref Tm)=some false
def _root_.L2.sf:bootBuiltins "ValueError" =some (.type "ValueError"):=by decide+kernel
inductive LB  (vs:Yb V)(H:Hp)(Q:VK):Prop
 |mk(i:Int)(h0:vs=[.int i])(a:Q (.bl true) H)
def Fe  :Sp:=λa H Q _=>LB  a H Q
inductive RB(C:X4)(vs:Yb V)(H:Hp)(Q:VK):Prop
 |mk(i:Int)(x p s t y:X4)(ps:Yb Yc)(ss f ys:Yb V)(a:Yb GD)(g:Yb QD)(sd:Yb SD)(z:Yc)(h j:Int)(e:vs=[.int i,.ref x,.str z,.int h])(bk:Bk C H x p s t y ps ss f ys)(pl:ps.length<=24)(sl:ss.length<=24)(m:f.length<=120)(r:Lz dz H ss a)(q:∀d∈a,d.1∈ps)(w:Lz dD H f g)(n:∀d∈g,lS ps d)(o:Sys H ys sd)(l:ys.length<=60)(A:c4 (a.filter (cR sd)) z=some j)(v:j<=h)
   (k:∀H',cJ H H'->Q (.bl true) H')
def yQ(C:X4):Sp:=λa H Q _=>RB C a H Q
section
variable {P:X6}{w:X7}{K:Frag}{mg:Yh}{base:Heap}{kw C Kn Sa Nb Nd Nr Ny Ns Tm:X4}
def yN:cL ["_law_found"] ["_law_found"] (cK nM):={}
def Mn (D:Df K mg "_law_whole" nM ["_law_found"] f fd) (T:Txt K mg kw C):Gd P w K mg base 1 "_law_whole" Fe:=by
 refine aJ D yN λX H j Q E e h=>?_;obtain⟨i,rfl,k⟩:=h;obtain⟨g,_⟩:=e.fA [0];have a:=e.b T.b_isinstance;exact⟨_,ag<|aD<|aU (aH a bJ cQ<|aE (aa g)<|J.ty (e.b T.b_int) y4)<|aY<|J.ro<|aH a bJ cQ<|aE (aa g)<|J.ty (e.b T.b_bool) AS,⟨_,rfl,_,_,_,_,rfl,eZ.int _,kI,_,rfl,eU ⟨_,rfl,_,_,_,_,rfl,eZ.int _,kI,_,rfl,k⟩⟩⟩
def E8:cL ["_law_way","_law_book_here","_law_person","_law_hour_here","e","_law_some"] ["_law_way","_law_book_here","_law_person","_law_hour_here"] (cK uC):={}
def Jc (D:Df K mg "_law_saw" uC ["_law_way","_law_book_here","_law_person","_law_hour_here"] f fd) (T:Txt K mg kw C) (a:Rv K mg Kn Sa Nb Nd Nr Ny Ns Tm) (ad:Az P w K mg base 8 "apart_lines" (OJ C Sa)) (O:Az P w K mg base 8 "talk_cut" (NU C Sa)):Gd P w K mg base 9 "_law_saw" (yQ C):=by
 refine J.Ht D E8 (λvs H Q E h=>?_) λX H vs Q E i U G S h=>?_
 ·obtain⟨wy,x,p,s,t,y,W,N,ts,ys,L,Y,sd,z,h,j,rfl,_⟩:=h
  rfl
 ·obtain⟨wy,x,p,s,t,y,W,N,ts,ys,L,Y,sd,z,h,j,rfl,bk,pl,sl,A,gs,gp,qs,qk,sy,YB,hj,jh,k⟩:=h
  obtain⟨S0,S1,S2,S3,q,I,_⟩:=i.fA [0,1,2,3,4,5];have Z:Bt X "ValueError" :=i.bt a.b_ValueError rfl (by decide) (by decide);have g:=i.b T.b_isinstance;obtain rfl:=i.fK;refine⟨_,(af (J.Ql i U (J.NR (S<|aI aS (aa S0) ae<|cM _) (J.Ak i ad (G<|aO (aa S1) (aa S2)<|aa S3) rfl (by lia)<|by decide)<|J.Ak i O (G<|aO (aa S1) (aa S2)<|aa S3) rfl (by lia)<|by decide) (λe=>(af (aB (I.mk' e) i.nd<|bg<|bL (aH (g.mk' e) bU cQ<|aE (aa<|q.mk' e)<|(λe=>bY i a.g_NoBook rfl (by decide) e) e) (aH (g.mk' e) bU cQ<|aE (aa<|q.mk' e)<|(λe=>bY i a.g_NoDeed rfl (by decide) e) e) (aH (g.mk' e) bU cQ<|aE (aa<|q.mk' e)<|(λe=>bY i a.g_NoRow rfl (by decide) e) e)<|aH (g.mk' e) bU cQ<|aE (aa<|q.mk' e)<|(λe=>bY i a.g_NoSaying rfl (by decide) e) e)
 (af (aB (I.mk' e) i.nd<|aF cn (aa<|I.mk' e)<|bg<|aO (aH (g.mk' e) bU cQ<|aE (aa<|q.mk' e)<|(λe=>bY i a.g_NoStory rfl (by decide) e) e) (aH (g.mk' e) bU cQ<|aE (aa<|q.mk' e)<|(λe=>bY i a.g_TooMuch rfl (by decide) e) e)<|J.ro<|aH (g.mk' e) bU cQ<|aE (aa<|q.mk' e)<|J.ty (Z.mk' e) L2.sf)
 (ag<|aD<|aU (aH (g.mk' e) bU cQ<|aE (aa<|q.mk' e)<|(λe=>bY i a.g_Saw rfl (by decide) e) e)<|aY<|aZ J.gv a8 (aa<|I.mk' e) cq)))) a.hK q rfl rfl<|by decide)
 (ag<|aD a8)),?_⟩
  have nz:¬ ∀j,c4 (L.filter<|cR sd) z=some j->h<j:=λn=>by
   have:=n j hj;lia
  refine both (λH1 B=>.pl a.oS a.oK λl R=>?_) λerr=>⟨_,rfl,rfl,_,rfl,dJ (λ_=>⟨_,rfl,_,rfl,_,rfl,x,p,s,t,y,W,N,ts,ys,L,Y,sd,z,h,rfl,bk,pl,sl,A,gs,gp,qs,qk,sy,YB,λn=>absurd n nz,λj' _ _ H1 B=>err H1 B⟩) λ_=>⟨_,rfl,_,rfl,_,rfl,x,p,s,t,y,W,N,ts,ys,L,Y,sd,z,h,rfl,bk,pl,sl,A,gs,gp,qs,qk,sy,YB,λn=>absurd n nz,λj' _ _ H1 B=>err H1 B⟩⟩;have s2:=B.trans<|cJ.upd (o:=.ext<|F5 l Sa) R;have r:upd H1 l (.ext<|F5 l Sa) l=some (.ext<|F5 l Sa):=cG;generalize upd H1 l (.ext<|F5 l Sa)=H2 at s2 r;refine⟨_,rfl,.own l Sa Kn Nb false rfl r a.oS a.oK a.k4 ⟨_,rfl,.own l Sa Kn Nd false rfl r a.oS a.oK a.k5 ⟨_,rfl,.own l Sa Kn Nr false rfl r a.oS a.oK a.k6 ⟨_,rfl,.own l Sa Kn Ny false rfl r a.oS a.oK a.k7 ⟨MU,λF v=>?_⟩⟩⟩⟩⟩;have s3:=s2.trans<|cJ.upd (o:=.lst [V.bl false,V.bl false,V.bl false,V.bl false]) v;have h1:upd H2 F (.lst [V.bl false,V.bl false,V.bl false,V.bl false]) F=some (.lst [V.bl false,V.bl false,V.bl false,V.bl false]):=cG;have m:=cJ.upd (o:=.lst [V.bl false,V.bl false,V.bl false,V.bl false]) v _ _ r;generalize upd H2 F (.lst [V.bl false,V.bl false,V.bl false,V.bl false])=H3 at s3 h1 m;refine⟨_,rfl,_,rfl,.own l Sa Kn Ns false rfl m a.oS a.oK a.k8 ⟨_,rfl,.own l Sa Kn Tm false rfl m a.oS a.oK a.k9 ⟨_,rfl,.ty l Sa Kn "ValueError" true rfl m a.oS a.oK a.k3 ⟨_,rfl,tL,λM ab=>?_⟩⟩⟩⟩;show OB X.K (.ref F) (.ref M) (upd H3 M<|.lst [V.bl false,V.bl false,V.bl false]) _;generalize ac:upd H3 M _=H4;obtain⟨sB,h2⟩:=nx ab ac;refine⟨F,M,_,_,rfl,rfl,cP.of<|sB _ _ h1,cP.of h2,by show 4+3<=sizeLine;decide,λl3 ai=>?_⟩;have sC:=cJ.upd (o:=.lst<|[V.bl false,V.bl false,V.bl false,V.bl false]++[V.bl false,V.bl false,V.bl false]) ai;refine⟨_,rfl,.own l Sa Kn Sa true rfl (sC _ _<|sB _ _ m) a.oS a.oK a.k1 ⟨_,rfl,eU ?_⟩⟩;exact⟨_,rfl,l3,_,rfl,.inl<|cP.of cG,rfl,rfl,k _<|(s3.trans sB).trans sC⟩
end
inductive QP(C:X4)(vs:Yb V)(H:Hp)(Q:VK):Prop
 |mk(j p s t y x m s' t' l ol i:X4)(ps:Yb Yc)(ss g ys os:Yb V)(Yj:Yb (Key×V))(f:Yb GD)(a:Yb QD)(sd:Yb SD)(z:Yc)(h:Int)(e:vs=[.ref j,.ref x,.ref ol,.ref i,.str z,.int h])(ok:jc ps H j p s t y ss g ys)(bk:Bk C H x m s' t' l ps ss g ys)(pl:ps.length<=24)(r:Lz dz H ss f)(q:∀d∈f,d.1∈ps)(v:Lz dD H g a)(n:∀d∈a,lS ps d)(o:Sys H ys sd)(w:H ol=some (.lst os))(to:d6 H os ((fF 0 (fH a)).filter (dj a sd)))(A:H i=some (.dK Yj))(sn:lq Yj (c4 (f.filter (cR sd))))
   (k:∀H',cJ H H'->Q (.bl true) H')
def JZ(C:X4):Sp:=λa H Q _=>QP C a H Q
def numsOf(Yx:Yb (Yb TK)):Yb Nat:=Yx.flatMap λa=>a.map (·.1)
inductive Oo(j x ol m:X4)(z:Yc)(h:Int)(g l:X4)(H1:Hp)(Yx:Yb (Yb TK))(i:Nat)(σ:St)(a:Hp):Prop
 |mk(f:X4)(n:X8 V)(e:σ=[some (.ref j),some (.ref x),some (.ref ol),some (.ref m),some (.str z),some (.int h),some (.ref g),some (.ref l),some (.ref f),n,none,none])(o:cJ H1 a)(p:a f=some (.lst (nums (numsOf (Yx.take i)))))
def FR:(numsOf<|Yx.take i).length<=(numsOf Yx).length:=by
 have e:numsOf Yx=numsOf (Yx.take i)++numsOf (Yx.drop i):=by
  unfold numsOf;rw[<-Wq,Tg]
 grind
def back(s:cJ H H')(n:H' a=none):H a=none:=by
 cases e:H a with
 |none=>rfl
 |some o=>exact absurd ((s a o e).symm.trans n) (by intro q;cases q)
def LV{S:Yb Pl}{N i j a b:Nat}(h:i<j)(f:(dX S N)[i]? =some a)(n:(dX S N)[j]? =some b):a<b:=by
 have l:(dX S N).Pairwise (· < ·):=Wb Vt XE;obtain⟨m,e⟩:=gI0.mp f;obtain⟨g,o⟩:=gI0.mp n;have:=VQ.mp l i j m g h;rw[e,o]at this;exact this
section
variable {P:X6}{w:X7}{K:Frag}{mg:Yh}{base:Heap}{kw C Sa:X4}
def zG:cL ["_law_made_here","_law_book_here","_law_open_ones","_law_seen_here","_law_person","_law_hour_here","_law_found","_law_numbers","_law_used","_law_some","_law_k","_law_many"] ["_law_made_here","_law_book_here","_law_open_ones","_law_seen_here","_law_person","_law_hour_here"] (cK n9):={}
def MG {fd:FuncData}(D:Df K mg "_law_asked" n9 ["_law_made_here","_law_book_here","_law_open_ones","_law_seen_here","_law_person","_law_hour_here"] f fd) (T:Txt K mg kw C) (cp:Gd P w K mg base 8 "apart_lines" (Kx C Sa)) (cr:Gd P w K mg base 8 "talk_cut" (JR C Sa)) (cf:Gd P w K mg base 9 "_law_saw" (yQ C)) (ch:Gd P w K mg base 2 "_law_line_good" Br) (ck:Gd P w K mg base 1 "_law_whole" Fe):Gd P w K mg base 10 "_law_asked" (JZ C):=by
 refine aJ D zG λX H vs Q E r h=>?_;obtain⟨md,p,s,t,y,x,p',s',t',y',ol,se,ps,ss,ts,ys,os,Yj,M,g,sd,z,h,rfl,ok,bk,pl,gs,gp,qs,qk,sy,YV,to,Y6,sn,k⟩:=h;have bm:=r.eO cf rfl (by lia) (by decide);have bd:=r.eO cp rfl (by lia) (by decide);have bc:=r.eO cr rfl (by lia) (by decide);have hu:=d9 r.room;have Yu:=Sq;obtain⟨S0,S1,S2,S3,S4,S5,S6,S7,S8,S9,U,as,_⟩:=r.fA [0,1,2,3,4,5,6,7,8,9,10,11];have am:=r.b T.b_isinstance;have B:=r.b T.b_len;have al:=r.b T.b_list;refine⟨_,(af (aK (a7<|bq (J.Ek hu (aa S4)<|aa S3)<|bz<|aI bB (aM hu (aa S3) (aa S4) aQ) (aa S5)<|cM _)
 (ag<|aD<|aU (au bm<|bL ae (aa S1) (aa S4)<|aa S5)<|aY<|au bm<|bL ae (aa S1) (aa S4)<|aa S5)
 aL)
 (af (aB S6 r.nd<|au bd<|aO (aa S1) (aa S4)<|aa S5)
 (af (aB S7 r.nd<|au bc<|aO (aa S1) (aa S4)<|aa S5)
 (af (aK (a7<|bI (bp<|bo<|aH am bJ cQ<|aE (aa S6)<|J.ty al dQ)<|bI (bp<|bo<|aH am bJ cQ<|aE (aa S7)<|J.ty al dQ)<|bR<|aI cu (aH B aV cZ<|ao<|aa S6) (aH B aV cZ<|ao<|aa S7)<|cM _)
 (ag<|aD a8)
 aL)
 (af (aB S8 r.nd<|bg bF)
 (af (bh r.own r.calm (aX<|aa S6) (aR S9 r.nd)
 (af (aK (bp<|bo<|aH am bJ cQ<|aE (aa S9)<|J.ty al dQ)
 (ag<|aD a8)
 aL)
 (af (aK (bp<|bo<|au (r.eO ch rfl (by lia)<|by decide)<|b9 (aa S0)<|J.Qp (aa S2) (aa S3) (aa S9) (aa S4)<|aa S5)
 (ag<|aD a8)
 aL)
 (ag<|aB S8 r.nd<|aF cn (aa S8)<|bN (is:=[]) (xs:=["_law_telling"]) (ns:=[]) r.calm (aX<|aa S9) {} (λ_ _ _ _ _=>br (i:=0)) (λ_ _ _ _ _=>bX) (λ_ _ _ _ _=>ah bE (aT (i:=0)) ae ak) r.hsc r.hN))))
 (af (aK (aI cu (aH B J.fU cZ<|ao<|bu (r.b T.b_set) (J.nJ r.calm) DA<|ao<|aa S8) (aH B aV cZ<|ao<|aa S8)<|cM _)
 (ag<|aD a8)
 aL)
 (af (bh r.own r.calm (cb (r.b T.b_range)<|ao<|aH B aV cZ<|ao<|aa S7) (aR U r.nd)
 (af (aK (a7<|bI (bp<|bo<|au (r.eO ck rfl (by lia)<|by decide)<|ao<|ah aP (aa S7) (aa U) aQ)<|bR<|bp<|J.iJ bB b6 ae (ah aP (aa S7) (aa U) aQ) (aH B aV cZ<|ao<|aM hu (aa S0) aw ak) iZ)
 (ag<|aD a8)
 aL)
 (ag (aK (a7<|bq (aI bV (aa U) ae<|cM _)<|bz<|aI bB (ah aP (aa S7) (aa U) aQ) (ah aP (aa S7) (aF J.p5 (aa U) ae) bK)<|cM _)
 (ag<|aD a8)
 aL))))
 (af (bw<|J.RT Ti PySem.F.slot_list_clear PySem.F.type_list_clear J.pU<|aa S6)
 (af (bw<|bA Ti SE SG bG (aa S7)<|ao ae)
 (af (aB as r.nd<|aH B aV cZ<|ao<|au bd<|aO (aa S1) (aa S4)<|aa S5)
 (ag<|aD<|aU (aZ aS (aH B aV cZ<|ao<|au bc<|aO (aa S1) (aa S4)<|aa S5) (aa as)<|cM _)<|aY<|aZ aS (aH B aV cZ<|ao<|aa S7) (aF bD (aa as) ae)<|cM _)))))))))))),?_⟩
 have sl:=ok.ls;have dd:=ok.lt;have YB:=ok.ly;have ax:ts.length<=120:=by lia
 have de:=qs.1;have dg:=dP.k (k:=Sum.inr z) Y6;rw[sn.get]at dg;have a9:∀{H1:Hp}{Q1:VK},cJ H H1->(∀j,c4 (M.filter<|cR sd) z=some j->h<j)->(∀(l:X4) (us:Yb V) (Yx:Yb (Yb TK)) (W:Hp),cJ H1 W->H1 l=none->W l=some (.lst us)->Lz Hu W us Yx->Fv (c4<|M.filter<|cR sd) g ((fF 0<|fH g).filter<|dj g sd) z h Yx->zw g (c4<|M.filter<|cR sd) z (ju g sd h) g.length Yx.length->Q1 (.ref l) W)->Kx C Sa [.ref x,.str z,.int h] H1 Q1 E0:=λA nz k1=>
  ⟨x,p',s',t',y',ps,ss,ts,ys,M,g,sd,z,h,rfl,bk.mono A,pl,sl,ax,gs.mono<|dz.mono<|Tk.of A,gp,qs.mono<|dD.mono<|Tk.of A,qk,sy.mono<|Tk.of A,YB,λ_=>k1,λj e le=>by have:=nz j e;lia⟩
 have bv:∀{H1:Hp}{Q1:VK},cJ H H1->(∀j,c4 (M.filter<|cR sd) z=some j->h<j)->(∀(l:X4) (S:Yb Pl) (W:Hp),cJ H1 W->H1 l=none->W l=some (.lst<|nums<|dX S g.length)->wR g (c4<|M.filter<|cR sd) z (ju g sd h) S->zw g (c4<|M.filter<|cR sd) z (ju g sd h) g.length (dX S g.length).length->Q1 (.ref l) W)->JR C Sa [.ref x,.str z,.int h] H1 Q1 E0:=λA nz k1=>
  ⟨x,p',s',t',y',ps,ss,ts,ys,M,g,sd,z,h,rfl,bk.mono A,pl,sl,ax,gs.mono<|dz.mono<|Tk.of A,gp,qs.mono<|dD.mono<|Tk.of A,qk,sy.mono<|Tk.of A,YB,λ_=>k1,λj e le=>by have:=nz j e;lia⟩
 have bj:∀{H1:Hp}{Q1:VK}{wy j:Int},cJ H H1->c4 (M.filter<|cR sd) z=some j->j<=h->(∀W,cJ H1 W->Q1 (.bl true) W)->yQ C [.int wy,.ref x,.str z,.int h] H1 Q1 E0:=λA hj jh k1=>
  ⟨_,x,p',s',t',y',ps,ss,ts,ys,M,g,sd,z,h,_,rfl,bk.mono A,pl,sl,ax,gs.mono<|dz.mono<|Tk.of A,gp,qs.mono<|dD.mono<|Tk.of A,qk,sy.mono<|Tk.of A,YB,hj,jh,k1⟩
 have hN:∀t∈ju g sd h,t.1<g.length:=λt ht=>ph qk ht;refine kP (λbn W=>(∀j,c4 (M.filter<|cR sd) z=some j->h<j)/\bn=[some<|.ref md,some<|.ref x,some<|.ref ol,some<|.ref se,some<|.str z,some<|.int h,none,none,none,none,none,none]/\cJ H W) ?_ (match c4 (M.filter<|cR sd) z with|none=>false|some j=>decide<|j<=h) (λQ' q'=>?_) (λar H1 A _=>?_) λno H1 A=>?_
 rotate_left
 ·cases hF:c4 (M.filter<|cR sd) z with
  |none=>
   rw[hF]at dg q';exact⟨_,rfl,_,rfl,se,_,rfl,dg,_,rfl,gQ bF0<|q' _<|cJ.refl _⟩
  |some j=>
   rw[hF]at dg q';exact⟨_,rfl,_,rfl,se,_,rfl,dg,_,rfl,fD rfl ⟨_,rfl,_,rfl,se,_,rfl,dg,_,rfl,_,_,rfl,rfl,_,rfl,q' _<|cJ.refl _⟩⟩
 ·cases hF:c4 (M.filter<|cR sd) z with
  |none=>grind
  |some j=>
   rw[hF]at ar;exact⟨_,rfl,_,rfl,_,rfl,bj A hF (Sj ar) λH2 s2=>⟨_,rfl,eU ⟨_,rfl,_,rfl,_,rfl,bj (A.trans s2) hF (Sj ar) λH3 s3=>k _<|(A.trans s2).trans s3⟩⟩⟩
 ·refine⟨λj e=>?_,rfl,A⟩
  rw[e]at no;have:=of_decide_eq_false no;lia
 rintro bn H1 ⟨nz,rfl,A⟩;refine⟨_,rfl,_,rfl,_,rfl,a9 A nz λfo us Yx H2 s2 co aq ai lo mx=>?_⟩;have av:=A.trans s2;refine⟨_,rfl,_,rfl,_,rfl,bv av nz λR S H3 s3 ap I cs ay=>?_⟩;have a0:=av.trans s3;have G:=s3 _ _ aq;have bi:Lz Hu H3 us Yx:=⟨ai.1,λi v Z hv hs=>let ⟨a,xs,e,ha,tu⟩:=ai.2 i v Z hv hs;⟨a,xs,e,s3 _ _ ha,tu.mono<|Tk.of s3⟩⟩;have nn:Yx.length=(dX S g.length).length:=mx.one hN ay;have cg:us.length=(dX S g.length).length:=ai.1.trans nn;have a2:(nums<|dX S g.length).length=(dX S g.length).length:=R5 _;have cl:(dX S g.length).length<=64:=by
  have:=Ts (λk=>decide<|ee k∈S/\eY k ∉ S)<|List.range g.length;rw[UU]at this;have:(dX S g.length).length<=g.length:=this;lia
 have nl:(numsOf Yx).length<=64:=by
  have:=lN (xs:=numsOf Yx) (ys:=List.range g.length) lo.nd λa ha=>by
   obtain⟨Z,hm,ha⟩:=WS.mp ha;obtain⟨t,ht,rfl⟩:=SQ.mp ha;obtain⟨q,hq,_⟩:=qh qk (Su.mp<|lo.inn Z hm t ht).1;exact TU.mpr (gI0.mp hq).1
  rw[UU]at this;lia
 have b4:R≠fo:=λe=>by
  rw[e,aq]at ap;cases ap
 have a1:H fo=none:=back A co;have a3:H R=none:=back av ap;clear ai aq s2 A dg;refine⟨_,rfl,_,_,_,_,rfl,eZ.lst G,kI,_,rfl,iN ⟨_,rfl,_,_,_,_,rfl,eZ.lst I,kI,_,rfl,iN ⟨_,rfl,fo,_,rfl,.inl<|cP.of G,_,rfl,R,_,rfl,.inl<|cP.of I,rfl,_,rfl,gQ ?_ ?_⟩⟩⟩
 ·rw[a2,cg,dT0 rfl]
  decide
 refine⟨Km,λua ct=>?_⟩;have a4:=cJ.upd (o:=.lst []) ct;refine⟨_,rfl,fo,rfl,⟨_,cP.of<|a4 _ _ G⟩,dw (K:=X.K) (a:=fo) (xs:=us) (Oo md x ol se z h fo R H3 Yx) ⟨ua,none,rfl,a4,cG⟩ ?_ ?_ ?_⟩
 ·rintro i σ H4 hi ⟨ub,e9,rfl,kp,hu⟩
  exact cP.of<|kp _ _ G
 ·rintro i v σ H4 hv ⟨ub,e9,rfl,kp,hu⟩
  obtain⟨Z,an⟩:∃Z,Yx[i]? =some Z:=⟨_,RY<|by grind⟩;obtain⟨so,xs,rfl,Za,tu⟩:=bi.2 _ _ _ hv an;have be:=R4 an;have bb:numsOf (Yx.take<|i+1)=numsOf (Yx.take i)++Z.map (·.1):=by
   rw[SU,an];unfold numsOf;rw[Wq];show _++(Z.map (·.1)++[])=_;rw[SH]
  have l1:=FR (Yx:=Yx) (i:=i+1);have l2:=l1;rw[bb,R3,R5]at l2;have xl:=tu.1;have ab:=a0.trans kp;have dk:=hu;refine⟨_,rfl,_,_,_,_,rfl,eZ.lst<|kp _ _ Za,kI,_,rfl,iN ⟨_,rfl,_,rfl,_,rfl,_,rfl,_,rfl,_,rfl,⟨md,p,s,t,y,ol,se,so,ps,ss,ts,ys,os,xs,g,_,Z,Yj,_,z,h,rfl,ok.mono ab,qs.mono<|dD.mono<|Tk.of ab,ab _ _ YV,to.mono<|Tk.of ab,ab _ _ Y6,sn,kp _ _ Za,tu.mono<|Tk.of kp,by lia,λt ht=>?_,λH5 L=>?_⟩⟩⟩
  ·obtain⟨q,hq,_⟩:=qh qk (Su.mp<|lo.inn Z be t ht).1
   exact(gI0.mp hq).1
  rw[lo.line Z be];have Y:=kp.trans L;have N:=Y _ _ Za;have b0:=tu.mono<|Tk.of Y;refine⟨_,rfl,iN ⟨_,rfl,_,rfl,so,rfl,⟨_,cP.of N⟩,og (λ_ v (t:TK)=>v=V.int (t.1:Nat)) Z (λ_=>true) (λv d _ _ t h=>h) (by lia) (λj H6 s6 hj=>⟨xs,xs[j]'(by rw[xl];exact hj),cP.of<|s6 _ _ N,RY _⟩) (λH6 s6=>⟨xs,cP.of<|s6 _ _ N,Um xl⟩) ?_ ?_⟩⟩
  ·intro j os v d H6 H7 K1 K2 hd cc s6 yy k1 k2
   obtain⟨e3,yy⟩:=yy;subst e3;have hv:=yy xs<|cP.of<|s6 _ _ N;obtain⟨o1,rfl⟩:=KC cc;obtain⟨b,rfl,hb⟩:=b0.2 _ _ _ hv hd;exact⟨⟨[_],rfl,rfl⟩,⟨_,rfl,xT (s6 _ _ hb) rfl<|k1 rfl _ _ (cJ.refl _) rfl⟩⟩
  intro nb dl H6 dc s6 cd b1;have ye:=Es b1;rw[Wo.mpr λ_ _=>rfl]at ye;subst ye;have cm:=s6 _ _<|L _ _ hu;refine⟨ub,nb,_,_,rfl,rfl,cP.of cm,cP.of cd,?_,λuc b2=>?_⟩
  ·show(List.map _ _).length+(List.map _ _).length<=_
   rw[R5,R5];lia
  refine⟨uc,_,rfl,(Y.trans s6).trans<|cJ.upd b2,?_⟩;rw[cG,bb];show some (HO.lst _)=some (HO.lst<|List.map _<|_++_);rw[TQ,Ut];rfl
 ·rintro σ H4 ⟨ub,e9,rfl,kp,hu⟩
  rw[bi.1,Tj]at hu;have dr:(nums<|numsOf Yx).length=(numsOf Yx).length:=R5 _;refine⟨_,rfl,ub,numsOf Yx,rfl,cP.of hu,lo.nd,by lia,λq nq=>⟨q,_,rfl,cG,_,rfl,ub,_,rfl,.inl<|cP.of<|cJ.upd nq _ _ hu,rfl,_,rfl,gQ ?_ ?_⟩⟩
  ·grind
  have Y:=kp.trans<|cJ.upd (o:=setM X.prog X.w q (numsOf Yx).length) nq;have O:=Y _ _ I;refine⟨_,rfl,R,_,rfl,.inl<|cP.of O,_,rfl,by lia,by lia,iB (lo:=0) (n:=((nums<|dX S g.length).length:Int).toNat) (λi σ H5=>∃YC,σ=[some<|.ref md,some<|.ref x,some<|.ref ol,some<|.ref se,some<|.str z,some<|.int h,some<|.ref fo,some<|.ref R,some<|.ref ub,e9,YC,none]/\cJ H3 H5) ⟨none,rfl,Y⟩ ?_ ?_⟩
  ·rintro i σ H5 hi ⟨YC,rfl,L⟩
   have c2:i<(dX S g.length).length:=by lia
   have hc:(dX S g.length)[i]? =some (dX S g.length)[i]:=RY c2;generalize (dX S g.length)[i]=n at hc;have hn:mZ (nums<|dX S g.length) (0+(i:Int))=some (.int (n:Nat)):=by
    rw[show(0:Int)+(i:Int)=((i:Nat):Int) by lia];refine c8 ?_;show(List.map _ _)[i]? =_;rw[Sk,hc];rfl
   have db:n<g.length:=TU.mp (Su.mp<|R4 hc).1;have bf:=ok.mono<|a0.trans L;refine⟨_,rfl,_,rfl,xL (L _ _ I) hn ⟨_,rfl,_,rfl,iN ⟨_,rfl,_,rfl,xL (L _ _ I) hn ⟨_,_,rfl,rfl,_,rfl,fD (dT0<|by lia) ⟨_,rfl,md,_,rfl,bf.dt,t,_,rfl,.inl<|cP.of bf.ht,_,_,rfl,rfl,_,rfl,gQ ?_ ⟨_,rfl,_,_,rfl,rfl,_,rfl,?_⟩⟩⟩⟩⟩⟩
   ·grind
   cases i with
   |zero=>exact iN<|iN ⟨_,rfl,L⟩
   |succ i=>
    obtain⟨m,hm⟩:∃m,(dX S g.length)[i]? =some m:=⟨_,RY<|by lia⟩;have lt:=LV (Vp i) hm hc;have b3:mZ (nums<|dX S g.length) (0+((i+1:Nat):Int)-1)=some (.int (m:Nat)):=by
     rw[show(0:Int)+((i+1:Nat):Int)-1=((i:Nat):Int) by lia];refine c8 ?_;show(List.map _ _)[i]? =_;rw[Sk,hm];rfl
    refine fD (dT0<|by lia) ⟨_,rfl,_,rfl,xL (L _ _ I) hn ⟨_,rfl,_,rfl,_,_,rfl,rfl,xL (L _ _ I) b3 ⟨_,_,rfl,rfl,_,rfl,gQ ?_ ⟨_,rfl,L⟩⟩⟩⟩;rw[Se<|show ¬((n:Nat):Int)<=((m:Nat):Int) by lia]
    decide
  ·rintro σ H5 ⟨YC,rfl,L⟩
   have ad:=L _ _ G;have O:upd H5 fo (.lst []) R=some (.lst<|nums<|dX S g.length):=(cI b4).trans<|L _ _ I;refine⟨_,rfl,.inl ⟨rfl,_,cP.of ad⟩,fo,_,rfl,rfl,ad,_,rfl,.inl ⟨rfl,_,cP.of O⟩,R,_,_,rfl,rfl,O,by lia,?_⟩;have ac:upd (upd H5 fo<|.lst []) R (.lst<|nums (dX S g.length)++[.int 0]) R=some (.lst<|nums (dX S g.length)++[.int 0]):=cG;have aj:cJ H (upd (upd H5 fo<|.lst []) R<|.lst<|nums (dX S g.length)++[.int 0]):=λa o e=>by
    rw[cI (λq=>by rw[q,a3]at e;cases e),cI λq=>by rw[q,a1]at e;cases e];exact L _ _<|a0 _ _ e
   generalize upd (upd H5 fo<|.lst []) R (.lst<|nums (dX S g.length)++[.int 0])=H6 at ac aj;refine⟨_,rfl,_,rfl,_,rfl,a9 aj nz λf2 ce c5 H7 s7 c7 ca c0 da c3=>⟨f2,_,rfl,.inl<|cP.of ca,?_⟩⟩;have n7:ce.length=(dX S g.length).length:=c0.1.trans<|c3.one hN ay;rw[n7];refine⟨_,rfl,_,rfl,_,rfl,bv (aj.trans s7) nz λbx S2 H8 s8 dn c1 dm cx=>⟨bx,_,rfl,.inl<|cP.of c1,?_⟩⟩;have n8:(nums<|dX S2 g.length).length=(dX S g.length).length:=(R5 _).trans<|cx.one hN ay;rw[n8];refine⟨_,rfl,rfl,⟨_,rfl,fD (dT0 rfl) ⟨_,rfl,R,_,rfl,.inl<|cP.of<|s8 _ _<|s7 _ _ ac,_,rfl,_,_,rfl,rfl,rfl,?_⟩⟩⟩;have:=k H8<|(aj.trans s7).trans s8
   rwa [show true=decide (V.int ((nums (dX S g.length)++[V.int 0]).length:Nat)=V.int (((dX S g.length).length:Nat)+1:Int)) from (dT0<|by grind).symm]at this
end
inductive MR  (K:Frag)(vs:Yb V)(H:Hp)(Q:VK):Prop
 |mk(a:X4)(ns:Yb Int)(h0:vs=[.ref a])(f:cP K H a (ns.map V.int))(e:ns.length<=63)(g:∀H',Q (.bl true) H')
def Be  (K:Frag):Sp:=λa H Q _=>MR K a H Q
def Bf{K:Frag}{C:X4}{bm:Yb X3}(q:ownIn K C bm=true):gJ K C bm:=by
 unfold ownIn at q;split at q
 ·rename_i L H sl G
  split at q
  ·rename_i N D o j v m n p s r
   simp only[and_eq_true,beq_iff_eq,not_eq_true']at q;obtain⟨⟨⟨⟨⟨⟨rfl,rfl⟩,a⟩,rfl⟩,f⟩,e⟩,B⟩:=q;obtain⟨y,bs,F,A,z,w,I,h,E,i,M⟩:=H;dsimp only at s a f e;subst s a;have g:sl= #[o,j,v,m,some<|.builtin "ValueError.__new__",p]:=by
    obtain⟨l⟩:=sl;simp only at r;rw[r]
   subst g;exact⟨y,z,A,bs,w,I,h,E,i,L,o,j,v,m,p,G,f,λx J=>UJ.mp<|Tv.mp e x J,B⟩
  ·cases q
 ·cases q
def Jz(e f:Bool)(g:∀a:Bool->Hp->Prop,(∀H',cJ H H'->a e H')->t σ H a)(i:∀H',cJ H H'->∀a:Bool->Hp->Prop,a f H'->u σ H' a)(k:∀H',cJ H H'->Q (e&&f) H'):KD t u σ H Q:=by
 refine g _ λH' h=>?_;grind
def Jh(m:∀g:VK,g (.ref a) H->te σ H g)(h:H a=some (.lst xs))(k:∀H',cJ H H'->Q (.bl<|!xs.isEmpty) H'):yM (λx y H Q=>GH K x y H Q) te (Gu kU) σ H Q:=by
 refine m _ ⟨by decide,λe n=>?_⟩;have f:=cJ.upd (o:=.lst []) n;cases xs with
 |nil=>exact .same a e [] [] [] rfl rfl (cP.of<|f _ _ h) (cP.of cG) rfl rfl (λi u v c p=>by cases p)<|k _ f
 |cons j l=>exact .other a e (j::l) [] rfl rfl (cP.of<|f _ _ h) (cP.of cG) (by grind)<|k _ f
def yJ(s:cP K H a xs)(t:cP K H b xs)(f:∀x∈xs,∃c,x=.ref c)(q:Q (.bl true) H):K7 K (.ref a) (.ref b) H Q:=by
 refine .same a b _ _ (List.replicate xs.length true) rfl rfl s t (Vk ..).symm (Vk ..).symm (λi u v c g e j=>?_) ?_
 ·rw[g]at e
  cases e;obtain⟨d,rfl⟩:=f u<|R4 g;have:=R4 j;rw[Xk this];exact Sb rfl
 ·rw[II,show(List.replicate xs.length true).all id=true from Tv.mpr λb h=>Xk h]
  exact q
def LY:cL ["_law_script","_law_made_here","_law_book_here","_law_open_ones","_law_seen_here","_law_k","_law_cell","_law_person","_law_hour_here"] ["_law_script"] (cK pP):={}
def Li (F:oI K "law" "law" pP f fd) (T:Txt K mg kw C) (a3:Gd P w K mg base 3 "_law_made" (Fg K)) (ZC:Gd P w K mg base 1 "_law_mix" sJ) (av:Gd P w K mg base 9 "_law_book" (Kw C)) (as:Gd P w K mg base 2 "_law_open" Bo) (a4:Gd P w K mg base 2 "_law_seen" Al) (a1:Gd P w K mg base 10 "_law_asked" (JZ C)) (ar:Md P w K mg base 1 C "sights" (dq C λ_ s _ _=>s)) (Zt:Md P w K mg base 1 C "talks" (dq C λ_ _ t _=>t)) (bf:Md P w K mg base 1 C "sayings" (dq C λ_ _ _ y=>y)):dZ P w K mg base mH 11 f fd ["_law_script"] (Be K):=by
 refine J.pA F LY (λvs H Q E h=>?_) λX H vs Q E j h=>?_
 ·obtain⟨a,ns,rfl,_⟩:=h
  rfl
 ·obtain⟨sc,ns,rfl,ac,ax,q⟩:=h
  have G:=d9 j.room;obtain⟨S0,D,S2,S3,S4,S5,S6,S7,S8,_⟩:=j.fA [0,1,2,3,4,5,6,7,8];have ab:=j.b T.b_len;obtain rfl:=j.fK;have Yu:=Sq;refine⟨_,(af (aB D j.nd<|au (j.eO a3 rfl (by lia)<|by decide)<|ao<|aa S0)
 (af (aB S2 j.nd<|au (j.eO av rfl (by lia)<|by decide)<|ao<|aa D)
 (af (aB S3 j.nd<|au (j.eO as rfl (by lia)<|by decide)<|ao<|aa D)
 (af (aB S4 j.nd<|au (j.eO a4 rfl (by lia)<|by decide)<|ao<|aa D)
 (af (bh j.own j.calm (cb (j.b T.b_range)<|ao ae) (aR S5 j.nd)
 (af (aB S6 j.nd<|au (j.eO ZC rfl (by lia)<|by decide)<|aE (aH (j.b T.b_sum) (J.oB j.calm) Lr<|ao<|bW cB (aa S0) b7<|b5 ae)<|aF bD ae<|aa S5)
 (af (aB S7 j.nd<|ah aP (aM G (aa D) aw ak) (aF ba (aF bD (aa S6)<|aa S5)<|aH ab aV cZ<|ao<|aM G (aa D) aw ak) bK)
 (af (aK (a7<|bq (aI aS (aa S5) ae<|cM _)<|bz<|aI bV (aH ab aV cZ<|ao<|aM G (aa D) aw ak) ae<|cM _)
 (ag<|aB S7 j.nd<|ah aP (aM G (aa D) aw ak) ae ak)
 aL)
 (af (aB S8 j.nd<|aF J.ou ae ae)
 (af (aK (a7<|bq (aI (J.pe G) (aM G (aa D) aw ak) (bg bF)<|cM _)<|bq (aI bV (aa S5) ae<|cM _)<|bz<|aI bV (aF ba (aF bQ (aa S6) ae) ae) ae<|cM _)
 (ag<|aB S8 j.nd<|ah aG (ah aP (aM G (aa D) aw ak) (aF ba (aF bQ (aa S6) ae)<|aH ab aV cZ<|ao<|aM G (aa D) aw ak) bK) ae ak)
 aL)
 (ag (aK (bp<|bo<|au (j.eO a1 rfl (by lia)<|by decide)<|b9 (aa D)<|J.Qp (aa S2) (aa S3) (aa S4) (aa S7)<|aa S8)
 (ag<|aD a8)
 aL))))))))
 (ag<|aD<|aU (aZ (cE G) (bC (j.met Zt<|by decide) (aa S2) rfl) (aM G (aa D) aw ak)<|cM _)<|aU (aZ (cE G) (bC (j.met ar<|by decide) (aa S2) rfl) (aM G (aa D) aw ak)<|cM _)<|aY<|aZ (cE G) (bC (j.met bf<|by decide) (aa S2) rfl) (aM G (aa D) aw ak)<|cM _)))))),?_⟩
  refine⟨_,rfl,sc,ns,rfl,ac,ax,λr p s t y U ss M ys H1 s1 _ po p2 n=>?_⟩;refine⟨_,rfl,r,p,s,t,y,U,ss,M,ys,rfl,po,n,λx p' W t' y' H2 s2 _ bk=>?_⟩;obtain⟨sg,gs,gk⟩:=yF n.gs;obtain⟨qd,qs,qk⟩:=KP n.gt;obtain⟨sd,sy,sk⟩:=tT n.gy;refine⟨_,rfl,r,p,s,t,y,U,ss,M,ys,qd,sd,rfl,n.mono s2,qs.mono<|dD.mono<|Tk.of s2,qk,sy.mono<|Tk.of s2,λol os H3 s3 _ YV to=>?_⟩;have O:=s2.trans s3;refine⟨_,rfl,r,p,s,t,y,U,ss,M,ys,sg,sd,rfl,n.mono O,gs.mono<|dz.mono<|Tk.of O,gk,sy.mono<|Tk.of O,λse Yj H4 s4 _ Y6 sn=>?_⟩;have I:=O.trans s4;have an:=s3.trans s4;have al:=(s1.trans I).seq ac;have B:=n.mono I;have aq:=bk.mono an;have a0:=gs.mono<|dz.mono<|Tk.of I;have ap:=qs.mono<|dD.mono<|Tk.of I;have a2:=sy.mono<|Tk.of I;have aj:=s4 _ _ YV;have a9:=to.mono<|Tk.of s4;clear s1 s2 s3 s4 O I an n bk gs qs sy YV to ac;have pl:=po.hi;have bm:=B.ls;have bn:=B.lt;have bi:=B.ly;have bj:=ap.1;have am:(U.map V.str).length=U.length:=R5 _;refine⟨_,rfl,by decide,by decide,iB (λi σ H5=>∃e5 e6 e7 e8:X8 V,σ=[some<|.ref sc,some<|.ref r,some<|.ref x,some<|.ref ol,some<|.ref se,e5,e6,e7,e8]/\cJ H4 H5) ⟨none,none,none,none,rfl,cJ.refl _⟩ ?_ ?_⟩
  ·rintro i σ H5 hi ⟨e5,e6,e7,e8,rfl,s5⟩
   obtain⟨vs,ev,_⟩:=Dw ns (k:=63) (by decide);refine⟨_,rfl,63,rfl,sc,_,rfl,s5.seq al,λsl be=>?_⟩;rw[ev];refine⟨sl,vs,rfl,cP.of cG,_,rfl,_,_,rfl,rfl,_,_,rfl,by lia,by lia,λN N0 N1=>?_⟩;have L:=s5.trans<|cJ.upd (o:=.lst<|vs.map V.int) be;generalize upd H5 sl (.lst<|vs.map V.int)=H6 at L;have g:=B.mono L;have pm:=du (N+(0+(i:Int))) (m:=(((U.map V.str).length:Nat):Int)) (by rw[am];lia);obtain⟨zv,Y,Z⟩:=sN (xs:=U.map V.str) pm.1 pm.2;obtain⟨z0,_,rfl⟩:=SQ.mp Z;refine⟨_,rfl,r,_,rfl,g.dp,_,rfl,_,rfl,_,_,rfl,rfl,_,rfl,r,_,rfl,g.dp,p,_,rfl,.inl<|cP.of g.hp,_,_,rfl,rfl,by rw[am];lia,xL g.hp Y ?_⟩;dsimp only[eX];refine kP (λS R=>∃z:Yc,S=[some<|.ref sc,some<|.ref r,some<|.ref x,some<|.ref ol,some<|.ref se,some<|.int<|0+(i:Int),some<|.int N,some<|.str z,e8]/\cJ H4 R) ?_ (decide (V.int (0+(i:Int))=V.int 0)&&decide ((2:Int)<((U.map V.str).length:Nat))) (λQ' k=>?_) (λhb R sA hR=>?_) λ_ R sA=>?_
   rotate_left
   ·exact Jz _ _ (λQ2 k2=>⟨_,rfl,rfl,_,rfl,k2 _<|cJ.refl _⟩) (λR W Q2 k2=>⟨_,rfl,r,_,rfl,(g.mono W).dp,p,_,rfl,.inl<|cP.of (g.mono W).hp,_,_,rfl,rfl,_,rfl,k2⟩) k
   ·rw[Uj]at hb
    have h2:=Sj hb.2;have A:=g.mono sA;obtain⟨zv,Y,Z⟩:=sN (xs:=U.map V.str) (i:=2) (by decide) h2;obtain⟨z,_,rfl⟩:=SQ.mp Z;exact⟨_,rfl,r,_,rfl,A.dp,xL A.hp Y<|hR _ _ ⟨z,rfl,L.trans sA⟩⟩
   ·exact⟨z0,rfl,L.trans sA⟩
   clear Y Z pm L g;rintro S H7 ⟨z,rfl,s7⟩;have l:=B.mono s7;refine⟨_,_,rfl,rfl,⟨by decide,by decide,by decide⟩,?_⟩;dsimp only[eX];refine kP (λS R=>∃h:Int,S=[some<|.ref sc,some<|.ref r,some<|.ref x,some<|.ref ol,some<|.ref se,some<|.int<|0+(i:Int),some<|.int N,some<|.str z,some<|.int h]/\cJ H4 R) ?_ (!M.isEmpty&&(decide (0<(0+(i:Int)))&&decide (0<N / 7%4))) (λQ' k=>?_) (λhb R sA hR=>?_) λ_ R sA=>⟨_,rfl,s7.trans sA⟩
   rotate_left
   ·refine Jz _ _ (λQ2 k2=>Jh (λQ3 k3=>⟨_,rfl,r,_,rfl,l.dt,k3⟩) l.ht λR W=>⟨_,rfl,k2 R W⟩) (λR W Q2 k2=>?_) k
    refine⟨_,rfl,_,_,rfl,rfl,_,rfl,?_⟩;cases hk:decide (0<0+(i:Int)) with
    |false=>grind
    |true=>
     rw[hk]at k2;exact eU ⟨_,rfl,_,_,rfl,rfl,⟨by decide,by decide⟩,_,_,rfl,rfl,by lia,_,_,rfl,rfl,_,rfl,k2⟩
   ·rw[Uj]at hb
    have t1:1<=M.length:=by grind
    have A:=l.mono sA;have hm:=du (N / 28) (m:=(M.length:Int)) (by lia);obtain⟨vt,bb,bd⟩:=sN (xs:=M) hm.1 hm.2;obtain⟨a,h,q1,q2,w',rfl,ha,_⟩:=A.gt vt bd;exact⟨_,rfl,r,_,rfl,A.dt,_,rfl,_,_,rfl,rfl,⟨by decide,by decide⟩,_,rfl,r,_,rfl,A.dt,t,_,rfl,.inl<|cP.of A.ht,_,_,rfl,rfl,by lia,xL A.ht bb<|xT ha rfl<|hR _ _ ⟨h,rfl,s7.trans sA⟩⟩
   rintro S H8 ⟨h,rfl,s8⟩;exact⟨_,rfl,_,rfl,_,rfl,_,rfl,_,rfl,_,rfl,⟨r,p,s,t,y,x,p',W,t',y',ol,se,U,ss,M,ys,os,Yj,sg,qd,sd,z,h,rfl,B.mono s8,aq.mono s8,pl,a0.mono<|dz.mono<|Tk.of s8,λd hd=>(gk d hd).1,ap.mono<|dD.mono<|Tk.of s8,qk,a2.mono<|Tk.of s8,s8 _ _ aj,a9.mono<|Tk.of s8,s8 _ _ Y6,sn,λH9 s9=>⟨_,rfl,iN ⟨_,_,_,_,rfl,s8.trans s9⟩⟩⟩⟩
  ·rintro σ H5 ⟨e5,e6,e7,e8,rfl,s5⟩
   have ay:=aq.mono s5;have bc:=B.mono s5;obtain⟨⟨dx,hx⟩,hp,hs,ht,hy⟩:=id ay;refine⟨_,rfl,x,dx,_,rfl,hx,fm _ _ _ _ (by decide+kernel) (by decide+kernel) (by decide+kernel)<|by decide+kernel,x,p',W,t',y',M,rfl,⟨dx,hx⟩,ht,λl1 n1=>?_⟩;have L:=cJ.upd (o:=.lst M) n1;have g:=bc.mono L;refine⟨_,rfl,r,_,rfl,g.dt,yJ (cP.of cG) (cP.of g.ht) (λv hv=>let .mk a _ _ _ _ e _ _ _ _ _ _:=g.gt v hv;⟨a,e⟩) ⟨_,rfl,eU ?_⟩⟩;generalize upd H5 l1 (.lst M)=H6 at L g;refine⟨_,rfl,x,dx,_,rfl,L _ _ hx,fm _ _ _ _ (by decide+kernel) (by decide+kernel) (by decide+kernel)<|by decide+kernel,x,p',W,t',y',ss,rfl,⟨dx,L _ _ hx⟩,L _ _ hs,λl2 n2=>?_⟩;have s7:=cJ.upd (o:=.lst ss) n2;have l:=g.mono s7;refine⟨_,rfl,r,_,rfl,l.ds,yJ (cP.of cG) (cP.of l.hs) (λv hv=>let .mk a _ _ _ _ e _ _ _ _ _ _ _:=l.gs v hv;⟨a,e⟩) ⟨_,rfl,eU ?_⟩⟩;generalize upd H6 l2 (.lst ss)=H7 at s7 l;have ai:=L.trans s7;refine⟨_,rfl,x,dx,_,rfl,ai _ _ hx,fm _ _ _ _ (by decide+kernel) (by decide+kernel) (by decide+kernel)<|by decide+kernel,x,p',W,t',y',ys,rfl,⟨dx,ai _ _ hx⟩,ai _ _ hy,λl3 n3=>?_⟩;have ad:=l.mono<|cJ.upd (o:=.lst ys) n3;exact⟨_,rfl,r,_,rfl,ad.dy,yJ (cP.of cG) (cP.of ad.hy) (λv hv=>let ⟨a,e,_⟩:=ad.gy v hv;⟨a,e⟩)<|q _⟩
end K42
namespace K42
def len0(us:Yb X3)(h:us.length=0):us=[]:=SX h
def Dm{n:Nat}(us:Yb X3)(h:us.length=n+1):∃a r,us=a::r/\r.length=n:=by
 cases us with
 |nil=>cases h
 |cons a r=>exact⟨a,r,rfl,Ua h⟩
def xg(us:Yb X3)(h:us.length=1):∃a,us=[a]:=by
 obtain⟨a,r,rfl,e⟩:=Dm us h;exact⟨a,by rw[len0 r e]⟩
def Mi(us:Yb X3)(h:us.length=2):∃a b,us=[a,b]:=by
 obtain⟨a,r,rfl,e⟩:=Dm us h;obtain⟨b,rfl⟩:=xg r e;exact⟨a,b,rfl⟩
def MQ(us:Yb X3)(h:us.length=3):∃a b c,us=[a,b,c]:=by
 obtain⟨a,r,rfl,e⟩:=Dm us h;obtain⟨b,c,rfl⟩:=Mi r e;exact⟨a,b,c,rfl⟩
def Mq(us:Yb X3)(h:us.length=4):∃a b c d,us=[a,b,c,d]:=by
 obtain⟨a,r,rfl,e⟩:=Dm us h;obtain⟨b,c,d,rfl⟩:=MQ r e;exact⟨a,b,c,d,rfl⟩
def Ii(us:Yb X3)(h:us.length=5):∃a b c d e,us=[a,b,c,d,e]:=by
 obtain⟨a,r,rfl,f⟩:=Dm us h;obtain⟨b,c,d,e,rfl⟩:=Mq r f;exact⟨a,b,c,d,e,rfl⟩
def M9(us:Yb X3)(h:us.length=6):∃a b c d e f,us=[a,b,c,d,e,f]:=by
 obtain⟨a,r,rfl,g⟩:=Dm us h;obtain⟨b,c,d,e,f,rfl⟩:=Ii r g;exact⟨a,b,c,d,e,f,rfl⟩
def FF.d{K:Frag}{h:Heap}{g:Yh}{x:Yc}{st:Stmt}(F:FF K x st)(X:K.In h)(G:h.Ns mainGlobals g)(ps:Yb Yc)(n:∀(kV m pm:X3)(an:X8 X4)(o ct:X3)(us:Yb X3),us.length=ps.length->bindArgs (fnOf x x (d8 st) (df st) (cK st) .none kV m pm an o ct) ⟨us,[]⟩=pure (ps.zip us):=by intro _ _ _ _ _ _ us e;first| (obtain⟨_,rfl⟩:=xg us e;rfl)| (obtain⟨_,_,rfl⟩:=Mi us e;rfl)| (obtain⟨_,_,_,rfl⟩:=MQ us e;rfl)| (obtain⟨_,_,_,_,rfl⟩:=Mq us e;rfl)| (obtain⟨_,_,_,_,_,rfl⟩:=Ii us e;rfl)| (obtain⟨_,_,_,_,_,_,rfl⟩:=M9 us e;rfl)):∃f j,Df K g x st ps f j:=by
 obtain⟨a,l,c,k⟩:=F;have i:=j8 (st:=st) l c k;exact⟨_,_,i,VS X G a,i.binds n⟩
def FF.u{K:Frag}{h:Heap}{g:Yh}{x:Yc}{st:Stmt}{m:Prop}{ps:Yb Yc}(F:FF K x st)(X:K.In h)(G:h.Ns mainGlobals g)(k:∀f e,Df K g x st ps f e->m)(j:∀(kV i pm:X3)(an:X8 X4)(l ct:X3)(us:Yb X3),us.length=ps.length->bindArgs (fnOf x x (d8 st) (df st) (cK st) .none kV i pm an l ct) ⟨us,[]⟩=pure (ps.zip us):=by intro _ _ _ _ _ _ us a;first| (obtain⟨_,rfl⟩:=xg us a;rfl)| (obtain⟨_,_,rfl⟩:=Mi us a;rfl)| (obtain⟨_,_,_,rfl⟩:=MQ us a;rfl)| (obtain⟨_,_,_,_,rfl⟩:=Mq us a;rfl)| (obtain⟨_,_,_,_,_,rfl⟩:=Ii us a;rfl)| (obtain⟨_,_,_,_,_,_,rfl⟩:=M9 us a;rfl)):m:=
 let ⟨f,e,D⟩:=F.d X G ps j
 k f e D
theorem mM:∀{zs:Yb Yc}{us:Yb X3},strsOf us=zs.map some->Vals (zs.map V.str) us
 |[],[],_=>.nil
 |[],_::_,h=>by cases h
 |_::_,[],h=>by cases h
 |z::zs,u::us,h=>by
  have a:oneOf u::strsOf us=some z::zs.map some:=h;injection a with e1 e2
  refine .cons ?_ (mM e2);cases u with
  |str x t=>
   cases e1;exact⟨t,rfl⟩
  |_=>cases e1
def all_mk {l:PySem.W.OpenLaw}{w:X7}{K:Frag}{h:Heap}{g:Yh}{fa:X4}(X:K.In h) (G:h.Ns mainGlobals g) (am:g "law" =some (.ref fa)) (FX:Facts K):
  ∃fd:FuncData,(∀(s:X5) (v:X3),BindsTo s fd ⟨[v],[]⟩ [("_law_script",v)])/\∀base:Heap,K.In base->base.Ns mainGlobals g->dZ l.prog w K g base mH 11 fa fd ["_law_script"] (Be K):=by
 obtain @⟨kw,C,Kn,Sa,Nb,Nd,Nr,Ny,Ns,Tm,f60,f61,f62,f63,f64,f65,odw,od60,an60,od61,an61,od62,an62,od63,an63,od64,an64,od65,an65,slw,sl60,sl61,sl62,sl63,sl64,sl65,oc60,kV60,dc60,pm60,cd60,ct60,oc61,kV61,dc61,pm61,cd61,ct61,oc62,kV62,dc62,pm62,cd62,ct62,oc63,kV63,dc63,pm63,cd63,ct63,oc64,kV64,dc64,pm64,cd64,ct64,oc65,kV65,dc65,pm65,cd65,ct65,Yl,nW,Zc,tk2,tk3,tk4,tk5,aW,lW,vW,h1,h2,h3,h4,h5,h6,h7,h8,h9,h10,h11,h12,h13,h14,h15,h16,h17,h18,h19,h20,h21,h22,h23,h24,h25,h26,h27,h28,h29,h30,h31,h32,h33,h34,h35,h36,h37,h38,h39,h40,h41,h42,h43,h44,h45,h46,h47,h48,h49,h50,h51,h52,h53,h54,h55,h56,h57,h58,h59,aC,pg,hd,po,sa,mk,kc,nP,nS,nT,nY,x1,x2,x3,x4,x5,x6,x7,x8,x9,x10,x11,x12,x13,x14,x15,x16,x17,x18,x19,x20,a60,i60,YB,c60,k60,a61,i61,l61,c61,Zm,a62,i62,l62,c62,k62,a63,i63,l63,c63,k63,a64,i64,l64,c64,k64,a65,i65,l65,c65,k65,z1,z2,z3,z4,z5,z6,z7,z8,z9,z10,z11,z12,z13,z14,z15,z16,z17,z18,z19,g1,g2,g3,g4,g5⟩:=FX;have vW:=mM (zs:=kept) vW;obtain @⟨f59,oc59,kV59,dc59,pm59,cd59,ct59,od59,an59,sl59,a59,l59,c59,k59⟩:=h59;have e:=am.symm.trans<|VS X G a59;cases e;have Yu:Yl.size<=sizeLine:=by
  have e:=vW.length;have e2:(kept.map V.str).length=12:=by decide+kernel
  rw[e2,Sm]at e;have:sizeLine=16777216:=Sq;omega
 have T:Txt K g kw C:=⟨Tx X G z1,Tx X G z2,Tx X G z3,Tx X G z4,Tx X G z5,Tx X G z6,Tx X G z7,Tx X G z8,Tx X G z9,Tx X G z10,Tx X G z11,Tx X G z12,Tx X G z13,Tx X G z14,Tx X G z15,Tx X G z16,Tx X G z17,Tx X G z18,Tx X G z19,VS X G aW,⟨_,Yl,nW,lW,rfl,rfl,Yu,vW⟩,⟨_,VS X G g1,⟨_,rfl⟩⟩,⟨_,VS X G g2,⟨_,rfl⟩⟩,⟨_,VS X G g3,⟨_,rfl⟩⟩,⟨_,VS X G g4,⟨_,rfl⟩⟩,⟨_,VS X G g5,⟨_,rfl⟩⟩,⟨pg,hd,po,sa⟩,nP,nS,nT,nY⟩;have be:=j8 (st:=pP) l59 c59 k59;have Y:=j8 (st:=iO) YB c60 k60;have U:=j8 (st:=fB) l61 c61 Zm;have aj:=j8 (st:=fL) l62 c62 k62;have ad:=j8 (st:=gF) l63 c63 k63;have al:=j8 (st:=ft) l64 c64 k64;have ai:=j8 (st:=eL) l65 c65 k65;obtain⟨_,_,H⟩:=h1.d X G ["thing"];obtain⟨_,_,a⟩:=h2.d X G ["thing"];obtain⟨_,_,f⟩:=h3.d X G ["thing"];have O:=Y.binds (ps:=["self","persons","sights","talks","sayings"]) λ_ _ _ _ _ _ P Q=>by
  obtain⟨_,_,_,_,_,rfl⟩:=Ii P Q;rfl
 have N:=Y;have L:Mk K C f60:=⟨mk,a60,i60,kc⟩;have A:=U.binds (ps:=["self"]) λ_ _ _ _ _ _ P Q=>by
  obtain⟨_,rfl⟩:=xg P Q;rfl
 have x:=U;have n:Meth K C "persons" f61:=⟨a61,i61,Zm⟩;have E:=aj.binds (ps:=["self"]) λ_ _ _ _ _ _ P Q=>by
  obtain⟨_,rfl⟩:=xg P Q;rfl
 have B:=aj;have q:Meth K C "sights" f62:=⟨a62,i62,k62⟩;have I:=ad.binds (ps:=["self"]) λ_ _ _ _ _ _ P Q=>by
  obtain⟨_,rfl⟩:=xg P Q;rfl
 have M:=ad;have F:Meth K C "talks" f63:=⟨a63,i63,k63⟩;have z:=al.binds (ps:=["self"]) λ_ _ _ _ _ _ P Q=>by
  obtain⟨_,rfl⟩:=xg P Q;rfl
 have r:=al;have j:Meth K C "sayings" f64:=⟨a64,i64,k64⟩;have o:=ai.binds (ps:=["self"]) λ_ _ _ _ _ _ P Q=>by
  obtain⟨_,rfl⟩:=xg P Q;rfl
 have m:=ai;have i:Meth K C "tellings" f65:=⟨a65,i65,k65⟩;have a4:=VS X G aC;have CL:Rv K g Kn Sa Nb Nd Nr Ny Ns Tm:=⟨Bf x10,Bf x11,VS X G x2,VS X G x1,⟨_,VS X G x2,rfl⟩,⟨_,VS X G x1,rfl⟩,⟨_,VS X G x3,rfl⟩,⟨_,VS X G x4,rfl⟩,⟨_,VS X G x5,rfl⟩,⟨_,VS X G x6,rfl⟩,⟨_,VS X G x7,rfl⟩,⟨_,VS X G x8,rfl⟩,Tx X G x9,x12,x13,x14,x15,x16,x17,x18,x19,x20⟩;refine⟨fnOf "law" "law" (d8 pP) (df pP) (cK pP) .none kV59 dc59 pm59 an59 cd59 ct59,λs v=>.of_eq rfl,λbase _ _=>?_⟩;have G1:Gd l.prog w K g base 2 "is_hour" (nR K):=⟨_,_,_,GL a.fn H T,a.nm,a.fn.kp,a.bi⟩;have G2:Gd l.prog w K g base 1 "is_name" (qV K):=⟨_,_,_,HM f.fn T,f.nm,f.fn.kp,f.bi⟩;have G3:Gd l.prog w K g base 1 "is_list_up_to" iF:=h4.u X G λ_ _ D=>yK D T;have G4:Gd l.prog w K g base 1 "is_tuple_of" pf:=h5.u X G λ_ _ D=>Cb D T;have G5:=h6.u X G λ_ _ D=>CF D G2;have G6:=h7.u X G λ_ _ D=>BM D G5;have G7:=h8.u X G λ_ _ D=>Ji D T G2;have G8:=h9.u X G λ_ _ D=>FK D G4 G5 G1 G7;have G9:Gd l.prog w K g base 1 "is_way" EZ:=h10.u X G λ_ _ D=>MK D T;have bb:=h11.u X G λ_ _ D=>GA D G4 G6 G1 G9;have aq:=h12.u X G λ_ _ D=>Gv D G1;have bf:=h13.u X G λ_ _ D=>Ge D G6 G5 G1;have as:=h14.u X G λ_ _ D=>CP D T G5 aq bf;have bj:=h15.u X G λ_ _ D=>zZ D T G3 G2;have ax:=h16.u X G λ_ _ D=>rQ D T G3 G8;have av:=h17.u X G λ_ _ D=>vC D T G3 bb;have ap:=h18.u X G λ_ _ D=>qu D T G3 as;have GB:=Gm N L O a4 T bj ax av ap;have M1:Md l.prog w K g base 1 C "persons" (dq C λp _ _ _=>p):=vo x n A T;have M2:Md l.prog w K g base 1 C "sights" (dq C λ_ s _ _=>s):=xo B q E T;have M3:Md l.prog w K g base 1 C "talks" (dq C λ_ _ t _=>t):=zk M F I T;have M4:Md l.prog w K g base 1 C "sayings" (dq C λ_ _ _ y=>y):=vv r j z T;have M5:Md l.prog w K g base 1 C "tellings" (jb C):=xH m i o T;have a1:=h19.u X G λ_ _ D=>yw D T M4;have Z:=h20.u X G λ_ _ D=>BP D T M1 a1;have ac:Gd l.prog w K g base 1 "is_above" pK:=h21.u X G λ_ _ D=>yz D;have a9:Gd l.prog w K g base 1 "is_silent" Ay:=h22.u X G λ_ _ D=>v5 D T;have a3:Gd l.prog w K g base 1 "is_barred" Aj:=h23.u X G λ_ _ D=>uV D;have S:=h25.u X G λ_ _ D=>ox D T M3 M4 M5 Z ac a9 a3;have ab:=h24.u X G λ_ _ D=>qP D T M2 Z ac;have P1:=h34.u X G λ_ _ D=>KI D T M3 M5;have P2:=h35.u X G λ_ _ D=>HJ D T M2 ab;have P3:Gd l.prog w K g base 1 "saw_ahead_of" EG:=h36.u X G λ_ _ D=>LF D;have P4:=h37.u X G λ_ _ D=>MO D T P1 S;have P5:Gd l.prog w K g base 1 "leads_to" yP:=h38.u X G λ_ _ D=>Dv D;have P6:Gd l.prog w K g base 1 "hour_of" HP:=h27.u X G λ_ _ D=>Ph D;have P7:=h28.u X G λ_ _ D=>Ng D P6;have P8:=h29.u X G λ_ _ D=>OE D T P6 P7;have P9:=h26.u X G λ_ _ D=>Pf D T M2 M3 ab S;have Q1:Gd l.prog w K g base 1 "rooms_of" (LX l.prog w):=h30.u X G λ_ _ D=>O0 D;have Q2:Gd l.prog w K g base 1 "reached_from" (K4 l.prog w):=h31.u X G λ_ _ D=>NS D;have Q3:Gd l.prog w K g base 1 "take_way" (LG l.prog w):=h32.u X G λ_ _ D=>Pg D;have Q4:=h33.u X G λ_ _ D=>KO D Q1 Q2 Q3;have Q5:=h39.u X G λ_ _ D=>O7 D P2 P4 P3 P5;have Q6:=h40.u X G λ_ _ D=>O6 D CL.oS CL.hS P2 Q4 Q5;have Q7:Gd l.prog w K g base 1 "talks_behind" (Lm l.prog w):=h41.u X G λ_ _ D=>O9 D;have Q8:=h42.u X G λ_ _ D=>NI D T P8;have Q9:=h43.u X G λ_ _ D=>NT D T Q6 P9 Q7 Q8;have R:=h44.u X G λ_ _ D=>OM D T Q6 M3;have ay:=J.wC Q9;have ar:=J.wC R;have A1:Gd l.prog w K g base 1 "_law_cell_at" (yO K):=h45.u X G λ_ _ D=>GI D T;have A2:Gd l.prog w K g base 1 "_law_mix" sJ:=h46.u X G λ_ _ D=>L3 D;have A3:=h47.u X G λ_ _ D=>C5 D T A2;have A4:=h48.u X G λ_ _ D=>Ig D T A2;have A5:=h49.u X G λ_ _ D=>Jg D T A1 A2 A3 A4;have A6:=h50.u X G λ_ _ D=>Ec D T GB;have A7:Gd l.prog w K g base 1 "_law_free" pF:=h51.u X G λ_ _ D=>FG D;have A8:=h52.u X G λ_ _ D=>DT D T A7;have A9:=h53.u X G λ_ _ D=>Eu D T A7;have a2:Gd l.prog w K g base 1 "_law_hour" mQ:=h54.u X G λ_ _ D=>Fq D;have an:=h55.u X G λ_ _ D=>D6 D T a2;have bc:Gd l.prog w K g base 1 "_law_whole" Fe:=h56.u X G λ_ _ D=>Mn D T;have bd:=h57.u X G λ_ _ D=>Jc D T CL Q9 R;have a0:=h58.u X G λ_ _ D=>MG D T ay ar bd an bc;exact Li be T A5 A2 A6 A8 A9 a0 M2 M3 M4
def walk{l:PySem.W.OpenLaw}{q:X6}{loose:Yb Yc}{XP:(Yh)->Heap->Prop}{YP:X7->Heap->Prop}{d:DefRec}{K:Params->Frag}(r:l.most=some 63)(g:d.params.defaults=[])
  (v:∀(w:X7)(h:Heap),YP w h->(K w.params).In h)
  (F:∀(w:X7)(e:Yh)(i:X4)(h:Heap),(K w.params).In h->h.Ns mainGlobals e->e d.name=some (.ref i)->
   ∃j:FuncData,(∀(s:X5) (u:X3),BindsTo s j ⟨[u],[]⟩ [("_law_script",u)])/\∀base:Heap,(K w.params).In base->base.Ns mainGlobals e->dZ l.prog w (K w.params) e base mH 11 i j ["_law_script"] (Be<|K w.params)):
  PySem.W.WalkO q loose XP YP l.row.toRowW d [] (λf vs=>PySem.call f vs):=
 IW (n:=63) (k:=11) (x:= "_law_script") (CX:=λ_=>mH) (sp:=λw=>Be<|K w.params) r (by decide) g ⟨rfl,by decide,by decide⟩ v F (λ_ _ a p m _ o=>⟨a,p,rfl,o,m,λ_=>rfl⟩) λ_ _ _ _ _ z=>z
end K42
open PySem.W
theorem PySem.Challenge.cw_knewby_k42_lines_apart_holds : PySem.Challenge.rw_knewby_k42_lines_apart.Holds :=
 K42.closing λf e n m=>K42.walk (l:=PySem.Challenge.rw_knewby_k42_lines_apart) rfl e n λw j i h g G a=>K42.all_mk g G (by rw[<-f];exact a)<|m w j i h g G a
