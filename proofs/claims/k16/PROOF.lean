import PyProof.Rows.All
import Wide.All
import OpenK.KLine
import OpenK.KWalk
import KE.KNestM
import KE.KDictList
import KE.KDictSum
import KE.KIsAll
import Wide.FinOn
import Lean
import PyProof.EqAt
import PyProof.EqKinds
import PyProof.TupleCall
import PyProof.NeKinds
import PyProof.ListRange
import PyProof.Rows.SortStr
import KE.KRevIter
import KE.KDictOf
import PyProof.AttrMissSeq
import PyProof.Rows.SortRunsK
import PyProof.Rows.SortShellK
import PyProof.Rows.CallKwBuiltin
import KE.KSortTup
import PyProof.EqKinds
import KE.KxText
import PyProof.DictWalks
import OpenK.KOwn
import PyProof.RulesAs
import PyProof.RulesDel
import PyProof.Rows.SortKeyStr
import KE.KSortedL
import KE.KSortedM
import KE.KSorted
import PySem.Challenge.RW_knewby_k16_whole_open_ways
set_option Elab.async false
set_option linter.all false
set_option maxRecDepth 100000
set_option maxHeartbeats 4000000
open Array (getElem?_toList length_toList toList_append toList_extract toList_inj toList_map toList_push toList_reverse toList_zip)
open Bool (and_eq_true eq_false_iff false_eq_true not_eq_true')
open List (all_cons all_eq_true all_map any_cons any_eq_false any_eq_true any_map append_assoc append_nil drop_zero eq_nil_of_length_eq_zero filter_append filter_cons filter_eq_self find?_cons flatten_append flatten_cons flatten_nil getD_eq_getElem?_getD getElem?_append_left getElem?_append_right getElem?_drop getElem?_eq_getElem getElem?_map getElem?_of_mem getElem?_take_of_lt getElem_inj getElem_mem length_append length_cons length_drop length_filter_le length_map length_range length_replicate length_reverse length_take lookup_cons map_append map_cons map_map map_snd_zip mem_append mem_append_left mem_append_right mem_cons mem_cons_of_mem mem_cons_self mem_filter mem_map mem_map_of_mem mem_of_getElem? mem_of_mem_drop mem_of_mem_take mem_range mem_reverse mem_singleton mem_singleton_self nil_append nodup_append nodup_cons nodup_nil not_lt not_mem_nil of_mem_zip pairwise_cons pairwise_singleton reverse_append reverse_reverse size_toArray take_add_one take_append_drop take_length take_of_length_le take_sublist)
open Nat (le_of_eq le_of_lt le_refl le_succ le_trans lt_irrefl lt_min lt_of_lt_of_le lt_succ_of_lt lt_succ_self min_eq_left min_le_right ne_of_gt ne_of_lt sub_self succ_pos zero_add zero_le)
open Option (getD_none isSome_map map_eq_some_iff map_some)
open PySem.F (called_set plainAttrs_list)
open PySem.Heap (get?_push_ne get?_push_of_some get?_push_size get?_update_ne lt_size size_push size_update)
open PySem.W (CodeHd KatTups callWith_K codeHdIn codeIn emptyDict envX findIn fnMade fnOf fnX handedIn hasDictIn instObj isFn kat_cons kat_go kat_kind kat_lt kat_nil kat_no kat_one kat_yes keepIn kia_one kitOne kitx_dict kitx_list lookIn makesIn methodObj mg_none_of mg_of nsIn plainGet plainGet_of plainOver specialIn tabObj takerIn)
namespace L2
open PySem PySem.Spec PyProof.Rows
def inClass(s:Stmt)(j:Nat):Stmt:=match s with
 |.ClassDef _ _ _ body _ _ _ _ _ _ _=>body.getD j (.Pass ⟨0,0,0,0⟩)
 |_=>.Pass ⟨0,0,0,0⟩
def cW(s:Stmt):Arguments:=match s with
 |.FunctionDef _ a _ _ _ _ _ _ _ _=>a
 |_=>{ posonlyargs:=[],args:=[],vararg:=none,kwonlyargs:=[],kw_defaults:=[],kwarg:=none,defaults:=[] }
def cN(s:Stmt):List Stmt:=match s with
 |.FunctionDef _ _ b _ _ _ _ _ _ _=>b
 |_=>[]
def cG(s:Stmt):Scope:=match s with
 |.FunctionDef _ _ _ _ _ _ sc _ _ _=>sc
 |_=>{ kind:=.function,names:=[],isGenerator:=false,isCoroutine:=false }
end L2
namespace TR
open PySem PySem.W
def Bm(stp:SharedT→Thread→Option (SharedT×Thread))(ok:Thread→Bool):Nat→SharedT→Thread→Option SharedT
 |0,_,_=>none
 |n+1,s,t=>match through t with
  |true=>some s
  |false=>match ok t with
   |false=>none
   |true=>match stp s t with
    |some (s',t')=>Bm stp ok n s' t'
    |none=>none
theorem vA{tb:String→Option Builtin}{p:Program}{w:World}{n₀:Nat}{ann:Option Value}:∀{n:Nat}{s s':SharedT}{t:Thread},Bm (stepT (denote tb) p w) (stepOk n₀ ann) n s t=some s'→topRun tb p w n₀ ann n s.abs t=some s'.abs
 |0,_,_,_,h=>by cases h
 |n+1,s,s',t,h=>by
  unfold Bm at h
  unfold topRun
  cases he:through t with
  |true=>rw[he]at h;cases h;rfl
  |false=>
   rw[he]at h
   cases hk:stepOk n₀ ann t with
   |false=>rw[hk]at h;cases h
   |true=>
    rw[hk]at h
    cases hs:stepT (denote tb) p w s t with
    |none=>rw[hs]at h;cases h
    |some r=>
     obtain⟨s₂,t₂⟩:=r
     rw[hs]at h
     rw[stepT_spec hs]
     exact vA h
def grow:List Obj→BT→Nat→Option BT
 |[],t,_=>some t
 |o::r,t,n=>match ((t.ins n o).get n).isSome with
  |true=>grow r (t.ins n o) (n+1)
  |false=>none
theorem qG{life:Life}:∀{l:List Obj}{t t':BT}{n:Nat},grow l t n=some t'→absHeap t' (n+l.length) life=l.foldl (fun h o=>h.push o) (absHeap t n life)
 |[],_,_,_,h=>by cases h;rfl
 |o::r,t,t',n,h=>by
  unfold grow at h
  cases g:((t.ins n o).get n).isSome with
  |false=>rw[g]at h;cases h
  |true=>
   rw[g]at h
   have ih:=qG (life:=life) h
   rw[absHeap_ins g]at ih
   rw[length_cons,List.foldl_cons,←ih]
   congr 1
   omega
theorem rP(life:Life):∀(l m:List Obj),l.foldl (fun(h:Heap) o=>h.push o) ⟨m.toArray,life⟩=⟨(m++l).toArray,life⟩
 |[],m=>by rw[append_nil];rfl
 |o::r,m=>by
  have:(⟨m.toArray,life⟩:Heap).push o=⟨(m++[o]).toArray,life⟩:=by
   show(⟨m.toArray.push o,life⟩:Heap)=_
   rw[List.push_toArray]
  rw[List.foldl_cons,this,rP life r,append_assoc]
  rfl
def HN(s:Shared)(t:BT):SharedT:=⟨t,s.heap.objs.size,s.heap.life,s.gens,s.drawn,s.toks,s.os⟩
theorem AU{s:Shared}{t:BT}(h:grow s.heap.objs.toList .nil 0=some t):(HN s t).abs=s:=by
 have:=qG (life:=s.heap.life) h
 rw[zero_add,show absHeap .nil 0 s.heap.life=⟨([]:List Obj).toArray,s.heap.life⟩ from rfl,rP,nil_append,length_toList]at this
 obtain⟨⟨objs,life⟩,gens,drawn,toks,os⟩:=s
 show(⟨absHeap t objs.size life,gens,drawn,toks,os⟩:Shared)=_
 rw[this]
def nX{α:Type}(p:Program)(w:World)(N:Nat)(look:Shared→Shared→α):Option α:=(fencedOpening treeTable p w N).bind fun s₀=>(grow s₀.heap.objs.toList .nil 0).bind fun t=>match s₀.heap.isNs mainGlobals && s₀.gens.size == 0 with
 |true=>(Bm (stepT (denote treeTable) p w) (stepOk s₀.heap.objs.size (s₀.heap.nsMap mainGlobals "__annotations__")) N (HN s₀ t) (topStub p)).bind fun s₁=>some (look s₀ s₁.abs)
 |false=>none
theorem pT{α:Type}{p:Program}{w:World}{N:Nat}{look:Shared→Shared→α}{a:α}(h:nX p w N look=some a):∃s₀ s₁,fencedOpening treeTable p w N=some s₀∧(s₀.heap.isNs mainGlobals && s₀.gens.size == 0)=true∧topRun treeTable p w s₀.heap.objs.size (s₀.heap.nsMap mainGlobals "__annotations__") N s₀ (topStub p)=some s₁∧look s₀ s₁=a:=by
 unfold nX at h
 obtain⟨s₀,e0,h⟩:=Option.bind_eq_some_iff.mp h
 obtain⟨t,eg,h⟩:=Option.bind_eq_some_iff.mp h
 refine⟨s₀,?_⟩
 cases c:(s₀.heap.isNs mainGlobals && s₀.gens.size == 0) with
 |false=>rw[c]at h;cases h
 |true=>
  rw[c]at h
  obtain⟨s₁,er,h⟩:=Option.bind_eq_some_iff.mp h
  have r:=vA er
  rw[AU eg]at r
  exact⟨s₁.abs,e0,rfl,r,Option.some.inj h⟩
theorem EA{p q:Program}{loose:List Str}{Xt:Shared→Bool}{α:Type}{Yf:Shared→α}{Ya:World→α}{N:Nat}
  (hA:∀w,nX p w N (fun s₀ s₁=>staticsOk (importedModules p.main.body) s₀.heap s₁.heap && namesBound p s₁.heap && gensDone s₁ && laidKept s₀.heap s₁.heap)=some true)
  (hB:∀w,nX p w N (fun _ s₁=>openSeen q loose (importedModules p.main.body) Xt true s₁)=some (openGood q loose))
  (hC:∀w,nX p w N (fun _ s₁=>Yf s₁)=some (Ya w)):LeftO p q loose Xt Yf Ya N:=fun w=>by
 obtain⟨s₀,s₁,e0,c,r,hA⟩:=pT (hA w)
 obtain⟨s₀',s₁',e0',_,r',hB⟩:=pT (hB w)
 rw[e0]at e0'
 cases e0'
 rw[r]at r'
 cases r'
 obtain⟨s₀',s₁',e0',_,r',hC⟩:=pT (hC w)
 rw[e0]at e0'
 cases e0'
 rw[r]at r'
 cases r'
 unfold openEnds
 rw[e0]
 show(topFrom treeTable p w N s₀).map _=_
 unfold topFrom
 rw[c]
 dsimp only
 rw[r]
 simp only[Option.bind_some]
 rw[hA]
 show some (openSeen q loose (importedModules p.main.body) Xt true s₁,Yf s₁)=_
 rw[hB,hC]
end TR
section
namespace K16
open PySem L2
def top(i:Nat):Stmt:=PySem.Challenge.pw_knewby_k16_whole_open_ways.main.body.getD i (.Pass ⟨0,0,0,0⟩)
abbrev jz:Stmt:=top 2
abbrev gS:Stmt:=top 3
abbrev fY:Stmt:=top 4
abbrev dX:Stmt:=top 5
abbrev gO:Stmt:=top 6
abbrev d5:Stmt:=top 7
abbrev dC:Stmt:=(L2.cN (top 7)).getD 4 (.Pass ⟨0,0,0,0⟩)
abbrev ig:Stmt:=top 8
abbrev fw:Stmt:=top 9
abbrev fM:Stmt:=top 10
abbrev fP:Stmt:=top 11
abbrev uM:Stmt:=top 12
abbrev jm:Stmt:=top 13
abbrev jq:Stmt:=top 15
abbrev eS:Stmt:=top 16
abbrev jo:Stmt:=top 17
abbrev ie:Stmt:=top 18
abbrev iw:Stmt:=top 19
abbrev fT:Stmt:=top 20
abbrev eV:Stmt:=top 21
abbrev gQ:Stmt:=top 28
abbrev k8:Stmt:=top 29
abbrev iU:Stmt:=top 30
abbrev eU:Stmt:=top 37
abbrev fL:Stmt:=top 38
abbrev ic:Stmt:=top 39
abbrev dP:Stmt:=top 40
abbrev km:Stmt:=top 41
abbrev jB:Stmt:=top 42
abbrev mG:Stmt:=top 43
abbrev kH:Stmt:=top 44
abbrev k7:Stmt:=top 45
abbrev eA:Stmt:=top 46
abbrev ik:Stmt:=top 47
abbrev fQ:Stmt:=top 48
abbrev gJ:Stmt:=top 49
abbrev hV:Stmt:=top 50
abbrev fU:Stmt:=top 51
abbrev gA:Stmt:=inClass (top 52) 0
abbrev ef:Stmt:=inClass (top 52) 1
abbrev eG:Stmt:=inClass (top 52) 2
abbrev fb:Stmt:=inClass (top 52) 3
abbrev d8:Stmt:=inClass (top 52) 4
abbrev x9:Stmt:=inClass (top 52) 5
abbrev zH:Stmt:=inClass (top 52) 6
abbrev xI:Stmt:=inClass (top 52) 7
abbrev cX:Stmt:=inClass (top 52) 8
abbrev dW:Stmt:=inClass (top 52) 9
abbrev kE:Stmt:=top 54
abbrev mC:Stmt:=top 55
abbrev ng:Stmt:=top 56
abbrev nu:Stmt:=top 57
abbrev jy:Stmt:=top 58
abbrev mi:Stmt:=top 59
abbrev pJ:Stmt:=top 60
abbrev ju:Stmt:=top 61
abbrev kF:Stmt:=top 62
abbrev gN:Stmt:=top 63
abbrev fm:Stmt:=top 64
abbrev fA:Stmt:=top 65
abbrev jA:Stmt:=top 66
abbrev gG:Stmt:=top 67
abbrev mM:Stmt:=top 68
def oneOf:Value→Option Str
 |.str x _=>some x
 |_=>none
def strsOf(l:List Value):List (Option Str):=l.map oneOf
def Co:List (Option Str):=[some "person",some "talk",some "saw",some "knew",some "heard",some "told",some "not",some "nobody",some "never",some "by",some "from",some "to"]
inductive FF(K:PySem.W.Frag)(x:Str)(st:Stmt):Prop
 |mk{f:Addr}{oc kV dc pm cd ct:Value}{od an:Option Addr}{sl:Array (Option Value)}(a:nsIn K mainGlobals x=some (some (.ref f)))(l:K.lookup f=some ⟨oc,od,.func (fnOf x x (cW st) (cN st) (cG st) .none kV dc pm an cd ct),sl⟩)(c:codeIn K cd x=true)(k:keepIn K (.ref f)=true)
inductive FC(K:PySem.W.Frag)(x:Str)(st:Stmt)(c0:Addr):Prop
 |mk{f:Addr}{oc kV dc pm ct:Value}{od an:Option Addr}{sl:Array (Option Value)}(a:nsIn K mainGlobals x=some (some (.ref f)))(l:K.lookup f=some ⟨oc,od,.func (fnOf x x (cW st) (cN st) (cG st) .none kV dc pm an (.ref c0) ct),sl⟩)(c:codeIn K (.ref c0) x=true)(k:keepIn K (.ref f)=true)
inductive Facts(K:PySem.W.Frag)(P0:Addr):Prop
 |mk{kw C c0 f52 f53 f54 f55 f56 f57 f58:Addr}
  {odw od52 an52 od53 an53 od54 an54 od55 an55 od56 an56 od57 an57 od58 an58:Option Addr}{slw sl52 sl53 sl54 sl55 sl56 sl57 sl58:Array (Option Value)}{oc52 kV52 dc52 pm52 cd52 ct52 oc53 kV53 dc53 pm53 cd53 ct53 oc54 kV54 dc54 pm54 cd54 ct54 oc55 kV55 dc55 pm55 cd55 ct55 oc56 kV56 dc56 pm56 cd56 ct56 oc57 kV57 dc57 pm57 cd57 ct57 oc58 kV58 dc58 pm58 cd58 ct58:Value}{its:Array Value}{nW:Nat}{tk1 tk2 tk3 tk4 tk5:Tok}
  (aW:nsIn K mainGlobals "KEPT_WORDS" =some (some (.ref kw))) (lW:K.lookup kw=some ⟨.type "tuple",odw,.seq its nW,slw⟩) (vW:strsOf its.toList=Co)
 (h1:FF K "is_whole" gQ) (h2:FF K "is_hour" k8) (h3:FF K "is_name" iU) (h4:FF K "is_list_up_to" eU) (h5:FF K "is_tuple_of" fL) (h6:FF K "is_person" ic) (h7:FF K "are_unlike_persons" dP) (h8:FF K "is_tale" km) (h9:FF K "is_sight" jB) (h10:FF K "is_way" mG) (h11:FF K "is_talk" kH) (h12:FF K "is_span" k7) (h13:FF K "is_short_saying" eA) (h14:FF K "is_saying" ik) (h15:FF K "are_persons" fQ) (h16:FF K "are_sights" gJ) (h17:FF K "are_talks" hV) (h18:FF K "are_sayings" fU) (h19:FF K "_law_names" kE) (h20:FF K "_law_hour" mC) (h21:FF K "_law_tale" ng) (h22:FF K "_law_talk" nu) (h23:FF K "_law_saying" jy) (h24:FF K "_law_book" mi) (h25:FF K "hours_in" jz) (h26:FF K "are_rising" gS) (h27:FF K "is_sight_at" fY) (h28:FF K "hours_of_tellings" dX) (h29:FF K "is_told_at" gO) (h30:FF K "fits_knew" ig) (h31:FF K "fits_unheard" fw) (h32:FF K "fits_silent" fM) (h33:FF K "fits_barred" fP) (h34:FF K "fits" uM) (h35:FF K "unfitted" jm) (h36:FF K "floor_of" jq) (h37:FF K "floors_of_all" eS) (h38:FF K "is_above" jo) (h39:FF K "is_silent" ie) (h40:FF K "is_barred" iw) (h41:FF K "open_sights" fT) (h42:FF K "open_tellings" eV) (h43:FF K "_law_mix" pJ) (h44:FF K "_law_events" ju) (h45:FF K "_law_story" kF) (h46:FF K "_law_all_open" gN) (h47:FF K "_law_open_parts" fm) (h48:FF K "_law_open_story" fA) (h49:FF K "_law_others" jA) (h50:FF K "_law_one_less" gG) (h51:FF K "law" mM)
  (aC:nsIn K mainGlobals "Book" =some (some (.ref C))) (pg:plainGet K C Str.empty=true) (hd:hasDictIn K C=true) (po:plainOver K C=true) (sa:findIn K (.ref C) "__setattr__" =some (some (.builtin "object.__setattr__"))) (mk:makesIn K C=true) (kc:keepIn K (.ref C)=true)
  (nP:findIn K (.ref C) "kept_persons" =some none) (nS:findIn K (.ref C) "kept_sights" =some none) (nT:findIn K (.ref C) "kept_talks" =some none) (nY:findIn K (.ref C) "kept_sayings" =some none)
  (yst:FC K "is_story" d5 c0)
  (ycP:codeHdIn K c0 P0=true)
  (yKP:K.lookup P0=none)
  (a52:findIn K (.ref C) "__init__" =some (some (.ref f52))) (i52:isFn K (.ref f52)=true) (l52:K.lookup f52=some ⟨oc52,od52,.func (fnOf "__init__" "Book.__init__" (cW gA) (cN gA) (cG gA) .none kV52 dc52 pm52 an52 cd52 ct52),sl52⟩) (c52:codeIn K cd52 "Book.__init__" =true) (k52:keepIn K (.ref f52)=true)
  (a53:findIn K (.ref C) "persons" =some (some (.ref f53))) (i53:isFn K (.ref f53)=true) (l53:K.lookup f53=some ⟨oc53,od53,.func (fnOf "persons" "Book.persons" (cW ef) (cN ef) (cG ef) .none kV53 dc53 pm53 an53 cd53 ct53),sl53⟩) (c53:codeIn K cd53 "Book.persons" =true) (k53:keepIn K (.ref f53)=true)
  (a54:findIn K (.ref C) "sights" =some (some (.ref f54))) (i54:isFn K (.ref f54)=true) (l54:K.lookup f54=some ⟨oc54,od54,.func (fnOf "sights" "Book.sights" (cW eG) (cN eG) (cG eG) .none kV54 dc54 pm54 an54 cd54 ct54),sl54⟩) (c54:codeIn K cd54 "Book.sights" =true) (k54:keepIn K (.ref f54)=true)
  (a55:findIn K (.ref C) "talks" =some (some (.ref f55))) (i55:isFn K (.ref f55)=true) (l55:K.lookup f55=some ⟨oc55,od55,.func (fnOf "talks" "Book.talks" (cW fb) (cN fb) (cG fb) .none kV55 dc55 pm55 an55 cd55 ct55),sl55⟩) (c55:codeIn K cd55 "Book.talks" =true) (k55:keepIn K (.ref f55)=true)
  (a56:findIn K (.ref C) "sayings" =some (some (.ref f56))) (i56:isFn K (.ref f56)=true) (l56:K.lookup f56=some ⟨oc56,od56,.func (fnOf "sayings" "Book.sayings" (cW d8) (cN d8) (cG d8) .none kV56 dc56 pm56 an56 cd56 ct56),sl56⟩) (c56:codeIn K cd56 "Book.sayings" =true) (k56:keepIn K (.ref f56)=true)
  (a57:findIn K (.ref C) "tellings" =some (some (.ref f57))) (i57:isFn K (.ref f57)=true) (l57:K.lookup f57=some ⟨oc57,od57,.func (fnOf "tellings" "Book.tellings" (cW dW) (cN dW) (cG dW) .none kV57 dc57 pm57 an57 cd57 ct57),sl57⟩) (c57:codeIn K cd57 "Book.tellings" =true) (k57:keepIn K (.ref f57)=true)
  (a58:findIn K (.ref C) "without_saying" =some (some (.ref f58))) (i58:isFn K (.ref f58)=true) (l58:K.lookup f58=some ⟨oc58,od58,.func (fnOf "without_saying" "Book.without_saying" (cW cX) (cN cX) (cG cX) .none kV58 dc58 pm58 an58 cd58 ct58),sl58⟩) (c58:codeIn K cd58 "Book.without_saying" =true) (k58:keepIn K (.ref f58)=true)
  (z1:nsIn K mainGlobals "isinstance" =some none) (z2:nsIn K mainGlobals "int" =some none) (z3:nsIn K mainGlobals "bool" =some none) (z4:nsIn K mainGlobals "str" =some none) (z5:nsIn K mainGlobals "len" =some none) (z6:nsIn K mainGlobals "all" =some none) (z7:nsIn K mainGlobals "range" =some none) (z8:nsIn K mainGlobals "list" =some none) (z9:nsIn K mainGlobals "tuple" =some none) (z10:nsIn K mainGlobals "set" =some none) (z11:nsIn K mainGlobals "zip" =some none) (z12:nsIn K mainGlobals "enumerate" =some none) (z13:nsIn K mainGlobals "min" =some none) (z14:nsIn K mainGlobals "max" =some none) (z15:nsIn K mainGlobals "any" =some none) (z16:nsIn K mainGlobals "sorted" =some none) (z17:nsIn K mainGlobals "dict" =some none) (z18:nsIn K mainGlobals "sum" =some none) (z19:nsIn K mainGlobals "reversed" =some none)
  (g1:nsIn K mainGlobals "MOST_PERSONS" =some (some (.int 24 tk1))) (g2:nsIn K mainGlobals "MOST_SIGHTS" =some (some (.int 24 tk2))) (g3:nsIn K mainGlobals "MOST_TALKS" =some (some (.int 120 tk3))) (g4:nsIn K mainGlobals "MOST_SAYINGS" =some (some (.int 60 tk4))) (g5:nsIn K mainGlobals "MOST_WORDS" =some (some (.int 6 tk5))):Facts K P0
open PySem.W in
def vw:Program:=view PySem.Challenge.rw_knewby_k16_whole_open_ways.row.toRowW.prog [0,2,3,4,5,6,7,8,9,10,11,12,13,15,16,17,18,19,20,21,23,24,25,27,28,29,30,32,33,34,35,36,37,38,39,40,41,42,43,44,45,46,47,48,49,50,51,52,54,55,56,57,58,59,60,61,62,63,64,65,66,67,68]
end K16
open PySem PySem.W PyProof.Rows
set_option maxRecDepth 100000 in
theorem K16.uE(w:World):TR.nX (OpenRow.toRowW PySem.Challenge.rw_knewby_k16_whole_open_ways.row).prog w 20000 (fun s₀ s₁=>staticsOk (importedModules (OpenRow.toRowW PySem.Challenge.rw_knewby_k16_whole_open_ways.row).prog.main.body) s₀.heap s₁.heap && namesBound (OpenRow.toRowW PySem.Challenge.rw_knewby_k16_whole_open_ways.row).prog s₁.heap && gensDone s₁ && laidKept s₀.heap s₁.heap)=some true:=by
 delta TR.nX PySem.W.fencedOpening;(try rw[PySem.W.Fast.te10274390034422433532]);(try rw[PySem.W.Fast.te4187177175401517315]);(try rw[PySem.W.Fast.te1435165496053646825]);(try rw[PySem.W.Fast.te14289696077712309145]);(try rw[PySem.W.Fast.te11892475500146522536]);(try rw[PySem.W.Fast.te10156331382660048174]);(try rw[PySem.W.Fast.te6613529449190102663]);(try rw[PySem.W.Fast.te14364793385576792824]);(try rw[PySem.W.Fast.te5923862056798008813]);kernel_rfl
set_option maxRecDepth 100000 in
theorem K16.uK(w:World):TR.nX (OpenRow.toRowW PySem.Challenge.rw_knewby_k16_whole_open_ways.row).prog w 20000 (fun _ s₁=>openSeen K16.vw [] (importedModules (OpenRow.toRowW PySem.Challenge.rw_knewby_k16_whole_open_ways.row).prog.main.body) (fun s=>xlAt K16.vw [] s && recOk (RowW.records (OpenRow.toRowW PySem.Challenge.rw_knewby_k16_whole_open_ways.row)) s) true s₁)=some (openGood K16.vw []):=by
 delta TR.nX PySem.W.fencedOpening;(try rw[PySem.W.Fast.te10274390034422433532]);(try rw[PySem.W.Fast.te4187177175401517315]);(try rw[PySem.W.Fast.te1435165496053646825]);(try rw[PySem.W.Fast.te14289696077712309145]);(try rw[PySem.W.Fast.te11892475500146522536]);(try rw[PySem.W.Fast.te10156331382660048174]);(try rw[PySem.W.Fast.te6613529449190102663]);(try rw[PySem.W.Fast.te14364793385576792824]);(try rw[PySem.W.Fast.te5923862056798008813]);kernel_rfl
local macro_rules
 | `(tactic|o_head $H)=> `(tactic| (
  refine holds_open (N:=20000) (q:=K16.vw) (loose:=[])
   (Xt:=fun s=>xlAt K16.vw [] s && recOk (RowW.records (OpenRow.toRowW PySem.Challenge.rw_knewby_k16_whole_open_ways.row)) s)
   (XP:=XL K16.vw []) (YP:=Hook.says $H) (Ya:=Hook.val $H) (Yf:=Hook.obs $H)
   ?hl (Hook.of $H) (Hook.keeps $H)
   (fun s e=>xl_of s (Bool.and_eq_true_iff.mp e).1) XL.keeps
   (by rfl) (by rfl) (by rfl)
   (fun s e=>recFacts_of (Bool.and_eq_true_iff.mp e).2)
   (by rfl) (by first|assumption|decide+kernel) (by decide+kernel)
   ⟨rfl,rfl,rfl,rfl,rfl,by decide+kernel⟩ ?hw ?hc
  (case hl=>(refine TR.EA K16.uE K16.uK fun w=>?_;delta TR.nX PySem.W.fencedOpening;(try rw[PySem.W.Fast.te10274390034422433532]);(try rw[PySem.W.Fast.te4187177175401517315]);(try rw[PySem.W.Fast.te1435165496053646825]);(try rw[PySem.W.Fast.te14289696077712309145]);(try rw[PySem.W.Fast.te11892475500146522536]);(try rw[PySem.W.Fast.te10156331382660048174]);(try rw[PySem.W.Fast.te6613529449190102663]);(try rw[PySem.W.Fast.te14364793385576792824]);(try rw[PySem.W.Fast.te5923862056798008813]);kernel_rfl))))
set_option maxRecDepth 100000 in
set_option maxHeartbeats 0 in
theorem K16.closing (HW:∀{q:Program}{loose:List Str}{XP:(Str→Option Value)→Heap→Prop}{YP:World→Heap→Prop}{d:DefRec}{K:Params→PySem.W.Frag}{P0:Addr},d.name= "law" →d.params.defaults=[]→(∀(w:World) (h:Heap),YP w h→(K w.params).In h)→(∀(w:World) (h:Heap),YP w h→h.get? P0=some (tabObj #[]))→
  (∀(w:World)(mg:Str→Option Value)(fa:Addr)(h:Heap),(K w.params).In h→h.Ns mainGlobals mg→mg d.name=some (.ref fa)→K16.Facts (K w.params) P0)→PySem.W.WalkO q loose XP YP PySem.Challenge.rw_knewby_k16_whole_open_ways.row.toRowW d [] (fun f vs=>PySem.call f vs)):PySem.Challenge.rw_knewby_k16_whole_open_ways.Holds:=by
 w_on;o_law;k_head;(case hw=>w_witness2)
 k_fill
 refine HW rfl rfl (fun w h Y=>PySem.W.km_in_of Y) (fun w h Y=>PySem.W.km_tabs_of Y _ mem_cons_self) ?F
 case F=>
  intro w mg fa h KX G hmg
  refine' K16.Facts.mk ?aW ?lW ?vW ?h1 ?h2 ?h3 ?h4 ?h5 ?h6 ?h7 ?h8 ?h9 ?h10 ?h11 ?h12 ?h13 ?h14 ?h15 ?h16 ?h17 ?h18 ?h19 ?h20 ?h21 ?h22 ?h23 ?h24 ?h25 ?h26 ?h27 ?h28 ?h29 ?h30 ?h31 ?h32 ?h33 ?h34 ?h35 ?h36 ?h37 ?h38 ?h39 ?h40 ?h41 ?h42 ?h43 ?h44 ?h45 ?h46 ?h47 ?h48 ?h49 ?h50 ?h51 ?aC ?pg ?hd ?po ?sa ?mk ?kc ?nP ?nS ?nT ?nY ?yst ?ycP ?yKP ?a52 ?i52 ?l52 ?c52 ?k52 ?a53 ?i53 ?l53 ?c53 ?k53 ?a54 ?i54 ?l54 ?c54 ?k54 ?a55 ?i55 ?l55 ?c55 ?k55 ?a56 ?i56 ?l56 ?c56 ?k56 ?a57 ?i57 ?l57 ?c57 ?k57 ?a58 ?i58 ?l58 ?c58 ?k58 ?z1 ?z2 ?z3 ?z4 ?z5 ?z6 ?z7 ?z8 ?z9 ?z10 ?z11 ?z12 ?z13 ?z14 ?z15 ?z16 ?z17 ?z18 ?z19 ?g1 ?g2 ?g3 ?g4 ?g5
  (case aW=>k_is)
  (case lW=>k_is)
  (case aC=>k_is)
  (case pg=>k_is)
  (case hd=>k_is)
  (case po=>k_is)
  (case sa=>k_is)
  (case mk=>k_is)
  (case kc=>k_is)
  (case nP=>k_is)
  (case nS=>k_is)
  (case nT=>k_is)
  (case nY=>k_is)
  (case yst=>apply K16.FC.mk<;>k_is)
  (case ycP=>kernel_rfl)
  (case yKP=>kernel_rfl)
  (case a52=>k_is)
  (case i52=>k_is)
  (case l52=>k_is)
  (case c52=>k_is)
  (case k52=>k_is)
  (case a53=>k_is)
  (case i53=>k_is)
  (case l53=>k_is)
  (case c53=>k_is)
  (case k53=>k_is)
  (case a54=>k_is)
  (case i54=>k_is)
  (case l54=>k_is)
  (case c54=>k_is)
  (case k54=>k_is)
  (case a55=>k_is)
  (case i55=>k_is)
  (case l55=>k_is)
  (case c55=>k_is)
  (case k55=>k_is)
  (case a56=>k_is)
  (case i56=>k_is)
  (case l56=>k_is)
  (case c56=>k_is)
  (case k56=>k_is)
  (case a57=>k_is)
  (case i57=>k_is)
  (case l57=>k_is)
  (case c57=>k_is)
  (case k57=>k_is)
  (case a58=>k_is)
  (case i58=>k_is)
  (case l58=>k_is)
  (case c58=>k_is)
  (case k58=>k_is)
  (case z1=>k_is)
  (case z2=>k_is)
  (case z3=>k_is)
  (case z4=>k_is)
  (case z5=>k_is)
  (case z6=>k_is)
  (case z7=>k_is)
  (case z8=>k_is)
  (case z9=>k_is)
  (case z10=>k_is)
  (case z11=>k_is)
  (case z12=>k_is)
  (case z13=>k_is)
  (case z14=>k_is)
  (case z15=>k_is)
  (case z16=>k_is)
  (case z17=>k_is)
  (case z18=>k_is)
  (case z19=>k_is)
  (case g1=>k_is)
  (case g2=>k_is)
  (case g3=>k_is)
  (case g4=>k_is)
  (case g5=>k_is)
  (case vW=>rfl)
  all_goals (apply K16.FF.mk<;>k_is)
end
namespace L2
open PySem PySem.Spec PyProof.Rows
abbrev Key:=Sum Int Str
def iG:Key→Value→Bool
 |.inl k,v=>Value.isInt k v
 |.inr x,v=>Value.isStrOf x v
def GI(w:World):Key→Int
 |.inl k=>hashInt k
 |.inr x=>hashStr w x
theorem di:∀{k:Key}{v:Value},iG k v=true→(∃i t,k=Sum.inl i∧v=Value.int i t)∨(∃x t,k=Sum.inr x∧v=Value.str x t)
 |.inl i,v,h=>by
  obtain⟨t,e⟩:=Value.isInt_shape (k:=i) (v:=v) h
  exact .inl ⟨i,t,rfl,e⟩
 |.inr x,v,h=>by
  obtain⟨t,e⟩:=Value.isStrOf_shape (x:=x) (v:=v) h
  exact .inr ⟨x,t,rfl,e⟩
theorem vY(i:Int)(t:Tok):iG (.inl i) (.int i t)=true:=by simp[iG,Value.isInt]
theorem oM(x:Str)(t:Tok):iG (.inr x) (.str x t)=true:=by simp[iG,Value.isStrOf]
theorem B3(a b:Int):decide ((Sum.inl a:Key)=Sum.inl b)=(a == b):=by
 by_cases e:a=b
 ·subst e;simp
 ·have h:¬(Sum.inl a:Key)=Sum.inl b:=fun q=>e (Sum.inl.inj q)
  rw[decide_eq_false h]
  exact(beq_eq_false_iff_ne.mpr e).symm
theorem BY(a b:Str):decide ((Sum.inr a:Key)=Sum.inr b)=decide (a=b):=by
 by_cases e:a=b
 ·subst e;simp
 ·have h:¬(Sum.inr a:Key)=Sum.inr b:=fun q=>e (Sum.inr.inj q)
  rw[decide_eq_false h,decide_eq_false e]
theorem DT(a:Int)(b:Str):decide ((Sum.inl a:Key)=Sum.inr b)=false:=decide_eq_false (fun q=>nomatch q)
theorem C3(a:Str)(b:Int):decide ((Sum.inr a:Key)=Sum.inl b)=false:=decide_eq_false (fun q=>nomatch q)
def cO(prog:Program)(w:World):PySem.KeyKind prog w Key where
 is:=iG
 hash:=GI w
 inj:=fun v a b ha hb=>by
  rcases di ha with ⟨i,t,rfl,rfl⟩|⟨x,t,rfl,rfl⟩
  ·rcases di hb with ⟨j,u,rfl,e⟩|⟨y,u,rfl,e⟩
   ·injection e with e1 _;rw[e1]
   ·exact nomatch e
  ·rcases di hb with ⟨j,u,rfl,e⟩|⟨y,u,rfl,e⟩
   ·exact nomatch e
   ·injection e with e1 _;rw[e1]
 byValue:=fun k v h=>by
  rcases di h with ⟨i,t,rfl,rfl⟩|⟨x,t,rfl,rfl⟩<;>rfl
 pyHash:=fun hv h=>by
  rcases di hv with ⟨i,t,rfl,rfl⟩|⟨x,t,rfl,rfl⟩
  ·exact wpAny_pyHash_int h
  ·exact wpAny_pyHash_str h
 eqBool:=fun hu hv h=>by
  rcases di hu with ⟨i,t,rfl,rfl⟩|⟨x,t,rfl,rfl⟩
  ·rcases di hv with ⟨j,u,rfl,rfl⟩|⟨y,u,rfl,rfl⟩
   ·rw[B3]at h;exact wpAny_eqBool_int h
   ·rw[DT]at h;exact SeqAt.EqAt.int_str i t y u _ _ _ _ h
  ·rcases di hv with ⟨j,u,rfl,rfl⟩|⟨y,u,rfl,rfl⟩
   ·rw[C3]at h;exact SeqAt.EqAt.str_int x t j u _ _ _ _ h
   ·rw[BY]at h;exact wpAny_eqBool_str h
 «strs» :=fun k x t v h=>by
  rcases di h with ⟨i,u,rfl,e⟩|⟨y,u,rfl,e⟩
  ·exact nomatch e
  ·injection e with e1 _
   subst e1
   cases v<;>rfl
theorem qH(prog:Program)(w:World)(i:Int)(t:Tok):(cO prog w).is (.inl i) (.int i t)=true:=vY i t
theorem sD(prog:Program)(w:World)(x:Str)(t:Tok):(cO prog w).is (.inr x) (.str x t)=true:=oM x t
end L2
namespace L2
open PySem PySem.Spec PyProof.Rows
inductive V where
 |non|bl (b:Bool)|int (i:Int)|str (x:Str)|byt (b:Array UInt8)|flt (b:UInt64)|ref (a:Addr)|ty (n:String)
 deriving DecidableEq
def RelV:V→Value→Prop
 |.non,u=>u=Value.none
 |.bl b,u=>u=Value.bool b
 |.int i,u=>∃t,u=Value.int i t
 |.str x,u=>∃t,u=Value.str x t
 |.byt b,u=>∃t,u=Value.bytes b t
 |.flt b,u=>∃t,u=Value.float b t
 |.ref a,u=>u=Value.ref a
 |.ty n,u=>u=Value.type n
abbrev Vals:List V→List Value→Prop:=Paired RelV
theorem Vals.length{xs:List V}{us:List Value}(r:Vals xs us):xs.length=us.length:=Paired.length r
theorem Vals.get:∀{xs:List V}{us:List Value}{i:Nat}{x:V},Vals xs us→xs[i]? =some x→∃u,us[i]? =some u∧RelV x u
 |_,_,_,_,.nil,e=>by simp at e
 |_,_,0,_,.cons r _,e=>by simp at e;subst e;exact⟨_,rfl,r⟩
 |_,_,i+1,x,.cons _ t,e=>by
  obtain⟨u,h1,h2⟩:=Vals.get (i:=i) (x:=x) t (by simpa using e)
  exact⟨u,by simpa using h1,h2⟩
theorem Vals.append:∀{xs ys:List V}{us ws:List Value},Vals xs us→Vals ys ws→Vals (xs++ys) (us++ws)
 |_,_,_,_,.nil,s=>s
 |_,_,_,_,.cons r t,s=>.cons r (Vals.append t s)
theorem Vals.take:∀{xs:List V}{us:List Value}(n:Nat),Vals xs us→Vals (xs.take n) (us.take n)
 |_,_,0,_=>.nil
 |_,_,_+1,.nil=>.nil
 |_,_,n+1,.cons r t=>.cons r (Vals.take n t)
theorem Vals.drop:∀{xs:List V}{us:List Value}(n:Nat),Vals xs us→Vals (xs.drop n) (us.drop n)
 |_,_,0,r=>r
 |_,_,_+1,.nil=>.nil
 |_,_,n+1,.cons _ t=>Vals.drop n t
def i8:Option V→Option Value→Prop
 |some v,some u=>RelV v u
 |none,none=>True
 |_,_=>False
def KV{κ:Type}:List (κ×V)→List (κ×Value)→Prop:=Paired fun(p:κ×V) (q:κ×Value)=>p.1=q.1∧RelV p.2 q.2
def kV:Key→V
 |.inl i=>.int i
 |.inr x=>.str x
inductive HO where
 |lst (xs:List V)
 |tup (xs:List V)
 |dK (kvs:List (Key×V))|dT (kvs:List (List Key×V))
 |set (S:Int→Bool)(n:Nat)
 |ins (C dx:Addr)(fs:List (Str×V))
 |own (x:Addr)
 |xd (fs:List (Str×V))
 |met (f x:Addr)
 |rng (lo hi:Int)
 |frz (o:Obj)(u:HO)
 |tbl (ps:Array Value)
 |ext (φ:Heap→Prop)
abbrev Hp:=Addr→Option HO
def upd(H:Hp)(a:Addr)(o:HO):Hp:=fun b=>if b=a then some o else H b
theorem cE{H:Hp}{a:Addr}{o:HO}:upd H a o a=some o:=by unfold upd;rw[if_pos rfl]
theorem cH{H:Hp}{a b:Addr}{o:HO}(h:b≠a):upd H a o b=H b:=by unfold upd;rw[if_neg h]
theorem zW{H:Hp}{a:Addr}{o u:HO}:upd (upd H a o) a u=upd H a u:=by
 funext b;unfold upd;split<;>rfl
theorem eW{H:Hp}{a b:Addr}{o u:HO}(h:H a=some o)(h':H b=some u)(d:o≠u):a≠b:=by
 intro e;subst e;rw[h]at h';exact d (Option.some.inj h')
theorem cF{H:Hp}{a b:Addr}{o:HO}(h:H a=some o)(h':H b=none):a≠b:=by
 intro e;subst e;rw[h]at h';cases h'
section
variable (P:Program)(w:World)
def df(H:Hp)(h:Heap)(a:Addr):HO→Prop
 |.lst xs=>xs.length≤sizeLine∧∃(its:List Value) (n:Nat),Vals xs its∧h.get? a=some { cls:=.type "list",data:=.seq its.toArray n }
 |.tup xs=>xs.length≤sizeLine∧∃its:List Value,Vals xs its∧IsTup h a its.toArray
 |.dK kvs=>kvs.length≤sizeLine∧(a == sysModules)=false∧∃vs,KV kvs vs∧h.DictOf (cO P w) a vs
 |.dT kvs=>kvs.length≤sizeLine∧(a == sysModules)=false∧∃xs:List (List Key×Addr×Value),
   Paired (fun(p:List Key×V) (q:List Key×Addr×Value)=>p.1=q.1∧H q.2.1=some (.tup (p.1.map kV))∧RelV p.2 q.2.2) kvs xs∧
   ∃o es ep,h.get? a=some o∧o.ExactDict∧o.data=.dict es ep∧es.toList=xs.map (entryOfKey (tupleKind (cO P w)))∧(xs.map (·.1)).Nodup
 |.set S n=>h.SetOf (intKind P w) a S n
 |.ins C dx fs=>H dx=some (.own a)∧fs.length≤1000∧dx≠a∧h.get? a=some (instObj C dx)∧
   ∃mA,h.Ns1 dx mA∧(∀f,i8 (fs.lookup f) (mA f))∧PySem.Within mA (fs.map (·.1))
 |.own _=>∃o,h.get? a=some o
 |.xd fs=>∃mA,h.Ns1 a mA∧∀f,i8 (fs.lookup f) (mA f)
 |.rng lo hi=>∃t u v,h.get? a=some { cls:=.type "range",data:=.fields #[.int lo t,.int hi u,.int 1 v] }
 |.frz o u=>h.get? a=some o∧df H h a u
 |.tbl ps=>h.get? a=some { cls:=.none,data:=.fields ps }
 |.met f x=>h.get? a=some (methodObj (.ref f) (.ref x))
 |.ext φ=>φ h∧(∃o,h.get? a=some o)∧∀h1 h2:Heap,φ h1→(∀o,h1.get? a=some o→h2.get? a=some o)→φ h2
def jb(H:Hp)(h:Heap):Prop:=∀a o,H a=some o→df P w H h a o
end
section
variable {P:Program}{w:World}{H H':Hp}{h h':Heap}{a:Addr}{o:HO}
theorem df.lt(x:df P w H h a o):a < h.objs.size:=by
 cases o with
 |lst xs=>obtain⟨_,_,_,_,e⟩:=x;exact lt_size e
 |tup xs=>obtain⟨_,_,_,p⟩:=x;exact p.lt
 |dK kvs=>obtain⟨_,_,_,_,o,_,_,e,_⟩:=x;exact lt_size e
 |dT kvs=>obtain⟨_,_,_,_,o,_,_,e,_⟩:=x;exact lt_size e
 |set S n=>obtain⟨o,_,_,_,e,_⟩:=x;exact lt_size e
 |ins C dx fs=>obtain⟨_,_,_,e,_⟩:=x;exact lt_size e
 |own y=>obtain⟨_,e⟩:=x;exact lt_size e
 |xd fs=>obtain⟨_,⟨_,_,_,e,_⟩,_⟩:=x;exact lt_size e
 |rng lo hi=>obtain⟨_,_,_,e⟩:=x;exact lt_size e
 |frz ob u=>obtain⟨e,_⟩:=x;exact lt_size e
 |tbl ps=>exact lt_size (show h.get? a=some _ from x)
 |met f y=>exact lt_size (show h.get? a=some _ from x)
 |ext φ=>obtain⟨_,⟨_,e⟩,_⟩:=x;exact lt_size e
theorem Paired.DB{α β:Type}{F G:α→β→Prop}:∀{l₁:List α}{l₂:List β},Paired F l₁ l₂→(∀a b,F a b→G a b)→Paired G l₁ l₂
 |_,_,.nil,_=>.nil
 |_,_,.cons r t,f=>.cons (f _ _ r) (Paired.DB t f)
theorem df.nG(x:df P w H h a o)(k:∀b u,(b=a∨H b=some (.own a))→h.get? b=some u→h'.get? b=some u)
  (ho:∀b,H b=some (.own a)→H' b=some (.own a))(ht:∀b xs,H b=some (.tup xs)→H' b=some (.tup xs)):df P w H' h' a o:=by
 induction o with
 |lst xs=>obtain⟨z,its,n,r,e⟩:=x;exact⟨z,its,n,r,k _ _ (.inl rfl) e⟩
 |tup xs=>obtain⟨z,its,r,ob,e,c⟩:=x;exact⟨z,its,r,ob,k _ _ (.inl rfl) e,c⟩
 |dK kvs=>obtain⟨z,y,vs,r,ob,es,ep,e,c⟩:=x;exact⟨z,y,vs,r,ob,es,ep,k _ _ (.inl rfl) e,c⟩
 |dT kvs=>
  obtain⟨z,y,xs,r,ob,es,ep,e,c⟩:=x
  exact⟨z,y,xs,Paired.DB r fun p q z=>⟨z.1,ht _ _ z.2.1,z.2.2⟩,ob,es,ep,k _ _ (.inl rfl) e,c⟩
 |set S n=>obtain⟨ob,es,ep,t,e,c⟩:=x;exact⟨ob,es,ep,t,k _ _ (.inl rfl) e,c⟩
 |ins C dx fs=>
  obtain⟨d,z,ne,e,mA,⟨od,es,ep,e2,c⟩,r⟩:=x
  exact⟨ho _ d,z,ne,k _ _ (.inl rfl) e,mA,⟨od,es,ep,k _ _ (.inr d) e2,c⟩,r⟩
 |own y=>obtain⟨ob,e⟩:=x;exact⟨ob,k _ _ (.inl rfl) e⟩
 |xd fs=>obtain⟨mA,⟨od,es,ep,e,c⟩,r⟩:=x;exact⟨mA,⟨od,es,ep,k _ _ (.inl rfl) e,c⟩,r⟩
 |rng lo hi=>obtain⟨t,u,v,e⟩:=x;exact⟨t,u,v,k _ _ (.inl rfl) e⟩
 |frz ob u ih=>obtain⟨e,q⟩:=x;exact⟨k _ _ (.inl rfl) e,ih q⟩
 |tbl ps=>
  have e:h.get? a=some { cls:=.none,data:=.fields ps }:=x
  show h'.get? a=some { cls:=.none,data:=.fields ps }
  exact k a _ (.inl rfl) e
 |met f y=>
  have e:h.get? a=some (methodObj (.ref f) (.ref y)):=x
  show h'.get? a=some (methodObj (.ref f) (.ref y))
  exact k a _ (.inl rfl) e
 |ext φ=>obtain⟨p,⟨o,e⟩,st⟩:=x;exact⟨st _ _ p fun o q=>k _ _ (.inl rfl) q,⟨o,k _ _ (.inl rfl) e⟩,st⟩
theorem jb.lt(x:jb P w H h)(e:H a=some o):a < h.objs.size:=(x a o e).lt
theorem jb.fresh(x:jb P w H h)(e:h.objs.size≤a):H a=none:=by
 cases q:H a with
 |none=>rfl
 |some u=>exact absurd (lt_of_lt_of_le (x.lt q) e) (lt_irrefl _)
theorem jb.kept(x:jb P w H h)(k:∀b u,h.get? b=some u→h'.get? b=some u):jb P w H h':=fun a o e=>
 (x a o e).nG (fun b u _ q=>k b u q) (fun _ q=>q) fun _ _ q=>q
theorem jb.laid(x:jb P w H h)(k:∀b u,h.get? b=some u→h'.get? b=some u)(hp:h.objs.size≤a)(new:df P w (upd H a o) h' a o):jb P w (upd H a o) h':=fun b u e=>by
 have hn:=x.fresh hp
 by_cases hb:b=a
 ·subst hb;rw[cE]at e;cases e;exact new
 ·rw[cH hb]at e
  exact(x b u e).nG (fun c v _ q=>k c v q) (fun c q=>by rw[cH (cF q hn)];exact q) fun c xs q=>by rw[cH (cF q hn)];exact q
end
def Rd(H:Hp)(a:Addr)(u:HO):Prop:=H a=some u∨∃o,H a=some (.frz o u)
theorem Rd.ok{P:Program}{w:World}{H:Hp}{h:Heap}{a:Addr}{u:HO}(r:Rd H a u)(x:jb P w H h):df P w H h a u:=by
 rcases r with r|⟨o,r⟩
 ·exact x a u r
 ·obtain⟨_,q⟩:=x a _ r
  exact q
def FO:Option HO→Prop
 |some (.lst _)=>True
 |some (.dK _)=>True
 |some (.dT _)=>True
 |some (.set _ _)=>True
 |some (.ins _ _ _)=>True
 |some (.ext _)=>True
 |_=>False
section
variable {P:Program}{w:World}{H:Hp}{h h':Heap}{x e:Addr}{o':HO}
theorem jb.write(ok:jb P w H h)(mu:FO (H x))(he:e=x∨H e=some (.own x))(k:∀b u,b≠e→h.get? b=some u→h'.get? b=some u)(heo:∃u,h'.get? e=some u)
  (new:df P w (upd H x o') h' x o'):jb P w (upd H x o') h':=fun b u q=>by
 have nown:∀c y,H c=some (.own y)→c≠x:=fun c y r z=>by subst z;rw[r]at mu;exact mu
 have ntup:∀c xs,H c=some (.tup xs)→c≠x:=fun c xs r z=>by subst z;rw[r]at mu;exact mu
 by_cases hb:b=x
 ·subst hb;rw[cE]at q;cases q;exact new
 ·rw[cH hb]at q
  by_cases hbe:b=e
  ·have q':H b=some (.own x):=by
    rcases he with z|z
    ·exact absurd (hbe.trans z) hb
    ·rw[hbe];exact z
   rw[q]at q';cases q'
   obtain⟨v,hv⟩:=heo
   exact⟨v,by rw[hbe];exact hv⟩
  ·refine(ok b u q).nG (fun c v hc r=>k c v ?_ r) (fun c r=>by rw[cH (nown c b r)];exact r) fun c xs r=>by rw[cH (ntup c xs r)];exact r
   rcases hc with rfl|hc
   ·exact hbe
   ·rintro rfl
    rcases he with z|z
    ·exact nown c b hc z
    ·rw[hc]at z;cases z;exact hb rfl
end
structure Un(fs ex:List Addr)(H H':Hp)(h h':Heap):Prop where
 keep:∀b o,h.get? b=some o→H b=none→b ∉ fs→b ∉ ex→h'.get? b=some o
 slot:∀b o,h.get? b=some o→H b=none→b∈fs→b ∉ ex→∃sl,h'.get? b=some { o with slots:=sl }
 free:∀b o,h.get? b=some o→H b=none→b ∉ ex→H' b=none
 there:∀b o,h.get? b=some o→b ∉ ex→∃o',h'.get? b=some o'
 tups:∀b xs,H b=some (.tup xs)→H' b=some (.tup xs)
 frzs:∀b o u,H b=some (.frz o u)→H' b=some (.frz o u)
 tbls:∀b ps,H b=some (.tbl ps)→∃more,H' b=some (.tbl (ps++more))
section
variable {fs fs' ex ex':List Addr}{H H1 H2:Hp}{h h1 h2 h':Heap}{a x e:Addr}{o:HO}
theorem Un.any(u:Un fs ex H H1 h h1){b:Addr}{ob:Obj}(q:h.get? b=some ob)(n:H b=none)(hx:b ∉ ex):∃sl,h1.get? b=some { ob with slots:=sl }:=by
 by_cases hb:b∈fs
 ·exact u.slot b ob q n hb hx
 ·exact⟨ob.slots,u.keep b ob q n hb hx⟩
theorem Un.kept(k:∀b u,h.get? b=some u→h'.get? b=some u):Un fs ex H H h h':=
 ⟨fun b ob q _ _ _=>k b ob q,fun b ob q _ _ _=>⟨ob.slots,k b ob q⟩,fun _ _ _ n _=>n,fun b ob q _=>⟨ob,k b ob q⟩,fun _ _ q=>q,fun _ _ _ q=>q,fun _ ps q=>⟨#[],by rw[q];simp⟩⟩
theorem Un.refl:Un fs ex H H h h:=Un.kept fun _ _ q=>q
theorem Un.laid(k:∀b u,h.get? b=some u→h'.get? b=some u)(hp:h.objs.size≤a)(hn:H a=none):Un fs ex H (upd H a o) h h' where
 keep:=fun b u q _ _ _=>k b u q
 slot:=fun b u q _ _ _=>⟨u.slots,k b u q⟩
 free:=fun b u q n _=>by rw[cH (ne_of_lt (lt_of_lt_of_le (lt_size q) hp))];exact n
 there:=fun b u q _=>⟨u,k b u q⟩
 tups:=fun b xs q=>by rw[cH (cF q hn)];exact q
 frzs:=fun b u xs q=>by rw[cH (cF q hn)];exact q
 tbls:=fun b ps q=>⟨#[],by rw[cH (cF q hn),q];simp⟩
theorem Un.write(mu:FO (H x))(he:e=x∨H e=some (.own x))(k:∀b u,b≠e→h.get? b=some u→h'.get? b=some u)(heo:∃u,h'.get? e=some u):Un fs ex H (upd H x o) h h':=by
 have hx:∀b,H b=none→b≠x:=fun b n z=>by subst z;rw[n]at mu;exact mu
 have hb:∀b,H b=none→b≠e:=fun b n z=>by
  subst z
  rcases he with r|r
  ·exact hx b n r
  ·rw[n]at r;cases r
 have hm:∀b u,H b=some u→¬FO (some u)→b≠x:=fun b u q nm z=>by subst z;rw[q]at mu;exact nm mu
 refine⟨fun b u q n _ _=>k b u (hb b n) q,fun b u q n _ _=>⟨u.slots,k b u (hb b n) q⟩,fun b u q n _=>by rw[cH (hx b n)];exact n,fun b u q _=>?_,
  fun b xs q=>by rw[cH (hm b _ q fun z=>z)];exact q,fun b u xs q=>by rw[cH (hm b _ q fun z=>z)];exact q,fun b ps q=>⟨#[],by rw[cH (hm b _ q fun z=>z),q];simp⟩⟩
 by_cases hbe:b=e
 ·subst hbe;exact heo
 ·exact⟨u,k b u hbe q⟩
end
def zE(h:Heap)(H:Hp):List Addr:=(List.range h.objs.size).filter fun a=>(H a).isSome
def n8(h:Heap)(H:Hp):Heap:=PySem.W.hideAll h (zE h H)
theorem wA(h:Heap)(H:Hp):(n8 h H).objs.size=h.objs.size:=PySem.W.hideAll_size _ _
theorem zv{h:Heap}{H:Hp}{b:Addr}{o:Obj}(e:h.get? b=some o)(n:H b=none):(n8 h H).get? b=some o:=
 PySem.W.hideAll_get _ e fun hm=>by
  have q:(H b).isSome=true:=(mem_filter.mp hm).2
  rw[n]at q;simp at q
theorem zT{h:Heap}{H:Hp}{b:Addr}{o:Obj}(e:(n8 h H).get? b=some o):h.get? b=some o∧H b=none:=by
 have e':h.get? b=some o:=PySem.W.of_hideAll (zE h H) e
 refine⟨e',?_⟩
 cases q:H b with
 |none=>rfl
 |some x=>
  have hm:b∈zE h H:=mem_filter.mpr ⟨mem_range.mpr (lt_size e'),by simp[q]⟩
  have z:(n8 h H).get? b=none:=PySem.W.hideAll_none (zE h H) hm
  rw[z]at e;cases e
def Ah(g h:Heap)(L:Addr):List (Addr×Obj):=(List.range h.objs.size).filterMap fun a=>if a=L∨(g.get? a).isSome=true then none else(h.get? a).map fun o=>(a,o)
def rest(g h:Heap)(L d:Addr):List (Addr×Obj):=(Ah g h L).filter fun p=>decide (p.1≠d)
end L2
namespace L2
open PySem PySem.Spec PyProof.Rows
structure Mod(K:PySem.W.Frag)(mg:Str→Option Value)(base:Heap):Prop where
 kin:K.In base
 glob:base.Ns mainGlobals mg
 blt:∃mb,base.Ns builtinsNs mb∧∀x:Str,x≠ "__name__" →mb x=bootBuiltins x
 nolimit:base.NoLimit
structure Cx where
 prog:Program
 w:World
 K:PySem.W.Frag
 mg:Str→Option Value
 base:Heap
 A:Around
 N:List Str
 s₀:Shared
 H₀:Hp
 env:Env
 outer:List Env
 stack:List Env
 ex:List Addr
 fn:Str→Bool
 calm:Bool
 pn:List (Addr×Obj)
 xe:Value→Shared→Prop
def tH(l:List Env):List Addr:=l.filterMap (·.frame)
abbrev Cx.fs(X:Cx):List Addr:=tH X.outer
def Ho(sc:Scope)(x:Str):Prop:=sc.names.lookup x=some .local∨sc.names.lookup x=some .cell∨sc.names.lookup x=some .free
def Loc(sc:Scope)(x:Str):Prop:=sc.names.lookup x=some .local∨sc.names.lookup x=some .cell
def Look(env:Env)(h:Heap)(m:Str→Option Value)(x:Str)(u:Value):Prop:=
 (env.kindOf x=some .local∧m x=some u)∨((env.kindOf x=some .cell∨env.kindOf x=some .free)∧∃c,env.cells.lookup x=some c∧h.IsCell c (some u))
structure Cx.Ok(X:Cx):Prop where
 mod:Mod X.K X.mg X.base
 kind:X.env.scope.kind=.function
 glob:X.env.globals=mainGlobals
 blt:X.env.builtins=builtinsNs
 above:X.s₀.heap.objs.size≤X.env.locals
 inj:∀x y c,X.env.cells.lookup x=some c→X.env.cells.lookup y=some c→x=y
 has:∀x,(X.env.kindOf x=some .cell∨X.env.kindOf x=some .free)→∃c,X.env.cells.lookup x=some c
 cab:∀x c,X.fn x=true→X.env.cells.lookup x=some c→X.s₀.heap.objs.size≤c
 hd:X.calm=true→X.A.handled=none
 frames:X.A.frames=some X.stack
 stk:X.stack=X.outer∨(X.stack=X.env::X.outer∧X.env.frame=some X.env.locals)
 exf:∀b∈X.ex,b≠X.env.locals∧∀x c,X.env.cells.lookup x=some c→c≠b
 bs:∀b o,X.base.get? b=some o→X.s₀.heap.get? b=some o∧X.H₀ b=none
 bsz:X.base.objs.size≤X.s₀.heap.objs.size
 noex:∀b o,X.base.get? b=some o→b ∉ X.ex
 exfs:∀b∈X.ex,b ∉ X.fs
 kP:X.s₀.heap.FunFrames X.base X.outer
 frf:∀b∈X.fs,X.H₀ b=none
structure Inv(X:Cx)(pins:List (Addr×Obj))(σ:List (Option V))(H:Hp)(s:Shared):Prop where
 ok:X.Ok
 os:s.os=X.s₀.os
 bare:AllBare s.gens
 base:Un X.fs X.ex X.H₀ H X.s₀.heap s.heap
 loc:∃m,s.heap.Ns X.env.locals m∧∀(i:Nat) (x:Str) (v:V),X.N[i]? =some x→σ[i]? =some (some v)→Ho X.env.scope x→∃u,RelV v u∧Look X.env s.heap m x u
 cell:∀x c,X.env.cells.lookup x=some c→∃v,s.heap.IsCell c v
 free:H X.env.locals=none
 freeC:∀x c,X.env.cells.lookup x=some c→H c=none
 pin:∀p∈X.pn++pins,s.heap.get? p.1=some p.2∧H p.1=none∧p.1≠X.env.locals∧p.1 ∉ X.fs∧∀v,p.2.data≠.cell v
 hok:jb X.prog X.w H s.heap
 len:σ.length=X.N.length
section
variable {X:Cx}{pins:List (Addr×Obj)}{σ:List (Option V)}{H H':Hp}{s:Shared}{h':Heap}
theorem Cx.Ok.GJ(ok:X.Ok){b:Addr}{o:Obj}(e:X.base.get? b=some o):b ∉ X.fs:=fun hb=>by
 have:=(ok.kP.mem hb).1
 rw[e]at this;cases this
theorem Inv.bs(I:Inv X pins σ H s):∀b o,X.base.get? b=some o→s.heap.get? b=some o∧H b=none:=fun b o e=>
 ⟨I.base.keep b o (I.ok.bs b o e).1 (I.ok.bs b o e).2 (I.ok.GJ e) (I.ok.noex b o e),I.base.free b o (I.ok.bs b o e).1 (I.ok.bs b o e).2 (I.ok.noex b o e)⟩
theorem Inv.bk(I:Inv X pins σ H s):∀b o,X.base.get? b=some o→s.heap.get? b=some o:=fun b o e=>(I.bs b o e).1
theorem Inv.mod(I:Inv X pins σ H s):Mod X.K X.mg X.base:=I.ok.mod
theorem Inv.lC(I:Inv X pins σ H s):X.K.In s.heap:=I.ok.mod.kin.keeps I.bk
theorem Inv.lt(I:Inv X pins σ H s):X.env.locals < s.heap.objs.size:=let ⟨_,hn,_⟩:=I.loc;hn.lt
theorem Inv.sz(I:Inv X pins σ H s):X.s₀.heap.objs.size≤s.heap.objs.size:=le_trans I.ok.above (le_of_lt I.lt)
theorem Inv.GQ(I:Inv X pins σ H s){a:Addr}(h:s.heap.objs.size≤a):a ∉ X.fs:=fun hb=>by
 obtain⟨_,o,ho,_⟩:=I.ok.kP.mem hb
 exact absurd (lt_of_lt_of_le (lt_size ho) (le_trans I.sz h)) (lt_irrefl _)
theorem Inv.DE(I:Inv X pins σ H s):∀x c,X.env.cells.lookup x=some c→c≠X.env.locals:=fun x c e z=>by
 obtain⟨v,o,ho,hd⟩:=I.cell x c e
 obtain⟨m,⟨o',es,ep,ho',hd',_⟩,_⟩:=I.loc
 rw[z,ho']at ho;cases ho;rw[hd']at hd;cases hd
theorem Inv.kP(I:Inv X pins σ H s):s.heap.FunFrames X.base X.outer:=by
 have all:∀(l:List Env),(∀b∈tH l,b∈X.fs)→X.s₀.heap.FunFrames X.base l→s.heap.FunFrames X.base l:=by
  intro l
  induction l with
  |nil=>intro _ _;trivial
  |cons env r ih=>
   intro hs hl
   obtain⟨hk,⟨L,o,hf,hn,ho,hd⟩,hr⟩:=hl
   have hL:L∈X.fs:=hs L (by unfold tH;rw[List.filterMap_cons,hf];exact mem_cons_self)
   obtain⟨sl,e⟩:=I.base.slot L o ho (I.ok.frf L hL) hL fun z=>I.ok.exfs L z hL
   exact⟨hk,⟨L,_,hf,hn,e,hd⟩,ih (fun b hb=>hs b (by unfold tH;rw[List.filterMap_cons,hf];exact mem_cons_of_mem _ hb)) hr⟩
 exact all X.outer (fun _ hb=>hb) I.ok.kP
theorem Inv.stack(I:Inv X pins σ H s):s.heap.FunFrames X.base X.stack:=by
 rcases I.ok.stk with e|⟨e,hf⟩
 ·rw[e];exact I.kP
 ·rw[e]
  obtain⟨m,hn,_⟩:=I.loc
  refine .cons (by rw[I.ok.kind];decide) hf hn ?_ I.kP
  exact Heap.get?_none_of_le (le_trans I.ok.bsz I.ok.above)
theorem Inv.uH(I:Inv X pins σ H s):∀b∈tH X.stack,b∈X.env.locals::X.fs:=fun b hb=>by
 rcases I.ok.stk with e|⟨e,hf⟩
 ·rw[e]at hb;exact mem_cons_of_mem _ hb
 ·rw[e]at hb
  unfold tH at hb
  rw[List.filterMap_cons,hf]at hb
  exact hb
theorem Inv.vh(I:Inv X pins σ H s):∀b∈tH X.stack,H b=none:=fun b hb=>by
 rcases mem_cons.mp (I.uH b hb) with e|hb
 ·rw[e];exact I.free
 ·obtain⟨_,o,ho,_⟩:=I.ok.kP.mem hb
  exact I.base.free b o ho (I.ok.frf b hb) fun z=>I.ok.exfs b z hb
theorem Inv.step{g':Array GenState}{t':Nat}{d':Drawn}{ch:List Addr}(I:Inv X pins σ H s)
  (hch:∀b∈ch,(b∈X.ex∨X.s₀.heap.objs.size≤b)∧b≠X.env.locals∧(∀x c,X.env.cells.lookup x=some c→c≠b)∧∀p∈X.pn++pins,p.1≠b)
  (keep:∀b o,b≠X.env.locals→b ∉ X.fs→b ∉ ch→s.heap.get? b=some o→H b=none→h'.get? b=some o)
  (slot:∀b o,b≠X.env.locals→b∈X.fs→b ∉ ch→s.heap.get? b=some o→H b=none→∃sl,h'.get? b=some { o with slots:=sl })(free:∀b o,b ∉ ch→s.heap.get? b=some o→H b=none→H' b=none)
  (there:∀b o,b ∉ ch→s.heap.get? b=some o→∃o',h'.get? b=some o')
  (tups:∀b xs,H b=some (.tup xs)→H' b=some (.tup xs))(frzs:∀b o u,H b=some (.frz o u)→H' b=some (.frz o u))(tbls:∀b ps,H b=some (.tbl ps)→∃more,H' b=some (.tbl (ps++more)))
  (ns:∀m,s.heap.Ns X.env.locals m→h'.Ns X.env.locals m)(hok:jb X.prog X.w H' h')(hg:AllBare g'):
  Inv X pins σ H' { s with heap:=h',gens:=g',drawn:=d',toks:=t' }:=by
 have neL:∀b o,X.s₀.heap.get? b=some o→b≠X.env.locals:=fun b o e=>ne_of_lt (lt_of_lt_of_le (lt_size e) I.ok.above)
 have neC:∀b o,X.s₀.heap.get? b=some o→b ∉ X.ex→b ∉ ch:=fun b o e hx hb=>by
  rcases (hch b hb).1 with z|z
  ·exact hx z
  ·exact absurd (lt_of_lt_of_le (lt_size e) z) (lt_irrefl _)
 have cellK:∀x c,X.env.cells.lookup x=some c→∀v,s.heap.IsCell c v→h'.IsCell c v:=fun x c e v ⟨o,ho,hd⟩=>by
  have nch:c ∉ ch:=fun z=>(hch c z).2.2.1 x c e rfl
  by_cases hc:c∈X.fs
  ·obtain⟨sl,q⟩:=slot c o (I.DE x c e) hc nch ho (I.freeC x c e)
   exact⟨_,q,hd⟩
  ·exact⟨o,keep c o (I.DE x c e) hc nch ho (I.freeC x c e),hd⟩
 refine⟨I.ok,I.os,hg,⟨fun b o e n hb hx=>?_,fun b o e n hb hx=>?_,fun b o e n hx=>?_,fun b o e hx=>?_,fun b xs e=>tups b xs (I.base.tups b xs e),fun b o xs e=>frzs b o xs (I.base.frzs b o xs e),fun b ps e=>?_⟩,?_,fun x c e=>?_,?_,fun x c e=>?_,fun p hp=>?_,hok,I.len⟩
 ·exact keep b o (neL b o e) hb (neC b o e hx) (I.base.keep b o e n hb hx) (I.base.free b o e n hx)
 ·obtain⟨sl,e1⟩:=I.base.slot b o e n hb hx
  obtain⟨sl',e2⟩:=slot b _ (neL b o e) hb (neC b o e hx) e1 (I.base.free b o e n hx)
  exact⟨sl',e2⟩
 ·obtain⟨o',e1⟩:=I.base.there b o e hx
  exact free b o' (neC b o e hx) e1 (I.base.free b o e n hx)
 ·obtain⟨o',e1⟩:=I.base.there b o e hx
  exact there b o' (neC b o e hx) e1
 ·obtain⟨m1,e1⟩:=I.base.tbls b ps e
  obtain⟨m2,e2⟩:=tbls b _ e1
  exact⟨m1++m2,by rw[e2,Array.append_assoc]⟩
 ·obtain⟨m,hn,hl⟩:=I.loc
  refine⟨m,ns m hn,fun i x v e1 e2 e3=>?_⟩
  obtain⟨u,r,l⟩:=hl i x v e1 e2 e3
  refine⟨u,r,?_⟩
  rcases l with l|⟨k,c,e,z⟩
  ·exact .inl l
  ·exact .inr ⟨k,c,e,cellK x c e _ z⟩
 ·obtain⟨v,z⟩:=I.cell x c e
  exact⟨v,cellK x c e v z⟩
 ·obtain⟨m,⟨o,_,_,ho,_⟩,_⟩:=I.loc
  exact free _ o (fun z=>(hch _ z).2.1 rfl) ho I.free
 ·obtain⟨v,o,ho,hd⟩:=I.cell x c e
  exact free c o (fun z=>(hch c z).2.2.1 x c e rfl) ho (I.freeC x c e)
 ·obtain⟨e,n,ne,nf,d⟩:=I.pin p hp
  have nch:p.1 ∉ ch:=fun z=>(hch p.1 z).2.2.2 p hp rfl
  exact⟨keep p.1 p.2 ne nf nch e n,free p.1 p.2 nch e n,ne,nf,d⟩
theorem Inv.un{t':Nat}(I:Inv X pins σ H s)(u:Un X.fs [] H H' s.heap h')(hok:jb X.prog X.w H' h'):Inv X pins σ H' { s with heap:=h',toks:=t' }:=by
 obtain⟨m,⟨o,es,ep,ho,r⟩,_⟩:=id I.loc
 obtain⟨sl,hL⟩:=u.any ho I.free (by simp)
 exact I.step (g':=s.gens) (d':=s.drawn) (ch:=[]) (fun _ z=>nomatch z) (fun b o _ hb _ e n=>u.keep b o e n hb (by simp)) (fun b o _ hb _ e n=>u.slot b o e n hb (by simp)) (fun b o _ e n=>u.free b o e n (by simp)) (fun b o _ e=>u.there b o e (by simp)) u.tups u.frzs u.tbls (fun m' hm=>by
  obtain⟨o',es',ep',ho',r'⟩:=hm
  rw[ho]at ho';cases ho'
  exact⟨_,es',ep',hL,r'⟩) hok I.bare
theorem Inv.call{g':Array GenState}{t':Nat}{d':Drawn}{ch:List Addr}(I:Inv X pins σ H s)(u:Un (tH X.stack) ch H H' s.heap h')(hok:jb X.prog X.w H' h')(hg:AllBare g')
  (hch:∀b∈ch,(b∈X.ex∨X.s₀.heap.objs.size≤b)∧b≠X.env.locals∧(∀x c,X.env.cells.lookup x=some c→c≠b)∧∀p∈X.pn++pins,p.1≠b):
  Inv X pins σ H' { s with heap:=h',gens:=g',drawn:=d',toks:=t' }:=by
 obtain⟨m,⟨o,es,ep,ho,r⟩,_⟩:=id I.loc
 obtain⟨sl,hL⟩:=u.any ho I.free fun z=>(hch _ z).2.1 rfl
 exact I.step (ch:=ch) hch (fun b o hL hb hc e n=>u.keep b o e n (fun z=>(mem_cons.mp (I.uH b z)).elim hL hb) hc) (fun b o _ _ hc e n=>u.any e n hc) (fun b o hc e n=>u.free b o e n hc) (fun b o hc e=>u.there b o e hc) u.tups u.frzs u.tbls (fun m' hm=>by
  obtain⟨o',es',ep',ho',r'⟩:=hm
  rw[ho]at ho';cases ho'
  exact⟨_,es',ep',hL,r'⟩) hok hg
theorem Inv.turned{t':Nat}{it:Addr}(I:Inv X pins σ H s)(k:∀b o,b≠it→s.heap.get? b=some o→h'.get? b=some o)(hn:H it=none)(hL:it≠X.env.locals)
  (h1:it∈X.ex∨X.s₀.heap.objs.size≤it)(h2:∀x c,X.env.cells.lookup x=some c→c≠it)(h3:∀p∈X.pn++pins,p.1≠it):Inv X pins σ H { s with heap:=h',toks:=t' }:=by
 have nit:∀b u,H b=some u→b≠it:=fun b u e z=>by rw[z,hn]at e;cases e
 refine I.step (g':=s.gens) (d':=s.drawn) (ch:=[it]) (fun b hb=>?_) (fun b o _ _ hc e _=>k b o (fun z=>hc (by simp[z])) e) (fun b o _ _ hc e _=>⟨o.slots,k b o (fun z=>hc (by simp[z])) e⟩) (fun _ _ _ _ n=>n)
  (fun b o hc e=>⟨o,k b o (fun z=>hc (by simp[z])) e⟩) (fun _ _ e=>e) (fun _ _ _ e=>e) (fun b ps e=>⟨#[],by rw[e];simp⟩) (fun m hm=>?_) (fun b u e=>?_) I.bare
 ·have e:b=it:=by simpa using hb
  subst e
  exact⟨h1,hL,h2,h3⟩
 ·obtain⟨o,es,ep,ho,r⟩:=hm
  exact⟨o,es,ep,k _ o (Ne.symm hL) ho,r⟩
 ·refine(I.hok b u e).nG (fun c v hc q=>k c v ?_ q) (fun _ q=>q) fun _ _ q=>q
  rcases hc with z|z
  ·rw[z];exact nit b u e
  ·exact nit c _ z
theorem Inv.tok(I:Inv X pins σ H s)(t:Nat):Inv X pins σ H { s with toks:=t }:=I.un (h':=s.heap) (t':=t) Un.refl I.hok
theorem Inv.kept{t':Nat}(I:Inv X pins σ H s)(k:∀b u,s.heap.get? b=some u→h'.get? b=some u):Inv X pins σ H { s with heap:=h',toks:=t' }:=I.un (Un.kept k) (I.hok.kept k)
theorem Inv.laid{a:Addr}{o:HO}{t':Nat}(I:Inv X pins σ H s)(k:∀b u,s.heap.get? b=some u→h'.get? b=some u)(hp:s.heap.objs.size≤a)(new:df X.prog X.w (upd H a o) h' a o):
  Inv X pins σ (upd H a o) { s with heap:=h',toks:=t' }:=I.un (Un.laid k hp (I.hok.fresh hp)) (I.hok.laid k hp new)
theorem Inv.write{x e:Addr}{o:HO}{t':Nat}(I:Inv X pins σ H s)(mu:FO (H x))(he:e=x∨H e=some (.own x))(k:∀b u,b≠e→s.heap.get? b=some u→h'.get? b=some u)(heo:∃u,h'.get? e=some u)
  (new:df X.prog X.w (upd H x o) h' x o):Inv X pins σ (upd H x o) { s with heap:=h',toks:=t' }:=I.un (Un.write mu he k heo) (I.hok.write mu he k heo new)
theorem Inv.ve{pins':List (Addr×Obj)}(I:Inv X pins σ H s)(h:∀p∈pins',s.heap.get? p.1=some p.2∧H p.1=none∧p.1≠X.env.locals∧p.1 ∉ X.fs∧∀v,p.2.data≠.cell v):Inv X pins' σ H s:=
 ⟨I.ok,I.os,I.bare,I.base,I.loc,I.cell,I.free,I.freeC,fun p hp=>(mem_append.mp hp).elim (fun z=>I.pin p (mem_append_left _ z)) (h p),I.hok,I.len⟩
theorem sA{N:List Str}(hN:N.Nodup){i j:Nat}{x:Str}(a:N[i]? =some x)(b:N[j]? =some x):i=j:=by
 obtain⟨h1,e1⟩:=List.getElem?_eq_some_iff.mp a
 obtain⟨h2,e2⟩:=List.getElem?_eq_some_iff.mp b
 exact(getElem_inj hN).mp (e1.trans e2.symm)
theorem wV{M:Model}{A:Around}{E:Value→Shared→Prop}{i:Nat}{x:Str}{v:V}{u:Value}{Q:Unit→Shared→Prop}(I:Inv X pins σ H s)(hN:X.N.Nodup)(hi:X.N[i]? =some x)(hx:Loc X.env.scope x)(r:RelV v u)
  (h:∀s',Inv X pins (σ.set i (some v)) H s'→(∃a,Heap.SameBut a s.heap s'.heap∧(a=X.env.locals∨X.env.cells.lookup x=some a))→Q () s')(hf:X.fn x=true∨X.env.scope.names.lookup x=some .local:=by first|exact .inl rfl|exact .inr rfl|assumption):wpAny M A (storeName X.env x u) Q E s:=by
 obtain⟨m,hn,hl⟩:=id I.loc
 have hcls:(X.env.scope.kind == .class || (X.env.scope.kind == .module && X.env.locals != X.env.globals))=false:=by rw[I.ok.kind];rfl
 have hiσ:i < σ.length:=by rw[I.len];exact(List.getElem?_eq_some_iff.mp hi).1
 have DE:=I.DE
 have tracked:∀{a:Addr}{h':Heap},(∃o,s.heap.get? a=some o∧H a=none)→Heap.SameBut a s.heap h'→jb X.prog X.w H h':=fun {a h'} ha hs b ob e=>by
  obtain⟨_,_,hfree⟩:=ha
  refine(I.hok b ob e).nG (fun c w' hc q=>(hs.2 c ?_).trans q) (fun _ q=>q) fun _ _ q=>q
  rintro rfl
  rcases hc with rfl|hc
  ·rw[hfree]at e;cases e
  ·rw[hfree]at hc;cases hc
 rcases hx with hk|hk
 ·refine wpAny_storeName_local hk hn (fun h' hn' hs=>?_) hcls
  obtain⟨oL,_,_,hoL,_⟩:=id hn
  refine h _ ⟨I.ok,I.os,I.bare,⟨fun b o e n hb hx=>?_,fun b o e n hb hx=>?_,I.base.free,fun b o e hx=>?_,I.base.tups,I.base.frzs,I.base.tbls⟩,⟨_,hn',fun j y v' e1 e2 e3=>?_⟩,fun y c e=>?_,I.free,I.freeC,fun p hp=>?_,tracked ⟨oL,hoL,I.free⟩ hs,by simpa using I.len⟩ ⟨_,hs,.inl rfl⟩
  ·exact(hs.2 b (ne_of_lt (lt_of_lt_of_le (lt_size e) I.ok.above))).trans (I.base.keep b o e n hb hx)
  ·obtain⟨sl,e1⟩:=I.base.slot b o e n hb hx
   exact⟨sl,(hs.2 b (ne_of_lt (lt_of_lt_of_le (lt_size e) I.ok.above))).trans e1⟩
  ·obtain⟨o',e1⟩:=I.base.there b o e hx
   exact⟨o',(hs.2 b (ne_of_lt (lt_of_lt_of_le (lt_size e) I.ok.above))).trans e1⟩
  ·by_cases hj:j=i
   ·subst hj
    rw[hi]at e1;cases e1
    rw[List.getElem?_set_self hiσ]at e2
    cases e2
    exact⟨u,r,.inl ⟨hk,by simp⟩⟩
   ·rw[List.getElem?_set_ne (Ne.symm hj)]at e2
    obtain⟨u',r',q⟩:=hl j y v' e1 e2 e3
    refine⟨u',r',?_⟩
    rcases q with ⟨k,e⟩|⟨k,c,e,z⟩
    ·refine .inl ⟨k,?_⟩
     have:y≠x:=fun e=>hj (sA hN e1 (e ▸ hi))
     simp[this,e]
    ·exact .inr ⟨k,c,e,z.sameBut hs (DE y c e)⟩
  ·obtain⟨w',z⟩:=I.cell y c e
   exact⟨w',z.sameBut hs (DE y c e)⟩
  ·obtain⟨e,n,ne,nf,d⟩:=I.pin p hp
   exact⟨(hs.2 p.1 ne).trans e,n,ne,nf,d⟩
 ·have hfn:X.fn x=true:=by
   rcases hf with z|z
   ·exact z
   ·rw[z]at hk;cases hk
  obtain⟨c,hc⟩:=I.ok.has x (.inl hk)
  obtain⟨w',z⟩:=I.cell x c hc
  refine wpAny_storeName_cell I.ok.kind hk hc z (fun h' hc' hs=>?_)
  obtain⟨oc,hoc,hocd⟩:=id z
  refine h { s with heap:=h' } ⟨I.ok,I.os,I.bare,⟨fun b o e n hb hx=>?_,fun b o e n hb hx=>?_,I.base.free,fun b o e hx=>?_,I.base.tups,I.base.frzs,I.base.tbls⟩,⟨m,hn.sameBut hs (Ne.symm (DE x c hc)),fun j y v' e1 e2 e3=>?_⟩,fun y c' e=>?_,I.free,I.freeC,fun p hp=>?_,tracked ⟨oc,hoc,I.freeC x c hc⟩ hs,by simpa using I.len⟩ ⟨c,hs,.inr hc⟩
  ·exact(hs.2 b (ne_of_lt (lt_of_lt_of_le (lt_size e) (I.ok.cab x c hfn hc)))).trans (I.base.keep b o e n hb hx)
  ·obtain⟨sl,e1⟩:=I.base.slot b o e n hb hx
   exact⟨sl,(hs.2 b (ne_of_lt (lt_of_lt_of_le (lt_size e) (I.ok.cab x c hfn hc)))).trans e1⟩
  ·obtain⟨o',e1⟩:=I.base.there b o e hx
   exact⟨o',(hs.2 b (ne_of_lt (lt_of_lt_of_le (lt_size e) (I.ok.cab x c hfn hc)))).trans e1⟩
  ·by_cases hj:j=i
   ·subst hj
    rw[hi]at e1;cases e1
    rw[List.getElem?_set_self hiσ]at e2
    cases e2
    exact⟨u,r,.inr ⟨.inl hk,c,hc,hc'⟩⟩
   ·rw[List.getElem?_set_ne (Ne.symm hj)]at e2
    obtain⟨u',r',q⟩:=hl j y v' e1 e2 e3
    refine⟨u',r',?_⟩
    rcases q with q|⟨k,c',e,z'⟩
    ·exact .inl q
    ·refine .inr ⟨k,c',e,z'.sameBut hs ?_⟩
     rintro rfl
     exact hj (sA hN e1 (I.ok.inj _ _ _ e hc ▸ hi))
  ·by_cases hcc:c'=c
   ·subst hcc;exact⟨_,hc'⟩
   ·obtain⟨w2,z2⟩:=I.cell y c' e
    exact⟨w2,z2.sameBut hs hcc⟩
  ·obtain⟨e,n,ne,nf,d⟩:=I.pin p hp
   refine⟨(hs.2 p.1 ?_).trans e,n,ne,nf,d⟩
   intro q
   rw[q,hoc]at e
   have q':oc=p.2:=Option.some.inj e
   exact d w' (by rw[←q'];exact hocd)
theorem j9{M:Model}{A:Around}{E:Value→Shared→Prop}{i:Nat}{x:Str}{v:V}{u:Value}{Q:Unit→Shared→Prop}(I:Inv X pins σ H s)(hN:X.N.Nodup)(hi:X.N[i]? =some x)(hx:Loc X.env.scope x)(r:RelV v u)
  (h:∀s',Inv X pins (σ.set i (some v)) H s'→Q () s')(hf:X.fn x=true∨X.env.scope.names.lookup x=some .local:=by first|exact .inl rfl|exact .inr rfl|assumption):wpAny M A (storeName X.env x u) Q E s:=
 wV I hN hi hx r (fun s' I' _=>h s' I') hf
theorem Inv.EL{s':Shared}{ch:List Addr}(I:Inv X pins σ H s)(ho:s'.os=s.os)(u:Un (tH X.stack) ch H H' s.heap s'.heap)(hok:jb X.prog X.w H' s'.heap)(hg:AllBare s'.gens)
  (hch:∀b∈ch,(b∈X.ex∨X.s₀.heap.objs.size≤b)∧b≠X.env.locals∧(∀x c,X.env.cells.lookup x=some c→c≠b)∧∀p∈X.pn++pins,p.1≠b):Inv X pins σ H' s':=by
 obtain⟨h',g',d',t',o'⟩:=s'
 have e:o'=s.os:=ho
 subst e
 exact I.call (g':=g') (t':=t') (d':=d') u hok hg hch
end
abbrev XK:=Value→Option Addr→Hp→Prop
abbrev St:=List (Option V)
abbrev VK:=V→Hp→Prop
abbrev TE:=St→Hp→VK→Prop
abbrev TT:=St→Hp→(Bool→Hp→Prop)→Prop
abbrev TA:=St→Hp→(List V→Hp→Prop)→Prop
structure Ends where
 nx:St→Hp→Prop
 rt:VK
 bk:St→Hp→Prop:=fun _ _=>False
 ct:St→Hp→Prop:=fun _ _=>False
abbrev TS:=Ends→St→Hp→Prop
inductive EP(X:Cx)(pins:List (Addr×Obj))(σ:St)(Q:VK)(u:Value)(s':Shared):Prop
 |mk(v:V)(H':Hp)(I:Inv X pins σ H' s')(r:RelV v u)(q:Q v H')
inductive TP(X:Cx)(pins:List (Addr×Obj))(σ:St)(Q:Bool→Hp→Prop)(b:Bool)(s':Shared):Prop
 |mk(H':Hp)(I:Inv X pins σ H' s')(q:Q b H')
inductive AP(X:Cx)(pins:List (Addr×Obj))(σ:St)(Q:List V→Hp→Prop)(us:List Value)(s':Shared):Prop
 |mk(vs:List V)(H':Hp)(I:Inv X pins σ H' s')(r:Vals vs us)(q:Q vs H')
inductive SN(X:Cx)(pins:List (Addr×Obj))(k:St→Hp→Prop)(s':Shared):Prop
 |mk(σ':St)(H':Hp)(I:Inv X pins σ' H' s')(q:k σ' H')
def SP(X:Cx)(pins:List (Addr×Obj))(D:Ends)(f:Flow)(s':Shared):Prop:=
 match f with
 |.next=>SN X pins D.nx s'
 |.brk=>SN X pins D.bk s'
 |.cont=>SN X pins D.ct s'
 |.ret u=>∃v σ' H',Inv X pins σ' H' s'∧RelV v u∧D.rt v H'
def PE(X:Cx)(e:Expr)(t:TE):Prop:=
 ∀(pins:List (Addr×Obj)) (s:Shared) (σ:St) (H:Hp) (Q:VK),Inv X pins σ H s→t σ H Q→wpAny (model X.prog X.w) X.A (eval e X.env) (EP X pins σ Q) X.xe s
def PT(X:Cx)(e:Expr)(t:TT):Prop:=
 ∀(pins:List (Addr×Obj)) (s:Shared) (σ:St) (H:Hp) (Q:Bool→Hp→Prop),Inv X pins σ H s→t σ H Q→wpAny (model X.prog X.w) X.A (isTrue e X.env (eval e X.env)) (TP X pins σ Q) X.xe s
def PW(X:Cx)(e:Expr)(t:TT):Prop:=
 ∀(whole:Sem Value) (pins:List (Addr×Obj)) (s:Shared) (σ:St) (H:Hp) (Q:Bool→Hp→Prop),Inv X pins σ H s→t σ H Q→wpAny (model X.prog X.w) X.A (isTrue e X.env whole) (TP X pins σ Q) X.xe s
theorem PW.pt{X:Cx}{e:Expr}{t:TT}(h:PW X e t):PT X e t:=h _
def PA(X:Cx)(es:List Expr)(t:TA):Prop:=
 ∀(pos:Pos) (pins:List (Addr×Obj)) (s:Shared) (σ:St) (H:Hp) (Q:List V→Hp→Prop),Inv X pins σ H s→t σ H Q→wpAny (model X.prog X.w) X.A (spliced (backTo pos (starEach es X.env))) (AP X pins σ Q) X.xe s
def PS(X:Cx)(st:Stmt)(t:TS):Prop:=
 ∀(pins:List (Addr×Obj)) (s:Shared) (σ:St) (H:Hp) (D:Ends),Inv X pins σ H s→t D σ H→wpAny (model X.prog X.w) X.A (exec st X.env) (SP X pins D) X.xe s
def tE(X:Cx)(st:List Stmt)(t:TS):Prop:=
 ∀(pins:List (Addr×Obj)) (s:Shared) (σ:St) (H:Hp) (D:Ends),Inv X pins σ H s→t D σ H→wpAny (model X.prog X.w) X.A (execs st X.env) (SP X pins D) X.xe s
theorem dq{α:Type}{t:Sem α}{Q Q':α→Shared→Prop}{M:Model}{A:Around}{E:Value→Shared→Prop}{s:Shared}(h:wpAny M A t Q E s)(hQ:∀a s,Q a s→Q' a s):wpAny M A t Q' E s:=wpAny_mono h hQ fun _ _ x=>x
end L2
namespace L2
open PySem PySem.Spec PyProof.Rows
section
variable {X:Cx}
inductive Hu(i:Nat)(σ:St)(H:Hp)(Q:VK):Prop
 |mk(v:V)(h:σ[i]? =some (some v))(q:Q v H)
def dE(i:Nat):TE:=fun σ H Q=>Hu i σ H Q
inductive FL(x:V)(H:Hp)(Q:Bool→Hp→Prop):Prop
 |mk(c:Bool)(h:x=.bl c)(q:Q c H)
def tC(v:V):TE:=fun _ H Q=>Q v H
theorem jh {i:Nat}{x:Str}{pos:Pos}(hN:X.N[i]? =some x) (hv:Ho X.env.scope x) (hd:(x == ("__debug__" :Str))=false:=by decide) (hcd:(x == ("__classdict__" :Str))=false:=by decide):PE X (.Name x pos) (dE i):=by
 intro pins s σ H Q I h
 obtain⟨v,e,h⟩:=h
 obtain⟨m,hn,hl⟩:=I.loc
 obtain⟨u,r,l⟩:=hl i x v hN e hv
 have fin:EP X pins σ Q u s:=⟨v,H,I,r,h⟩
 rcases l with ⟨hk,hm⟩|⟨hk,c,hc,hcell⟩
 ·exact wpAny_Name (wpAny_loadName_local I.ok.kind hk hn hm fin) hd
 ·rcases hk with hk|hk
  ·exact wpAny_Name (wpAny_loadName_cell I.ok.kind hk hc hcell fin) hd
  ·exact wpAny_Name (wpAny_loadName_free I.ok.kind hk hc hcell fin hcd) hd
theorem kJ{i j pos}:PE X (.Constant (.int i) j pos) (tC (.int i)):=fun _ _ _ H _ I h=>wpAny_Constant_int ⟨.int i,H,I.tok _,⟨_,rfl⟩,h⟩
theorem Bx{b j pos}:PE X (.Constant (.bool b) j pos) (tC (.bl b)):=fun _ _ _ H _ I h=>Constant_bool ⟨.bl b,H,I,rfl,h⟩
theorem C2{j pos}:PE X (.Constant .none j pos) (tC .non):=fun _ _ _ H _ I h=>Constant_none ⟨.non,H,I,rfl,h⟩
theorem uI{x j pos}:PE X (.Constant (.str x) j pos) (tC (.str x)):=fun _ _ _ H _ I h=>Calls.Constant_str ⟨.str x,H,I.tok _,⟨_,rfl⟩,h⟩
def Gl(X:Cx)(x:Str):Prop:=X.env.kindOf x=some .globalImplicit
theorem qj{E:Value→Shared→Prop}{pins:List (Addr×Obj)}{s:Shared}{σ:St}{H:Hp}{x:Str}{u:Value}{pos:Pos}{Q:Value→Shared→Prop}(I:Inv X pins σ H s)(hg:Gl X x)(hm:X.mg x=some u)(h:Q u s)
  (hd:(x == ("__debug__" :Str))=false:=by decide):wpAny (model X.prog X.w) X.A (eval (.Name x pos) X.env) Q E s:=
 Calls.Name_function_global I.ok.kind hg (Calls.loadGlobal_global (by rw[I.ok.glob];exact I.mod.glob.keeps I.bk) hm h) hd
theorem nE{E:Value→Shared→Prop}{pins:List (Addr×Obj)}{s:Shared}{σ:St}{H:Hp}{x:Str}{u:Value}{pos:Pos}{Q:Value→Shared→Prop}(I:Inv X pins σ H s)(hg:Gl X x)(hm:X.mg x=none)(hv:bootBuiltins x=some u)(h:Q u s)
  (hn:x≠ "__name__" :=by decide) (hd:(x == ("__debug__" :Str))=false:=by decide):wpAny (model X.prog X.w) X.A (eval (.Name x pos) X.env) Q E s:=by
 obtain⟨mb,h1,h2⟩:=I.mod.blt
 exact Calls.Name_function_global I.ok.kind hg (Calls.loadGlobal_builtin (by rw[I.ok.glob];exact I.mod.glob.keeps I.bk) hm (by rw[I.ok.blt];exact h1.keeps I.bk) ((h2 x hn).trans hv) h) hd
theorem l6 {x:Str}{v:V}{u:Value}{pos:Pos}(hg:Gl X x) (hm:X.mg x=some u) (r:RelV v u) (hd:(x == ("__debug__" :Str))=false:=by decide):PE X (.Name x pos) (tC v):=
 fun _ _ _ H _ I h=>qj I hg hm ⟨v,H,I,r,h⟩ hd
theorem lP {x:Str}{v:V}{u:Value}{pos:Pos}(hg:Gl X x) (hm:X.mg x=none) (hv:bootBuiltins x=some u) (r:RelV v u) (hn:x≠ "__name__" :=by decide) (hd:(x == ("__debug__" :Str))=false:=by decide):PE X (.Name x pos) (tC v):=
 fun _ _ _ H _ I h=>nE I hg hm hv ⟨v,H,I,r,h⟩ hn hd
def F0(ta tb:TE)(k:Int→Int→Hp→Prop):St→Hp→Prop:=fun σ H=>ta σ H fun x H1=>tb σ H1 fun y H2=>∃i j,x=.int i∧y=.int j∧k i j H2
def J7(ta tb:TE):TE:=fun σ H Q=>F0 ta tb (fun i j H2=>Q (.int (i+j)) H2) σ H
def IL(ta tb:TE):TE:=fun σ H Q=>F0 ta tb (fun i j H2=>Q (.int (i - j)) H2) σ H
def IT(ta tb:TE):TE:=fun σ H Q=>F0 ta tb (fun i j H2=>(-(2 ^ 64) < i∧i < 2 ^ 64)∧Q (.int (i * j)) H2) σ H
variable {a b:Expr}{ta tb:TE}{pos:Pos}
def PC(X:Cx)(op:CmpOp)(a b:Expr)(t:TE):Prop:=
 ∀(pins:List (Addr×Obj)) (s:Shared) (σ:St) (H:Hp) (Q:VK),Inv X pins σ H s→t σ H Q→
  wpAny (model X.prog X.w) X.A (eval a X.env) (fun v s₁=>wpAny (model X.prog X.w) X.A (eval b X.env) (fun u s₂=>wpAny (model X.prog X.w) X.A (compareOp op v u) (EP X pins σ Q) X.xe s₂) X.xe s₁) X.xe s
def vR(p:Int→Int→Bool)(ta tb:TE):TE:=fun σ H Q=>F0 ta tb (fun i j H2=>Q (.bl (p i j)) H2) σ H
abbrev Kv:TE→TE→TE:=vR fun i j=>decide (i < j)
abbrev Kq:TE→TE→TE:=vR fun i j=>decide (i≤j)
abbrev Kz:TE→TE→TE:=vR fun i j=>decide (j < i)
abbrev Kt:TE→TE→TE:=vR fun i j=>decide (j≤i)
abbrev JP:TE→TE→TE:=vR fun i j=>decide (i=j)
abbrev JD:TE→TE→TE:=vR fun i j=> !decide (i=j)
def IJ(ta:TE):TE:=fun σ H Q=>ta σ H fun x H1=>Q (.bl (decide (x=.non))) H1
def Iz(ta:TE):TE:=fun σ H Q=>ta σ H fun x H1=>Q (.bl (!decide (x=.non))) H1
def tB(t:TE):TT:=fun σ H Q=>t σ H fun x H1=>FL x H1 Q
theorem zq{op:CmpOp}{t:TE}(h:PC X op a b t)(h1:behindInMarks op b=false:=by first|exact nobehind _ (by decide) (by decide)|rfl):PE X (.Compare a [op] [b] pos) t:=fun pins s σ H Q I hw=>wpAny_Compare1 (h pins s σ H Q I hw) h1
theorem BU{op:CmpOp}{t:TE}(h:PC X op a b t)(h1:behindInMarks op b=false:=by first|exact nobehind _ (by decide) (by decide)|rfl):PT X (.Compare a [op] [b] pos) (tB t):=by
 intro pins s σ H Q I hw
 refine wpAny_isTrue_Compare1 (dq (h pins s σ H _ I hw) fun v s1 h1=>dq h1 fun u s2 h2=>dq h2 fun c s3 hpat=>?_) h1
 obtain⟨x,H1,I1,r1,q1⟩:=hpat
 obtain⟨d,rfl,q⟩:=q1
 cases r1
 exact wpAny_truthy_bool ⟨H1,I1,q⟩
theorem t8{e:Expr}{t:TE}(h:PE X e t)(he:∀whole,isTrue e X.env whole=(do let v ←whole;standAt e.pos;holding [v] (truthy v)):=by intro _;rfl):PT X e (tB t):=by
 intro pins s σ H Q I hw
 refine isTrue_plain (dq (h pins s σ H _ I hw) fun v s1 hpat=>?_) (he _)
 obtain⟨x,H1,I1,r1,q1⟩:=hpat
 obtain⟨d,rfl,q⟩:=q1
 cases r1
 exact wpAny_truthy_bool ⟨H1,I1,q⟩
variable {tA tB':TT}{rest:List Expr}
def xh(t u:TT):TT:=fun σ H Q=>t σ H fun c H1=>if c=true then u σ H1 Q else Q false H1
def Ij(t u:TT):TT:=fun σ H Q=>t σ H fun c H1=>if c=true then Q true H1 else u σ H1 Q
def Fx(t:TT):TT:=fun σ H Q=>t σ H fun c H1=>Q (!c) H1
theorem Aj(ha:PT X a tA):PW X (.BoolOp .And [a] pos) tA:=by
 intro wh pins s σ H Q I h
 refine isTrue_and (dq (ha pins s σ H Q I h) fun c s1 e=>?_)
 cases c with
 |true=>exact isTrue_and_nil e
 |false=>exact e
theorem zt(ha:PT X a tA):PW X (.BoolOp .Or [a] pos) tA:=by
 intro wh pins s σ H Q I h
 refine isTrue_or (dq (ha pins s σ H Q I h) fun c s1 e=>?_)
 cases c with
 |false=>exact isTrue_or_nil e
 |true=>exact e
theorem CZ(ha:PT X a tA)(hb:PW X (.BoolOp .And (b::rest) pos) tB'):PW X (.BoolOp .And (a::b::rest) pos) (xh tA tB'):=by
 intro wh pins s σ H Q I h
 refine isTrue_and (dq (ha pins s σ H _ I h) fun c s1 ⟨H1,I1,q1⟩=>?_)
 cases c with
 |true=>exact hb wh pins s1 σ H1 Q I1 q1
 |false=>exact⟨H1,I1,q1⟩
theorem BE(ha:PT X a tA)(hb:PW X (.BoolOp .Or (b::rest) pos) tB'):PW X (.BoolOp .Or (a::b::rest) pos) (Ij tA tB'):=by
 intro wh pins s σ H Q I h
 refine isTrue_or (dq (ha pins s σ H _ I h) fun c s1 ⟨H1,I1,q1⟩=>?_)
 cases c with
 |true=>exact⟨H1,I1,q1⟩
 |false=>exact hb wh pins s1 σ H1 Q I1 q1
theorem uC(ha:PT X a tA):PT X (.UnaryOp .Not a pos) (Fx tA):=by
 intro pins s σ H Q I h
 exact isTrue_not (dq (ha pins s σ H (fun c H1=>Q (!c) H1) I h) fun c s1 q=>q.casesOn fun H1 I1 q1=>⟨H1,I1,q1⟩)
def xJ(ta tb:TE):TE:=fun σ H Q=>ta σ H fun x H1=>FL x H1 fun c H2=>if c=true then tb σ H2 Q else Q (.bl false) H2
def zO(ta tb:TE):TE:=fun σ H Q=>ta σ H fun x H1=>FL x H1 fun c H2=>if c=true then Q (.bl true) H2 else tb σ H2 Q
def Bw(ta:TE):TE:=fun σ H Q=>ta σ H fun x H1=>FL x H1 fun c H2=>Q (.bl (!c)) H2
theorem qw{op}{t:TE}(h:PE X a t):PE X (.BoolOp op [a] pos) t:=fun pins s σ H Q I hw=>BoolOp_one (h pins s σ H Q I hw)
theorem qx(ha:PE X a ta)(hb:PE X (.BoolOp .And (b::rest) pos) tb):PE X (.BoolOp .And (a::b::rest) pos) (xJ ta tb):=by
 intro pins s σ H Q I h
 refine BoolOp_and (dq (ha pins s σ H _ I h) fun v s1 hpat=>?_)
 obtain⟨x,H1,I1,r1,q1⟩:=hpat
 obtain⟨c,rfl,q1⟩:=q1
 cases r1
 refine wpAny_truthy_bool ?_
 cases c with
 |true=>exact hb pins s1 σ H1 Q I1 q1
 |false=>exact⟨.bl false,H1,I1,rfl,q1⟩
theorem o9(ha:PE X a ta)(hb:PE X (.BoolOp .Or (b::rest) pos) tb):PE X (.BoolOp .Or (a::b::rest) pos) (zO ta tb):=by
 intro pins s σ H Q I h
 refine BoolOp_or (dq (ha pins s σ H _ I h) fun v s1 hpat=>?_)
 obtain⟨x,H1,I1,r1,q1⟩:=hpat
 obtain⟨c,rfl,q1⟩:=q1
 cases r1
 refine wpAny_truthy_bool ?_
 cases c with
 |false=>exact hb pins s1 σ H1 Q I1 q1
 |true=>exact⟨.bl true,H1,I1,rfl,q1⟩
theorem mv(ha:PE X a ta):PE X (.UnaryOp .Not a pos) (Bw ta):=by
 intro pins s σ H Q I h
 refine UnaryOp_ (dq (ha pins s σ H _ I h) fun v s1 hpat=>?_)
 obtain⟨x,H1,I1,r1,q1⟩:=hpat
 obtain⟨c,rfl,q1⟩:=q1
 cases r1
 exact not_of (wpAny_truthy_bool ⟨.bl (!c),H1,I1,rfl,q1⟩)
def Ky(t:TT)(ta tb:TE):TE:=fun σ H Q=>t σ H fun c H1=>if c=true then ta σ H1 Q else tb σ H1 Q
end
end L2
namespace L2
open PySem PySem.Spec PyProof.Rows
def cL(K:PySem.W.Frag)(H:Hp)(a:Addr)(xs:List V):Prop:=
 Rd H a (.lst xs)∨
  ∃(o:Obj) (its:Array Value) (n:Nat),K.lookup a=some o∧o.cls=.type "list" ∧o.dict=none∧o.data=.seq its n∧its.size≤sizeLine∧Vals xs its.toList
def c8(K:PySem.W.Frag)(H:Hp)(a:Addr)(xs:List V):Prop:=
 Rd H a (.tup xs)∨
  ∃(o:Obj) (its:Array Value) (n:Nat),K.lookup a=some o∧o.cls=.type "tuple" ∧o.data=.seq its n∧its.size≤sizeLine∧Vals xs its.toList
def HH:Value→Option V
 |.none=>some .non
 |.bool b=>some (.bl b)
 |.int i _=>some (.int i)
 |.str x _=>some (.str x)
 |.bytes b _=>some (.byt b)
 |.float b _=>some (.flt b)
 |.ref a=>some (.ref a)
 |.type n=>some (.ty n)
 |_=>none
theorem RelV.abs{x:V}{u:Value}(r:RelV x u):HH u=some x:=by
 cases x with
 |non=>cases r;rfl
 |bl _=>cases r;rfl
 |int _=>obtain⟨t,rfl⟩:=r;rfl
 |str _=>obtain⟨t,rfl⟩:=r;rfl
 |byt _=>obtain⟨t,rfl⟩:=r;rfl
 |flt _=>obtain⟨t,rfl⟩:=r;rfl
 |ref _=>cases r;rfl
 |ty _=>cases r;rfl
theorem RelV.inj{x y:V}{u:Value}(r:RelV x u)(q:RelV y u):x=y:=Option.some.inj (r.abs.symm.trans q.abs)
theorem Vals.inj:∀{xs ys:List V}{us:List Value},Vals xs us→Vals ys us→xs=ys
 |_,_,_,.nil,.nil=>rfl
 |_,_,_,.cons r t,.cons r' t'=>by rw[r.inj r',Vals.inj t t']
section
variable {X:Cx}{pins:List (Addr×Obj)}{σ:St}{H:Hp}{s:Shared}{a:Addr}{xs ys:List V}
theorem cL.of{K:PySem.W.Frag}(h:H a=some (.lst xs)):cL K H a xs:=.inl (.inl h)
theorem c8.of{K:PySem.W.Frag}(h:H a=some (.tup xs)):c8 K H a xs:=.inl (.inl h)
theorem Inv.list(I:Inv X pins σ H s)(h:cL X.K H a xs):∃its:List Value,Vals xs its∧PlainL s.heap a its.toArray∧xs.length≤sizeLine:=by
 rcases h with h|⟨o,its,n,hk,hc,hd,hs,hz,r⟩
 ·obtain⟨z,its,n,r,e⟩:=h.ok I.hok
  exact⟨its,r,⟨_,n,e,rfl,rfl,rfl⟩,z⟩
 ·refine⟨its.toList,r,⟨o,n,I.lC a o hk,hc,hd,by simpa using hs⟩,?_⟩
  have e:=r.length
  simp only[length_toList]at e
  omega
theorem Inv.tuple(I:Inv X pins σ H s)(h:c8 X.K H a xs):∃its:List Value,Vals xs its∧IsTup s.heap a its.toArray∧xs.length≤sizeLine:=by
 rcases h with h|⟨o,its,n,hk,hc,hs,hz,r⟩
 ·obtain⟨z,its,r,p⟩:=h.ok I.hok
  exact⟨its,r,p,z⟩
 ·refine⟨its.toList,r,⟨o,I.lC a o hk,hc,n,by simpa using hs⟩,?_⟩
  have e:=r.length
  simp only[length_toList]at e
  omega
theorem Inv.rG(I:Inv X pins σ H s)(h:cL X.K H a xs)(h':cL X.K H a ys):xs=ys:=by
 obtain⟨its,r,⟨o,n,e,_,_,d⟩,_⟩:=I.list h
 obtain⟨its',r',⟨o',n',e',_,_,d'⟩,_⟩:=I.list h'
 rw[e]at e';cases e'
 rw[d]at d'
 injection d' with d1 _
 have:its=its':=by simpa using congrArg Array.toList d1
 subst this
 exact r.inj r'
theorem Inv.vZ(I:Inv X pins σ H s)(h:c8 X.K H a xs)(h':c8 X.K H a ys):xs=ys:=by
 obtain⟨its,r,⟨o,e,_,n,d⟩,_⟩:=I.tuple h
 obtain⟨its',r',⟨o',e',_,n',d'⟩,_⟩:=I.tuple h'
 rw[e]at e';cases e'
 rw[d]at d'
 injection d' with d1 _
 have:its=its':=by simpa using congrArg Array.toList d1
 subst this
 exact r.inj r'
end
abbrev Cx.n6(X:Cx)(E:Value→Shared→Prop):Cx:={ X with xe:=E }
abbrev Cx.zF(X:Cx):Cx:=X.n6 fun _ _=>False
theorem Cx.Ok.n6{X:Cx}(ok:X.Ok)(E:Value→Shared→Prop):(X.n6 E).Ok:=
 ⟨ok.mod,ok.kind,ok.glob,ok.blt,ok.above,ok.inj,ok.has,ok.cab,ok.hd,ok.frames,ok.stk,ok.exf,ok.bs,ok.bsz,ok.noex,ok.exfs,ok.kP,ok.frf⟩
theorem Cx.Ok.hE{X:Cx}{E:Value→Shared→Prop}(ok:(X.n6 E).Ok):X.Ok:=
 ⟨ok.mod,ok.kind,ok.glob,ok.blt,ok.above,ok.inj,ok.has,ok.cab,ok.hd,ok.frames,ok.stk,ok.exf,ok.bs,ok.bsz,ok.noex,ok.exfs,ok.kP,ok.frf⟩
section
variable {X:Cx}{pins:List (Addr×Obj)}{σ:St}{H:Hp}{s:Shared}{E:Value→Shared→Prop}
theorem Inv.n6(I:Inv X pins σ H s)(E:Value→Shared→Prop):Inv (X.n6 E) pins σ H s:=⟨I.ok.n6 E,I.os,I.bare,I.base,I.loc,I.cell,I.free,I.freeC,I.pin,I.hok,I.len⟩
theorem Inv.hE(I:Inv (X.n6 E) pins σ H s):Inv X pins σ H s:=⟨I.ok.hE,I.os,I.bare,I.base,I.loc,I.cell,I.free,I.freeC,I.pin,I.hok,I.len⟩
theorem SP.hE{D:Ends}{f:Flow}{s':Shared}(h:SP (X.n6 E) pins D f s'):SP X pins D f s':=by
 cases f with
 |next=>obtain⟨σ',H',I,q⟩:=h;exact⟨σ',H',I.hE,q⟩
 |brk=>obtain⟨σ',H',I,q⟩:=h;exact⟨σ',H',I.hE,q⟩
 |cont=>obtain⟨σ',H',I,q⟩:=h;exact⟨σ',H',I.hE,q⟩
 |ret u=>obtain⟨v,σ',H',I,r,q⟩:=h;exact⟨v,σ',H',I.hE,r,q⟩
theorem tE.zF{st:List Stmt}{t:TS}(h:tE X.zF st t):tE X st t:=fun pins s σ H D I hw=>
 wpAny_mono (h pins s σ H D (I.n6 _) hw) (fun _ _ q=>q.hE) fun _ _ z=>False.elim z
end
section
variable {X:Cx}{st:Stmt}{rest:List Stmt}{t u:TS}{e:Expr}{te:TE}{pos:Pos}
def sR:TS:=fun D σ H=>D.nx σ H
def AB(t u:TS):TS:=fun D σ H=>t { D with nx:=u D } σ H
theorem vB:tE X [] sR:=fun _ _ σ H _ I h=>wpAny_execs_nil ⟨σ,H,I,h⟩
theorem sI(h1:PS X st t)(h2:tE X rest u):tE X (st::rest) (AB t u):=by
 intro pins s σ H D I h
 refine wpAny_execs_cons (dq (h1 pins s σ H { D with nx:=u D } I h) fun f s1 q=>?_)
 cases f with
 |next=>
  obtain⟨σ',H',I',q⟩:=q
  exact h2 pins s1 σ' H' D I' q
 |ret v=>exact q
 |brk=>exact q
 |cont=>exact q
theorem jM(h1:PS X st t):tE X [st] t:=by
 intro pins s σ H D I h
 refine wpAny_execs_cons (dq (h1 pins s σ H D I h) fun f s1 q=>?_)
 cases f with
 |next=>exact wpAny_execs_nil q
 |ret v=>exact q
 |brk=>exact q
 |cont=>exact q
def Gx:TS:=fun D σ H=>D.bk σ H
def Ip:TS:=fun D σ H=>D.ct σ H
theorem Inv.quiet{pins:List (Addr×Obj)}{σ:St}{H:Hp}{s:Shared}(I:Inv X pins σ H s):interactive X.env=false:=by simp[interactive,I.ok.kind]
def xO(te:TE):TS:=fun D σ H=>te σ H fun _ H1=>D.nx σ H1
theorem Bl(he:PE X e te)(hs:swapsWith e none pos.line X.env=pure false:=by rfl):PS X (.Expr e pos) (xO te):=by
 intro pins s σ H D I h
 exact wpAny_Expr_any (dq (he pins s σ H _ I h) fun v s1 ⟨x,H1,I1,r1,q1⟩=>⟨σ,H1,I1,q1⟩) I.quiet hs
def EM(te:TE):TS:=fun D σ H=>te σ H D.rt
theorem mF(he:PE X e te):PS X (.Return (some e) pos) (EM te):=by
 intro pins s σ H D I h
 exact wpAny_Return_some (dq (he pins s σ H _ I h) fun v s1 ⟨x,H1,I1,r1,q1⟩=>⟨x,σ,H1,I1,r1,q1⟩)
def Iq:TS:=fun D _ H=>D.rt .non H
def xU(c:TT)(t u:TS):TS:=fun D σ H=>c σ H fun b H1=>if b=true then t D σ H1 else u D σ H1
theorem Bz{c:Expr}{a b:List Stmt}{tc:TT}(hc:PT X c tc)(ha:tE X a t)(hb:tE X b u):PS X (.If c a b pos) (xU tc t u):=by
 intro pins s σ H D I h
 refine wpAny_If (dq (hc pins s σ H _ I h) fun d s1 ⟨H1,I1,q1⟩=>?_)
 cases d with
 |true=>exact ha pins s1 σ H1 D I1 q1
 |false=>exact hb pins s1 σ H1 D I1 q1
def yX:TS:=fun _ _ _=>False
theorem wR{sts:List Stmt}:tE X sts yX:=fun _ _ _ _ _ _ h=>h.elim
end
abbrev TG:=V→St→Hp→(St→Hp→Prop)→Prop
abbrev nJ:=List V→St→Hp→(St→Hp→Prop)→Prop
def PG(X:Cx)(target:Expr)(t:TG):Prop:=
 ∀(pins:List (Addr×Obj)) (s:Shared) (σ:St) (H:Hp) (v:V) (u:Value) (Q:St→Hp→Prop),Inv X pins σ H s→RelV v u→t v σ H Q→
  wpAny (model X.prog X.w) X.A (assign target X.env u) (fun _ s'=>∃σ' H',Inv X pins σ' H' s'∧Q σ' H') X.xe s
def Et(X:Cx)(ts:List Expr)(t:nJ):Prop:=
 ∀(pins:List (Addr×Obj)) (s:Shared) (σ:St) (H:Hp) (vs:List V) (us:List Value) (Q:St→Hp→Prop),Inv X pins σ H s→Vals vs us→t vs σ H Q→
  wpAny (model X.prog X.w) X.A (assignInOrder ((assignEach ts X.env).map (·.2)) us) (fun _ s'=>∃σ' H',Inv X pins σ' H' s'∧Q σ' H') X.xe s
abbrev Dm:=V→V→V→Hp→(Hp→Prop)→Prop
def Js(X:Cx)(t:Dm):Prop:=
 ∀(pins:List (Addr×Obj)) (s:Shared) (σ:St) (H:Hp) (o i v:V) (ov iv u:Value) (Q:Hp→Prop),Inv X pins σ H s→RelV o ov→RelV i iv→RelV v u→t o i v H Q→
  wpAny (model X.prog X.w) X.A (setItem ov iv u) (fun _ s'=>∃H',Inv X pins σ H' s'∧Q H') X.xe s
abbrev Gi:=V→V→Hp→VK→Prop
def Ku(X:Cx)(op:Operator)(t:Gi):Prop:=
 ∀(pins:List (Addr×Obj)) (s:Shared) (σ:St) (H:Hp) (x y:V) (v u:Value) (Q:VK),Inv X pins σ H s→RelV x v→RelV y u→t x y H Q→
  wpAny (model X.prog X.w) X.A (inplaceOp op v u) (EP X pins σ Q) X.xe s
section
variable {X:Cx}{pos:Pos}
def d7(i:Nat):TG:=fun v σ H Q=>Q (σ.set i (some v)) H
theorem lJ{i:Nat}{x:Str}(hN:X.N.Nodup)(hi:X.N[i]? =some x)(hx:Loc X.env.scope x)(hf:X.fn x=true∨X.env.scope.names.lookup x=some .local:=by first|exact .inl rfl|exact .inr rfl|assumption):PG X (.Name x pos) (d7 i):=by
 intro pins s σ H v u Q I r h
 exact wpAny_assign_Name (j9 I hN hi hx r (fun s' I'=>⟨_,H,I',h⟩) hf)
def zX:nJ:=fun vs σ H Q=>vs=[]∧Q σ H
inductive Fv(t:TG)(u:nJ)(vs:List V)(σ:St)(H:Hp)(Q:St→Hp→Prop):Prop
 |mk(v:V)(r:List V)(e:vs=v::r)(q:t v σ H fun σ' H'=>u r σ' H' Q)
def oW(t:TG)(u:nJ):nJ:=fun vs σ H Q=>Fv t u vs σ H Q
theorem zY:Et X [] zX:=by
 intro pins s σ H vs us Q I r h
 obtain⟨e,h⟩:=h
 subst e
 cases r
 exact assignInOrder_nil ⟨σ,H,I,h⟩
theorem ze{e:Expr}{es:List Expr}{t:TG}{u:nJ}(h1:PG X e t)(h2:Et X es u)
  (hs:(assignEach (e::es) X.env).map (·.2)=assign e X.env::(assignEach es X.env).map (·.2):=by rfl):Et X (e::es) (oW t u):=by
 intro pins s σ H vs us Q I r h
 obtain⟨v,vr,e1,h⟩:=h
 subst e1
 cases r with
 |cons r rr=>
  rw[hs]
  refine assignInOrder_cons (dq (h1 pins s σ H _ _ _ I r h) fun _ s1 hpat=>?_)
  obtain⟨σ1,H1,I1,q1⟩:=hpat
  exact h2 pins s1 σ1 H1 _ _ Q I1 rr q1
inductive Gw(K:PySem.W.Frag)(n:Nat)(t:nJ)(v:V)(σ:St)(H:Hp)(Q:St→Hp→Prop):Prop
 |mk(a:Addr)(xs:List V)(hv:v=.ref a)(s:c8 K H a xs)(e:xs.length=n)(q:t xs σ H Q)
def yF(K:PySem.W.Frag)(n:Nat)(t:nJ):TG:=fun v σ H Q=>Gw K n t v σ H Q
theorem xY{es:List Expr}{k:Nat}{t:nJ}{n:Nat}(hc:X.calm=true)(h:Et X es t)
  (hn:(assignEach es X.env).length=n:=by rfl)(hst:(assignEach es X.env).findIdx? (·.1)=none:=by rfl):PG X (.Tuple es k pos) (yF X.K n t):=by
 intro pins s σ H v u Q I r hw
 obtain⟨a,xs,e1,hq,hl,hw⟩:=hw
 subst e1
 cases r
 obtain⟨its,rv,ht,hz⟩:=I.tuple hq
 refine assign_Tuple_tuple (I.ok.hd hc) ht (by simp[hn,←hl,rv.length]) hst fun h' hx=>?_
 have I1:Inv X pins σ H { s with heap:=h' }:=I.kept (t':=s.toks) fun b o e=>hx b o (ne_of_lt (lt_size e)) e
 exact h pins _ σ H xs _ Q I1 (by simpa using rv) hw
def IG(to ti:TE)(t:Dm):TG:=fun v σ H Q=>to σ H fun o H1=>ti σ H1 fun i H2=>t o i v H2 fun H3=>Q σ H3
def qY(te:TE)(g:TG):TS:=fun D σ H=>te σ H fun x H1=>g x σ H1 D.nx
theorem CU{tg e:Expr}{te:TE}{g:TG}(he:PE X e te)(hg:PG X tg g)(hs:swapsWithSole [tg] e pos.line X.env=pure false:=by rfl)(hw:swappedStores [tg] e X.env=pure none:=by rfl)
  (h1:(assignEach [tg] X.env).map (·.2)=[assign tg X.env]:=by rfl):PS X (.Assign [tg] e pos) (qY te g):=by
 intro pins s σ H D I h
 refine wpAny_Assign_stores (dq (he pins s σ H _ I h) fun v s1 hpat=>?_) hs hw
 obtain⟨x,H1,I1,r1,q1⟩:=hpat
 rw[h1]
 exact dq (hg pins s1 σ H1 x v _ I1 r1 q1) fun _ s2 ⟨a,b,c,d⟩=>⟨a,b,c,d⟩
theorem Dr{i:Nat}{x:Str}{e:Expr}{te:TE}{pos':Pos}(hN:X.N.Nodup)(hi:X.N[i]? =some x)(hx:Loc X.env.scope x)(he:PE X e te)(hs:swapsWith e (some (.Name x pos')) pos.line X.env=pure false:=by rfl)(hf:X.fn x=true∨X.env.scope.names.lookup x=some .local:=by first|exact .inl rfl|exact .inr rfl|assumption):
  PS X (.Assign [.Name x pos'] e pos) (qY te (d7 i)):=by
 intro pins s σ H D I h
 refine wpAny_Assign_Name (dq (he pins s σ H _ I h) fun v s1 hpat=>?_) hs
 obtain⟨y,H1,I1,r1,q1⟩:=hpat
 exact j9 I1 hN hi hx r1 (fun s2 I2=>⟨_,H1,I2,q1⟩) hf
def J2(i j:Nat)(ta:TA):TS:=fun D σ H=>ta σ H fun vs H1=>∃v w,vs=[v,w]∧D.nx ((σ.set i (some v)).set j (some w)) H1
def IV(i:Nat)(te:TE)(ti:Gi):TS:=fun D σ H=>∃x,σ[i]? =some (some x)∧te σ H fun y H1=>ti x y H1 fun z H2=>D.nx (σ.set i (some z)) H2
def HV(to ti te:TE)(tget:V→V→Hp→VK→Prop)(tip:Gi)(tset:Dm):TS:=fun D σ H=>to σ H fun o H1=>ti σ H1 fun i H2=>tget o i H2 fun x H3=>te σ H3 fun y H4=>tip x y H4 fun z H5=>tset o i z H5 fun H6=>D.nx σ H6
def Jt(X:Cx)(t:V→V→Hp→VK→Prop):Prop:=
 ∀(pins:List (Addr×Obj)) (s:Shared) (σ:St) (H:Hp) (o i:V) (ov iv:Value) (Q:VK),Inv X pins σ H s→RelV o ov→RelV i iv→t o i H Q→
  wpAny (model X.prog X.w) X.A (getItem ov iv) (EP X pins σ Q) X.xe s
def Kw(f:Int→Int→Int):Gi:=fun x y H Q=>∃i j,x=.int i∧y=.int j∧Q (.int (f i j)) H
end
section
variable {X:Cx}{pos:Pos}
def HB(c:TT)(tb:TS):TS:=fun D σ H=>∃W:Nat→St→Hp→Prop,(∃m,W m σ H)∧∀m σ H,W m σ H→
 c σ H fun b H1=>if b=true then ∃N:St→Hp→Prop,(∀σ' H',N σ' H'→∃m',m' < m∧W m' σ' H')∧tb { D with nx:=N,ct:=N,bk:=D.nx } σ H1 else D.nx σ H1
end
structure It where
 go:Nat→Hp→Prop
 yld:Nat→Hp→V→Hp→Prop
 stop:Nat→Hp→Prop
def iu(X:Cx)(pins:List (Addr×Obj))(H:Hp)(b:Addr):Prop:=
 H b=none∧b≠X.env.locals∧b ∉ X.fs∧(b∈X.ex∨X.s₀.heap.objs.size≤b)∧(∀x c,X.env.cells.lookup x=some c→c≠b)∧∀p∈X.pn++pins,p.1≠b
theorem Inv.vO{X:Cx}{pins:List (Addr×Obj)}{σ:St}{H H':Hp}{s:Shared}{b:Addr}(I:Inv X pins σ H s)(hb:s.heap.objs.size≤b)(hn:H' b=none):iu X pins H' b:=by
 refine⟨hn,ne_of_gt (lt_of_lt_of_le I.lt hb),I.GQ hb,.inr (le_trans I.sz hb),fun x c e z=>?_,fun p hp z=>?_⟩
 ·obtain⟨v,q⟩:=I.cell x c e
  exact absurd (lt_of_lt_of_le q.lt (by rw[z];exact hb)) (lt_irrefl _)
 ·exact absurd (lt_of_lt_of_le (lt_size (I.pin p hp).1) (by rw[z];exact hb)) (lt_irrefl _)
structure Turn(P:Program)(w:World)(K:PySem.W.Frag)(tg:Expr)(J:It)(fp:List Addr)(it:Addr)(tn:Nat→Heap→Prop):Prop where
 mem:it∈fp
 obj:∀i h,tn i h→∀b∈fp,∃o,h.get? b=some o∧∀v,o.data≠.cell v
 keep:∀i h h',tn i h→(∀b∈fp,∀o,h.get? b=some o→h'.get? b=some o)→tn i h'
 item:∀(X:Cx),X.prog=P→X.w=w→X.K=K→X.calm=true→∀(i:Nat) (pins:List (Addr×Obj)) (s:Shared) (σ:St) (H:Hp) (E:Value→Shared→Prop),Inv X pins σ H s→(∀b∈fp,iu X pins H b)→tn i s.heap→J.go i H→
  wpAny (model P w) X.A (pyNext (.ref it)) (fun r s1=>∃u,r=some u∧
   wpAny (model P w) X.A (letOwnedTupleGo tg (.ref it) u) (fun _ s2=>∃x H',Inv X pins σ H' s2∧RelV x u∧J.yld i H x H'∧tn (i+1) s2.heap∧∀b∈fp,H' b=none) E s1) E s
 done:∀(X:Cx),X.prog=P→X.w=w→X.K=K→X.calm=true→∀(i:Nat) (pins:List (Addr×Obj)) (s:Shared) (σ:St) (H:Hp) (E:Value→Shared→Prop),Inv X pins σ H s→(∀b∈fp,iu X pins H b)→tn i s.heap→J.stop i H→
  wpAny (model P w) X.A (pyNext (.ref it)) (fun r s1=>r=none∧Inv X pins σ H s1) E s
 self:∀(A:Around) (i:Nat) (s:Shared) (Q:Value→Shared→Prop) (E:Value→Shared→Prop),tn i s.heap→Q (.ref it) s→wpAny (model P w) A (pyIter (.ref it)) Q E s
abbrev TI:=St→Hp→(It→Hp→Prop)→Prop
def Hm(X:Cx)(pins:List (Addr×Obj))(σ:St)(tg:Expr)(R:It→Hp→Prop)(itv:Value)(s2:Shared):Prop:=
 ∃(it:Addr) (fp:List Addr) (tn:Nat→Heap→Prop) (J:It) (H':Hp),itv=.ref it∧Inv X pins σ H' s2∧Turn X.prog X.w X.K tg J fp it tn∧tn 0 s2.heap∧(∀b∈fp,iu X pins H' b)∧R J H'
def PI(X:Cx)(tg iter:Expr)(wi:TI):Prop:=
 ∀(pins:List (Addr×Obj)) (s:Shared) (σ:St) (H:Hp) (R:It→Hp→Prop),Inv X pins σ H s→wi σ H R→
  wpAny (model X.prog X.w) X.A (eval iter X.env) (fun v s1=>wpAny (model X.prog X.w) X.A (pyIter v) (Hm X pins σ tg R) X.xe s1) X.xe s
theorem vx{M:Model}{A:Around}{E:Value→Shared→Prop}{s:Shared}{tg:Expr}{it:Addr}{u:Value}{o:Obj}{n:String}{vs:Array Value}{Q:Unit→Shared→Prop}(ho:s.heap.get? it=some o)(hc:o.cls=.type n)(hd:o.data=.fields vs)
  (hn:["enumerate", "zip", "dict_itemiterator", "dict_reverseitemiterator", "odict_iterator", "itertools.zip_longest", "itertools.pairwise"].contains n=false) (hQ:Q () s):wpAny M A (letOwnedTupleGo tg (.ref it) u) Q E s:=by
 unfold letOwnedTupleGo
 cases tg<;>first
  |exact wpAny_pure hQ
  | (cases u<;>first
    |exact wpAny_pure hQ
    | (refine wpAny_bind (wpAny_load ho ?_)
       rw[hc,hd]
       show wpAny M A (if(["enumerate", "zip", "dict_itemiterator", "dict_reverseitemiterator", "odict_iterator", "itertools.zip_longest", "itertools.pairwise"].contains n && vs[0]? == some (rawInt _))=true then _ else _) Q E s
       rw[if_neg (by intro h;rw[hn,Bool.false_and]at h;cases h)]
       exact wpAny_pure hQ))
def BA(K:PySem.W.Frag)(a:Addr):It:=
 ⟨fun i H=>∃xs x,cL K H a xs∧xs[i]? =some x,fun i H x H'=>H'=H∧∀xs,cL K H a xs→xs[i]? =some x,fun i H=>∃xs,cL K H a xs∧xs.length≤i⟩
def Gq(K:PySem.W.Frag)(a:Addr):It:=
 ⟨fun i H=>∃xs x,c8 K H a xs∧xs[i]? =some x,fun i H x H'=>H'=H∧∀xs,c8 K H a xs→xs[i]? =some x,fun i H=>∃xs,c8 K H a xs∧xs.length≤i⟩
def AE(lo:Int)(n:Nat):It:=⟨fun i _=>i < n,fun i H x H'=>H'=H∧x=.int (lo+i),fun i _=>n≤i⟩
theorem xg{P:Program}{w:World}{K:PySem.W.Frag}{tg:Expr}(a it:Addr):Turn P w K tg (BA K a) [it] it (fun i h=>h.IsListIter it a i) where
 mem:=by simp
 obj:=fun i h st b hb=>by
  have e:b=it:=by simpa using hb
  subst e
  obtain⟨o,e,c,d⟩:=st
  exact⟨o,e,fun v z=>by rw[d]at z;cases z⟩
 keep:=fun i h h' st k=>st.at fun o e=>k it (by simp) o e
 item:=by
  intro X hP hw hK hc i pins s σ H E I hf st hg
  subst hP hw hK
  obtain⟨xs,x,hq,hx⟩:=hg
  obtain⟨its,rv,p,hz⟩:=I.list hq
  obtain⟨u,hu,ru⟩:=rv.get hx
  obtain⟨f0,f1,f2,f3,f4,f5⟩:=hf it (by simp)
  refine wpAny_pyNext_list_item st p.isList (x:=u) (by simpa using hu) fun h' st' sb=>?_
  have I1:Inv X pins σ H { s with heap:=h' }:=I.turned (t':=s.toks) (fun b o hb e=>(sb.2 b hb).trans e) f0 f1 f3 f4 f5
  obtain⟨o,e,c,d⟩:=id st'
  exact⟨u,rfl,vx (s:={ s with heap:=h' }) e c d (by decide) ⟨x,H,I1,ru,⟨rfl,fun ys hy=>by rw[I.rG hy hq];exact hx⟩,st',fun b hb=>(hf b hb).1⟩⟩
 done:=by
  intro X hP hw hK hc i pins s σ H E I hf st hg
  subst hP hw hK
  obtain⟨xs,hq,hx⟩:=hg
  obtain⟨its,rv,p,hz⟩:=I.list hq
  obtain⟨f0,f1,f2,f3,f4,f5⟩:=hf it (by simp)
  have hl:=rv.length
  exact wpAny_pyNext_list_end (I.ok.hd hc) st p.isList (by simp;omega) fun h' eb=>⟨rfl,I.turned (t':=s.toks) (fun b o hb e=>eb b o hb e) f0 f1 f3 f4 f5⟩
 self:=fun _ _ _ _ _ st h=>wpAny_pyIter_listiter st h
theorem ux{P:Program}{w:World}{K:PySem.W.Frag}{tg:Expr}(a it:Addr):Turn P w K tg (Gq K a) [it] it (fun i h=>h.IsTupleIter it a i) where
 mem:=by simp
 obj:=fun i h st b hb=>by
  have e:b=it:=by simpa using hb
  subst e
  obtain⟨o,e,c,d⟩:=st
  exact⟨o,e,fun v z=>by rw[d]at z;cases z⟩
 keep:=fun i h h' st k=>st.at fun o e=>k it (by simp) o e
 item:=by
  intro X hP hw hK hc i pins s σ H E I hf st hg
  subst hP hw hK
  obtain⟨xs,x,hq,hx⟩:=hg
  obtain⟨its,rv,p,hz⟩:=I.tuple hq
  obtain⟨u,hu,ru⟩:=rv.get hx
  obtain⟨f0,f1,f2,f3,f4,f5⟩:=hf it (by simp)
  refine wpAny_pyNext_tuple_item st (show s.heap.IsTuple a its.toArray from p) (x:=u) (by simpa using hu) fun h' st' sb=>?_
  have I1:Inv X pins σ H { s with heap:=h' }:=I.turned (t':=s.toks) (fun b o hb e=>(sb.2 b hb).trans e) f0 f1 f3 f4 f5
  obtain⟨o,e,c,d⟩:=id st'
  exact⟨u,rfl,vx (s:={ s with heap:=h' }) e c d (by decide) ⟨x,H,I1,ru,⟨rfl,fun ys hy=>by rw[I.vZ hy hq];exact hx⟩,st',fun b hb=>(hf b hb).1⟩⟩
 done:=by
  intro X hP hw hK hc i pins s σ H E I hf st hg
  subst hP hw hK
  obtain⟨xs,hq,hx⟩:=hg
  obtain⟨its,rv,p,hz⟩:=I.tuple hq
  obtain⟨f0,f1,f2,f3,f4,f5⟩:=hf it (by simp)
  have hl:=rv.length
  exact wpAny_pyNext_tuple_end (I.ok.hd hc) st (show s.heap.IsTuple a its.toArray from p) (by simp;omega) fun h' eb=>⟨rfl,I.turned (t':=s.toks) (fun b o hb e=>eb b o hb e) f0 f1 f3 f4 f5⟩
 self:=fun _ _ _ _ _ st h=>wpAny_pyIter_tupleiter st h
theorem uN{P:Program}{w:World}{K:PySem.W.Frag}{tg:Expr}(it:Addr)(lo:Int)(n:Nat):Turn P w K tg (AE lo n) [it] it (fun i h=>IsRangeIter h it (lo+(i:Nat) * 1) ((n:Int) - (i:Nat)) 1) where
 mem:=by simp
 obj:=fun i h st b hb=>by
  have e:b=it:=by simpa using hb
  subst e
  exact⟨_,st,fun v z=>by
   have z':Data.fields _=Data.cell v:=z
   cases z'⟩
 keep:=fun i h h' st k=>k it (by simp) _ st
 item:=by
  intro X hP hw hK hc i pins s σ H E I hf st hg
  subst hP hw hK
  obtain⟨f0,f1,f2,f3,f4,f5⟩:=hf it (by simp)
  have W:=Walks.range (prog:=X.prog) (w:=X.w) (I.ok.hd hc) it lo 1 n
  refine W.item i s _ _ hg st fun v h' tk hv st' kk=>?_
  obtain⟨t,rfl⟩:=hv
  have I1:Inv X pins σ H { s with heap:=h',toks:=tk }:=I.turned (fun b o hb e=>kk b o (by simpa using hb) e) f0 f1 f3 f4 f5
  refine⟨_,rfl,vx (s:={ s with heap:=h',toks:=tk }) (n:= "range_iterator") st' rfl rfl (by decide) ⟨.int (lo+i),H,I1,⟨t,?_⟩,⟨rfl,rfl⟩,st',fun b hb=>(hf b hb).1⟩⟩
  rw[Int.mul_one]
 done:=by
  intro X hP hw hK hc i pins s σ H E I hf st hg
  subst hP hw hK
  obtain⟨f0,f1,f2,f3,f4,f5⟩:=hf it (by simp)
  exact wpAny_pyNext_range_end (I.ok.hd hc) st (by have:n≤i:=hg;omega) fun h' eb=>⟨rfl,I.turned (t':=s.toks) (fun b o hb e=>eb b o hb e) f0 f1 f3 f4 f5⟩
 self:=fun _ _ _ _ _ st h=>wpAny_pyIter_rangeiter st h
end L2
namespace L2
open PySem PySem.Spec PyProof.Rows
section
variable {X:Cx}{tg:Expr}
inductive CB(K:PySem.W.Frag)(x:V)(H:Hp)(R:It→Hp→Prop):Prop
 |mk(a:Addr)(e:x=.ref a)(s:∃xs,cL K H a xs)(q:R (BA K a) H)
def Br(K:PySem.W.Frag)(tl:TE):TI:=fun σ H R=>tl σ H fun x H1=>CB K x H1 R
def E4(K:PySem.W.Frag)(tl:TE):TI:=fun σ H R=>tl σ H fun x H1=>∃a,x=.ref a∧(∃xs,c8 K H1 a xs)∧R (Gq K a) H1
theorem AX{l:Expr}{tl:TE}(hl:PE X l tl):PI X tg l (Br X.K tl):=by
 intro pins s σ H R I h
 refine dq (hl pins s σ H _ I h) fun v s1 hpat=>?_
 obtain⟨x,H1,I1,r1,q1⟩:=hpat
 obtain⟨a,e,⟨xs,hq⟩,q⟩:=q1
 subst e
 cases r1
 obtain⟨its,rv,p,hz⟩:=I1.list hq
 refine wpAny_pyIter_list p.isList ?_
 refine⟨s1.heap.objs.size,[s1.heap.objs.size],_,_,H1,rfl,I1.kept (t':=s1.toks) fun b o e=>get?_push_of_some _ e,xg a _,⟨_,get?_push_size _ rfl,rfl,rfl⟩,fun b hb=>?_,q⟩
 have e:b=s1.heap.objs.size:=by simpa using hb
 subst e
 exact I1.vO (le_refl _) (I1.hok.fresh (le_refl _))
theorem ud{l:Expr}{tl:TE}(hl:PE X l tl):PI X tg l (E4 X.K tl):=by
 intro pins s σ H R I h
 refine dq (hl pins s σ H _ I h) fun v s1 hpat=>?_
 obtain⟨x,H1,I1,r1,q1⟩:=hpat
 obtain⟨a,e,⟨xs,hq⟩,q⟩:=q1
 subst e
 cases r1
 obtain⟨its,rv,p,hz⟩:=I1.tuple hq
 refine wpAny_pyIter_tuple (show s1.heap.IsTuple a its.toArray from p) ?_
 refine⟨s1.heap.objs.size,[s1.heap.objs.size],_,_,H1,rfl,I1.kept (t':=s1.toks) fun b o e=>get?_push_of_some _ e,ux a _,⟨_,get?_push_size _ rfl,rfl,rfl⟩,fun b hb=>?_,q⟩
 have e:b=s1.heap.objs.size:=by simpa using hb
 subst e
 exact I1.vO (le_refl _) (I1.hok.fresh (le_refl _))
theorem yk{pins:List (Addr×Obj)}{σ:St}{H:Hp}{s:Shared}{R:It→Hp→Prop}{E:Value→Shared→Prop}{lo hi:Int}{t u v:Tok}{tk:Nat}(I:Inv X pins σ H s)(h1: -(2 ^ 62)≤lo)(h2:lo < 2 ^ 62)(h3: -(2 ^ 62)≤hi)(h4:hi < 2 ^ 62)
  (q:R (AE lo (hi - lo).toNat) H):wpAny (model X.prog X.w) X.A (pyIter (.ref s.heap.objs.size)) (Hm X pins σ tg R) E { s with heap:=s.heap.push { cls:=.type "range",data:=.fields #[.int lo t,.int hi u,.int 1 v] },toks:=tk }:=by
 refine wpAny_pyIter_range (IsRange.new ..) (small_one h1 h2 h3 h4) ?_
 have I1:Inv X pins σ H { s with heap:=s.heap.push { cls:=.type "range",data:=.fields #[.int lo t,.int hi u,.int 1 v] },toks:=tk }:=I.kept fun b o e=>get?_push_of_some _ e
 refine⟨(s.heap.push { cls:=.type "range",data:=.fields #[.int lo t,.int hi u,.int 1 v] }).objs.size,[(s.heap.push { cls:=.type "range",data:=.fields #[.int lo t,.int hi u,.int 1 v] }).objs.size],_,_,H,rfl,
  I1.kept (t':=tk) fun b o e=>get?_push_of_some _ e,uN _ lo (hi - lo).toNat,?_,fun b hb=>?_,q⟩
 ·have e1:lo+((0:Nat):Int) * 1=lo:=by simp
  have e2:(((hi - lo).toNat:Nat):Int) - ((0:Nat):Int)=Builtin.Range.rangeSize lo hi 1:=by rw[rangeSize_one];split<;>omega
  show IsRangeIter _ _ (lo+((0:Nat):Int) * 1) ((((hi - lo).toNat:Nat):Int) - ((0:Nat):Int)) 1
  rw[e1,e2]
  exact get?_push_size _ rfl
 ·have e:b=(s.heap.push { cls:=.type "range",data:=.fields #[.int lo t,.int hi u,.int 1 v] }).objs.size:=by simpa using hb
  subst e
  exact I1.vO (le_refl _) (I1.hok.fresh (le_refl _))
def BH(ta:TA):TI:=fun σ H R=>ta σ H fun vs H1=>∃j:Int,vs=[.int j]∧ -(2 ^ 62)≤j∧j < 2 ^ 62∧R (AE 0 j.toNat) H1
def Ia(ta:TA):TI:=fun σ H R=>ta σ H fun vs H1=>∃i j:Int,vs=[.int i,.int j]∧(-(2 ^ 62)≤i∧i < 2 ^ 62∧ -(2 ^ 62)≤j∧j < 2 ^ 62)∧R (AE i (j - i).toNat) H1
theorem e9 {a:Expr}{ta:TA}{p pos:Pos}(hg:Gl X "range") (hm:X.mg "range" =none) (ha:PA X [a] ta) (hs:starEach [a] X.env=[(false,eval a X.env)]:=by rfl):PI X tg (.Call (.Name "range" p) [a] [] pos) (BH ta):=by
 intro pins s σ H R I h
 refine Call_ (nE I hg hm boot_range (PyProof.Rows.callWith_type1 (dq (ha pos pins s σ H _ I h) fun us s1 hpat=>?_) hs rfl))
 obtain⟨vs,H1,I1,r1,q1⟩:=hpat
 obtain⟨j,e,q1,q2,q⟩:=q1
 subst e
 cases r1 with
 |cons r rr=>
  cases rr
  obtain⟨t,rfl⟩:=r
  exact call_range_1 (yk I1 (by omega) (by omega) q1 q2 (by simpa using q))
def Ek(wi:TI)(g:TG)(tb:TS):TS:=fun D σ H=>wi σ H fun J H1=>∃W:Nat→Nat→St→Hp→Prop,(∃m,W 0 m σ H1)∧∀i m σ H,W i m σ H→
 (J.stop i H∧D.nx σ H)∨(J.go i H∧∃N:St→Hp→Prop,(∀σ' H',N σ' H'→∃m',m' < m∧W (i+1) m' σ' H')∧∀x H',J.yld i H x H'→g x σ H' fun σ2 H2=>tb { D with nx:=N,ct:=N,bk:=D.nx } σ2 H2)
def p7(fp:List Addr)(h:Heap):List (Addr×Obj):=fp.filterMap fun b=>(h.get? b).map fun o=>(b,o)
theorem d4{fp:List Addr}{h:Heap}{b:Addr}{o:Obj}(hb:b∈fp)(e:h.get? b=some o):(b,o)∈p7 fp h:=List.mem_filterMap.mpr ⟨b,hb,by rw[e];rfl⟩
theorem vP{fp:List Addr}{h:Heap}{p:Addr×Obj}(hp:p∈p7 fp h):p.1∈fp∧h.get? p.1=some p.2:=by
 obtain⟨b,hb,e⟩:=List.mem_filterMap.mp hp
 cases q:h.get? b with
 |none=>rw[q]at e;cases e
 |some o=>
  rw[q]at e
  have e':(b,o)=p:=Option.some.inj e
  subst e'
  exact⟨hb,q⟩
theorem Inv.pinned{pins:List (Addr×Obj)}{σ:St}{H:Hp}{s:Shared}{fp:List Addr}(I:Inv X pins σ H s)(hf:∀b∈fp,iu X pins H b)(ho:∀b∈fp,∃o,s.heap.get? b=some o∧∀v,o.data≠.cell v):Inv X (pins++p7 fp s.heap) σ H s:=
 I.ve fun p hp=>(mem_append.mp hp).elim (fun z=>I.pin p (mem_append_right _ z)) fun z=>by
  obtain⟨hb,e⟩:=vP z
  obtain⟨f0,f1,f2,_⟩:=hf p.1 hb
  obtain⟨o,e',d⟩:=ho p.1 hb
  rw[e]at e';cases e'
  exact⟨e,f0,f1,f2,d⟩
theorem Inv.gq{pins pl:List (Addr×Obj)}{σ:St}{H:Hp}{s:Shared}(I:Inv X (pins++pl) σ H s):Inv X pins σ H s:=I.ve fun p hp=>I.pin p (mem_append_right _ (mem_append_left _ hp))
theorem C4{iter:Expr}{body:List Stmt}{wi:TI}{g:TG}{tb:TS}{pos:Pos}(hp:PassesOwn (model X.prog X.w) X.A X.env X.xe)(hc:X.calm=true)(hi:PI X tg iter wi)(hg:PG X tg g)(hb:tE X body tb)
  (hs:∀x,foldedSetIterable iter X.env x=pure x:=by intro _;rfl):PS X (.For tg iter body [] pos) (Ek wi g tb):=by
 intro pins s σ H D I h
 refine wpAny_For (dq (hi pins s σ H _ I h) fun v s1 h1=>dq h1 fun itv s2 h2=>?_) hs
 obtain⟨it,fp,tn,J,H2,e,I2,T,st2,f2,W,⟨m0,w0⟩,turn⟩:=h2
 subst e
 have stat:∀{H':Hp},(∀b∈fp,H' b=none)→∀b∈fp,iu X pins H' b:=fun hn b hb=>⟨hn b hb,(f2 b hb).2⟩
 refine codeAny_forLoop_any (fun n s'=>∃i σ' H',Inv X pins σ' H' s'∧tn i s'.heap∧(∀b∈fp,H' b=none)∧W i n σ' H') ?_ m0 ⟨0,σ,H2,I2,st2,fun b hb=>(f2 b hb).1,w0⟩
 rintro n s3 ⟨i,σ3,H3,I3,st3,fr3,w3⟩
 rcases turn i n σ3 H3 w3 with ⟨stop,qn⟩|⟨go,N,hN,step⟩
 ·refine wpAny_passesOwn hp (dq (T.done X rfl rfl rfl hc i pins s3 σ3 H3 X.xe I3 (stat fr3) st3 stop) fun r s4 ⟨hr,I4⟩=>?_)
  subst hr
  exact wpAny_execs_nil ⟨σ3,H3,I4,qn⟩
 ·refine wpAny_passesOwn hp (dq (T.item X rfl rfl rfl hc i pins s3 σ3 H3 X.xe I3 (stat fr3) st3 go) fun r s4 ⟨u,hr,h4⟩=>?_)
  subst hr
  refine wpAny_passesOwn hp (dq h4 fun _ s5 hpat=>?_)
  obtain⟨x,H5,I5,r5,y5,st5,fr5⟩:=hpat
  have I5':=I5.pinned (stat fr5) (T.obj _ _ st5)
  refine wpAny_passesOwn hp (dq (hg _ s5 σ3 H5 x u _ I5' r5 (step x H5 y5)) fun _ s6 hpat=>?_)
  obtain⟨σ6,H6,I6,q6⟩:=hpat
  refine wpAny_passesOwn hp (dq (hb _ s6 σ6 H6 _ I6 q6) fun f s7 q7=>?_)
  have again:∀{σ7:St}{H7:Hp},Inv X (pins++p7 fp s5.heap) σ7 H7 s7→N σ7 H7→∃m,m < n∧∃i σ' H',Inv X pins σ' H' s7∧tn i s7.heap∧(∀b∈fp,H' b=none)∧W i m σ' H':=fun {σ7 H7} I7 n7=>by
   obtain⟨m',hm,w7⟩:=hN σ7 H7 n7
   refine⟨m',hm,i+1,σ7,H7,I7.gq,T.keep _ _ _ st5 fun b hb o e=>(I7.pin (b,o) (mem_append_right _ (mem_append_right _ (d4 hb e)))).1,fun b hb=>?_,w7⟩
   obtain⟨o,e,d⟩:=T.obj _ _ st5 b hb
   exact(I7.pin (b,o) (mem_append_right _ (mem_append_right _ (d4 hb e)))).2.1
  cases f with
  |next=>obtain⟨σ7,H7,I7,n7⟩:=q7;exact again I7 n7
  |cont=>obtain⟨σ7,H7,I7,n7⟩:=q7;exact again I7 n7
  |brk=>obtain⟨σ7,H7,I7,q7⟩:=q7;exact⟨σ7,H7,I7.gq,q7⟩
  |ret v=>obtain⟨x7,σ7,H7,I7,r7,q7⟩:=q7;exact⟨x7,σ7,H7,I7.gq,r7,q7⟩
end
theorem el{K:PySem.W.Frag}{a:Addr}{xs:List V}{g:TG}{tb:TS}{D:Ends}{σ:St}{H:Hp}(Pv:Nat→St→Hp→Prop)(h0:Pv 0 σ H)(hl:∀i σ H,i≤xs.length→Pv i σ H→cL K H a xs)
  (hs:∀i x σ H,xs[i]? =some x→Pv i σ H→g x σ H fun σ2 H2=>tb { D with nx:=Pv (i+1),ct:=Pv (i+1),bk:=D.nx } σ2 H2)(hd:∀σ H,Pv xs.length σ H→D.nx σ H):
  ∃W:Nat→Nat→St→Hp→Prop,(∃m,W 0 m σ H)∧∀i m σ H,W i m σ H→
   ((BA K a).stop i H∧D.nx σ H)∨((BA K a).go i H∧∃N:St→Hp→Prop,(∀σ' H',N σ' H'→∃m',m' < m∧W (i+1) m' σ' H')∧∀x H',(BA K a).yld i H x H'→g x σ H' fun σ2 H2=>tb { D with nx:=N,ct:=N,bk:=D.nx } σ2 H2):=by
 refine⟨fun i m σ H=>m=xs.length - i∧i≤xs.length∧Pv i σ H,⟨xs.length,by simp,zero_le _,h0⟩,?_⟩
 rintro i m σ H ⟨rfl,hi,p⟩
 have q:=hl i σ H hi p
 by_cases hlt:i < xs.length
 ·refine .inr ⟨⟨xs,xs[i],q,by simp[hlt]⟩,Pv (i+1),fun σ' H' p'=>⟨xs.length - (i+1),by omega,rfl,hlt,p'⟩,fun x H' y=>?_⟩
  obtain⟨e,y⟩:=y
  subst e
  exact hs i x σ _ (y xs q) p
 ·have e:i=xs.length:=by omega
  subst e
  exact .inl ⟨⟨xs,q,le_refl _⟩,hd σ H p⟩
theorem wQ{lo:Int}{n:Nat}{g:TG}{tb:TS}{D:Ends}{σ:St}{H:Hp}(Pv:Nat→St→Hp→Prop)(h0:Pv 0 σ H)
  (hs:∀i σ H,i < n→Pv i σ H→g (.int (lo+i)) σ H fun σ2 H2=>tb { D with nx:=Pv (i+1),ct:=Pv (i+1),bk:=D.nx } σ2 H2)(hd:∀σ H,Pv n σ H→D.nx σ H):
  ∃W:Nat→Nat→St→Hp→Prop,(∃m,W 0 m σ H)∧∀i m σ H,W i m σ H→
   ((AE lo n).stop i H∧D.nx σ H)∨((AE lo n).go i H∧∃N:St→Hp→Prop,(∀σ' H',N σ' H'→∃m',m' < m∧W (i+1) m' σ' H')∧∀x H',(AE lo n).yld i H x H'→g x σ H' fun σ2 H2=>tb { D with nx:=N,ct:=N,bk:=D.nx } σ2 H2):=by
 refine⟨fun i m σ H=>m=n - i∧i≤n∧Pv i σ H,⟨n,by simp,zero_le _,h0⟩,?_⟩
 rintro i m σ H ⟨rfl,hi,p⟩
 by_cases hlt:i < n
 ·refine .inr ⟨hlt,Pv (i+1),fun σ' H' p'=>⟨n - (i+1),by omega,rfl,hlt,p'⟩,fun x H' y=>?_⟩
  obtain⟨e,y⟩:=y
  subst e y
  exact hs i σ _ hlt p
 ·have e:i=n:=by omega
  subst e
  exact .inl ⟨le_refl _,hd σ H p⟩
end L2
namespace L2
open PySem PySem.Spec PyProof.Rows
abbrev R2:=V→V→Hp→VK→Prop
def gX(X:Cx)(f:Value→Value→Sem Value)(r:R2):Prop:=
 ∀(pins:List (Addr×Obj)) (s:Shared) (σ:St) (H:Hp) (x y:V) (v u:Value) (Q:VK),Inv X pins σ H s→RelV x v→RelV y u→r x y H Q→
  wpAny (model X.prog X.w) X.A (f v u) (EP X pins σ Q) X.xe s
def Ge(X:Cx)(f:Value→Sem Value)(r:V→Hp→VK→Prop):Prop:=
 ∀(pins:List (Addr×Obj)) (s:Shared) (σ:St) (H:Hp) (x:V) (v:Value) (Q:VK),Inv X pins σ H s→RelV x v→r x H Q→
  wpAny (model X.prog X.w) X.A (f v) (EP X pins σ Q) X.xe s
def d9(X:Cx)(f:Value)(r:List V→Hp→VK→Prop):Prop:=
 ∀(pins:List (Addr×Obj)) (s:Shared) (σ:St) (H:Hp) (xs:List V) (us:List Value) (Q:VK),Inv X pins σ H s→Vals xs us→r xs H Q→
  wpAny (model X.prog X.w) X.A (call f us) (EP X pins σ Q) X.xe s
def IY(X:Cx)(r:V→Hp→(Bool→Hp→Prop)→Prop):Prop:=
 ∀(pins:List (Addr×Obj)) (s:Shared) (σ:St) (H:Hp) (x:V) (v:Value) (Q:Bool→Hp→Prop),Inv X pins σ H s→RelV x v→r x H Q→
  wpAny (model X.prog X.w) X.A (truthy v) (TP X pins σ Q) X.xe s
def uZ(r:R2)(ta tb:TE):TE:=fun σ H Q=>ta σ H fun x H1=>tb σ H1 fun y H2=>r x y H2 Q
def HY(r:V→Hp→VK→Prop)(ta:TE):TE:=fun σ H Q=>ta σ H fun x H1=>r x H1 Q
inductive GX(C:Int→Int→Prop)(g:Int→Int→V)(x y:V)(H:Hp)(Q:VK):Prop
 |mk(i j:Int)(hx:x=.int i)(hy:y=.int j)(c:C i j)(q:Q (g i j) H)
inductive Fb(g:Int→Int→V)(x y:V)(H:Hp)(Q:VK):Prop
 |mk(i j:Int)(hx:x=.int i)(hy:y=.int j)(q:Q (g i j) H)
def rI(C:Int→Int→Prop)(g:Int→Int→V):R2:=fun x y H Q=>GX C g x y H Q
def tI(g:Int→Int→V):R2:=fun x y H Q=>Fb g x y H Q
def rU(g:Int→V):V→Hp→VK→Prop:=fun x H Q=>∃i,x=.int i∧Q (g i) H
section
variable {X:Cx}{a b c:Expr}{ta tb tc:TE}{pos:Pos}
theorem Cg(ha:PE X a ta)(hb:PE X b tb){pins:List (Addr×Obj)}{s:Shared}{σ:St}{H:Hp}{R:V→V→Hp→Prop}(I:Inv X pins σ H s)
  (h:ta σ H fun x H1=>tb σ H1 fun y H2=>R x y H2){Q:Value→Shared→Prop}{f:Value→Value→Sem Value}
  (hf:∀v u s2 x y H2,Inv X pins σ H2 s2→RelV x v→RelV y u→R x y H2→wpAny (model X.prog X.w) X.A (f v u) Q X.xe s2):
  wpAny (model X.prog X.w) X.A (eval a X.env) (fun v s₁=>wpAny (model X.prog X.w) X.A (eval b X.env) (fun u s₂=>wpAny (model X.prog X.w) X.A (f v u) Q X.xe s₂) X.xe s₁) X.xe s:=by
 refine dq (ha pins s σ H _ I h) fun v s1 hpat=>?_
 obtain⟨x,H1,I1,r1,q1⟩:=hpat
 refine dq (hb pins s1 σ H1 _ I1 q1) fun u s2 hpat=>?_
 obtain⟨y,H2,I2,r2,q2⟩:=hpat
 exact hf v u s2 x y H2 I2 r1 r2 q2
theorem BK{op:Operator}{r:R2}(ho:gX X (binaryOp op) r)(ha:PE X a ta)(hb:PE X b tb):PE X (.BinOp a op b pos) (uZ r ta tb):=by
 intro pins s σ H Q I h
 exact wpAny_BinOp (Cg ha hb I h fun v u s2 x y H2 I2 rx ry q=>ho pins s2 σ H2 x y v u Q I2 rx ry q)
theorem yO{op:UnaryOp}{r:V→Hp→VK→Prop}(ho:Ge X (unaryOp op) r)(ha:PE X a ta):PE X (.UnaryOp op a pos) (HY r ta):=by
 intro pins s σ H Q I h
 exact UnaryOp_ (dq (ha pins s σ H _ I h) fun v s1 ⟨x,H1,I1,r1,q1⟩=>ho pins s1 σ H1 x v Q I1 r1 q1)
theorem Gb{f:Value→Value→Sem Value}{C:Int→Int→Prop}{g:Int→Int→Int}
  (rule:∀(i j:Int)(t u:Tok)(s:Shared)(Q:Value→Shared→Prop)(E:Value→Shared→Prop),C i j→Q (.int (g i j) s.toks) { s with toks:=s.toks+1 }→wpAny (model X.prog X.w) X.A (f (.int i t) (.int j u)) Q E s):
  gX X f (rI C fun i j=>.int (g i j)):=by
 intro pins s σ H x y v u Q I rx ry h
 obtain⟨i,j,rfl,rfl,hc,q⟩:=h
 obtain⟨t,rfl⟩:=rx
 obtain⟨t',rfl⟩:=ry
 exact rule i j t t' s _ _ hc ⟨.int (g i j),H,I.tok _,⟨_,rfl⟩,q⟩
theorem Fp{f:Value→Value→Sem Value}{g:Int→Int→Int}
  (rule:∀(i j:Int)(t u:Tok)(s:Shared)(Q:Value→Shared→Prop)(E:Value→Shared→Prop),Q (.int (g i j) s.toks) { s with toks:=s.toks+1 }→wpAny (model X.prog X.w) X.A (f (.int i t) (.int j u)) Q E s):
  gX X f (tI fun i j=>.int (g i j)):=by
 intro pins s σ H x y v u Q I rx ry h
 obtain⟨i,j,rfl,rfl,q⟩:=h
 obtain⟨t,rfl⟩:=rx
 obtain⟨t',rfl⟩:=ry
 exact rule i j t t' s _ _ ⟨.int (g i j),H,I.tok _,⟨_,rfl⟩,q⟩
theorem Dl{f:Value→Value→Sem Value}{g:Int→Int→Bool}
  (rule:∀(i j:Int)(t u:Tok)(s:Shared)(Q:Value→Shared→Prop)(E:Value→Shared→Prop),Q (.bool (g i j)) s→wpAny (model X.prog X.w) X.A (f (.int i t) (.int j u)) Q E s):
  gX X f (tI fun i j=>.bl (g i j)):=by
 intro pins s σ H x y v u Q I rx ry h
 obtain⟨i,j,rfl,rfl,q⟩:=h
 obtain⟨t,rfl⟩:=rx
 obtain⟨t',rfl⟩:=ry
 exact rule i j t t' s _ _ ⟨.bl (g i j),H,I,rfl,q⟩
def Ew(i j:Int):Prop:=0 < j∧j < 1073741824
def HR(i j:Int):Prop:=j≠0∧j.natAbs < 1073741824
def Fd(i j:Int):Prop:=0≤j∧j≤1000000∧i.natAbs < 2 ^ 64
def A0(i j:Int):Prop:=(-(2 ^ 64) < i∧i < 2 ^ 64)∨(-(2 ^ 64) < j∧j < 2 ^ 64)
theorem A0.ok{i j:Int}(h:A0 i j):IntMulOk i j:=by
 rcases h with ⟨h1,h2⟩|⟨h1,h2⟩
 ·exact .of_left (intBits_le_64 h1 h2)
 ·exact .of_right (intBits_le_64 h1 h2)
theorem Dk:gX X (binaryOp .Add) (tI fun i j=>.int (i+j)):=Fp fun _ _ _ _ _ _ _ q=>add_int q
theorem k6:gX X (binaryOp .Sub) (tI fun i j=>.int (i - j)):=Fp fun _ _ _ _ _ _ _ q=>sub_int q
theorem BS:gX X (binaryOp .Mult) (rI A0 fun i j=>.int (i * j)):=Gb fun _ _ _ _ _ _ _ hc q=>mul_int q hc.ok
theorem Aa:gX X (binaryOp .FloorDiv) (rI Ew fun i j=>.int (i / j)):=Gb fun i j _ _ _ _ _ hc q=>by
 have h1:(0:Int) < j:=hc.1
 have h2:j < 1073741824:=hc.2
 exact floordiv_int (by omega) (by rw[Int.fdiv_eq_ediv_of_nonneg i (by omega)];exact q) (.inl (PyProof.noPylong_small (by omega)))
theorem Cc:gX X (binaryOp .Mod) (rI (fun _ j=>0 < j) fun i j=>.int (i % j)):=Gb fun i j _ _ _ _ _ hc q=>by
 have h1:(0:Int) < j:=hc
 exact mod_int' (by omega) (by rw[Int.fmod_eq_emod_of_nonneg i (by omega)];exact q)
theorem yB:gX X (binaryOp .Pow) (rI Fd fun i j=>.int (i ^ j.toNat)):=Gb fun _ _ _ _ _ _ _ hc q=>pow_int_small hc.1 hc.2.1 hc.2.2 q
theorem JH{f:Value→Sem Value}{g:Int→Int}
  (rule:∀(i:Int)(t:Tok)(s:Shared)(Q:Value→Shared→Prop)(E:Value→Shared→Prop),Q (.int (g i) s.toks) { s with toks:=s.toks+1 }→wpAny (model X.prog X.w) X.A (f (.int i t)) Q E s):
  Ge X f (rU fun i=>.int (g i)):=by
 intro pins s σ H x v Q I rx h
 obtain⟨i,rfl,q⟩:=h
 obtain⟨t,rfl⟩:=rx
 exact rule i t s _ _ ⟨.int (g i),H,I.tok _,⟨_,rfl⟩,q⟩
theorem uA:Ge X (unaryOp .USub) (rU fun i=>.int (-i)):=JH fun _ _ _ _ _ q=>neg_int q
end
def EW:V→V→Bool
 |.non,.non=>true|.non,.int _=>true|.int _,.non=>true|.non,.bl _=>true|.bl _,.non=>true|.non,.str _=>true|.str _,.non=>true
 |.int _,.int _=>true|.bl _,.bl _=>true|.str _,.str _=>true|.byt _,.byt _=>true
 |.int _,.str _=>true|.str _,.int _=>true|.bl _,.str _=>true|.str _,.bl _=>true
 |_,_=>false
def Iv:R2:=fun x y H Q=>EW x y=true∧Q (.bl (decide (x=y))) H
def HS:R2:=fun x y H Q=>EW x y=true∧Q (.bl (!decide (x=y))) H
theorem vK{i j:Int}:decide (V.int i=V.int j)=(i == j):=by
 rw[Bool.eq_iff_iff]
 simp
theorem zb{i j:Bool}:decide (V.bl i=V.bl j)=(i == j):=by
 rw[Bool.eq_iff_iff]
 simp
theorem uO{i j:Str}:decide (V.str i=V.str j)=(i == j):=by
 rw[Bool.eq_iff_iff]
 simp
theorem u0{i j:Array UInt8}:decide (V.byt i=V.byt j)=(i.toList == j.toList):=by
 rw[Bool.eq_iff_iff]
 cases i
 cases j
 simp
section
variable {X:Cx}{a b c:Expr}{ta tb tc:TE}{pos:Pos}
theorem cU{pins:List (Addr×Obj)}{σ:St}{H:Hp}{s:Shared}{Q:VK}{k k':Bool}(I:Inv X pins σ H s)(q:Q (.bl k) H)(e:k=k'):EP X pins σ Q (.bool k') s:=by
 subst e
 exact⟨.bl k,H,I,rfl,q⟩
theorem Fo:gX X (compareOp .Eq) Iv:=by
 intro pins s σ H x y v u Q I rx ry h
 obtain⟨hs,q⟩:=h
 cases x with
 |non=>
  cases rx
  cases y with
  |non=>cases ry;exact PySem.EqNone.eq_none_none (cU I q (by simp))
  |bl j=>cases ry;exact PySem.EqNone.eq_none_bool (cU I q (by simp))
  |int j=>obtain⟨t',rfl⟩:=ry;exact PySem.EqNone.eq_none_int (cU I q (by simp))
  |str j=>obtain⟨t',rfl⟩:=ry;exact PySem.EqNone.eq_none_str (cU I q (by simp))
  |_=>exact absurd (show false=true from hs) Bool.false_ne_true
 |bl i=>
  cases rx
  cases y with
  |non=>cases ry;exact PySem.EqNone.eq_bool_none (cU I q (by simp))
  |bl j=>cases ry;exact eq_bool (cU I q zb)
  |str j=>obtain⟨t',rfl⟩:=ry;exact PySem.EqMixed.eq_bool_str (cU I q (by simp))
  |_=>exact absurd (show false=true from hs) Bool.false_ne_true
 |int i=>
  obtain⟨t,rfl⟩:=rx
  cases y with
  |non=>cases ry;exact PySem.EqNone.eq_int_none (cU I q (by simp))
  |int j=>obtain⟨t',rfl⟩:=ry;exact eq_int (cU I q vK)
  |str j=>obtain⟨t',rfl⟩:=ry;exact PySem.EqMixed.eq_int_str (cU I q (by simp))
  |_=>exact absurd (show false=true from hs) Bool.false_ne_true
 |str i=>
  obtain⟨t,rfl⟩:=rx
  cases y with
  |non=>cases ry;exact PySem.EqNone.eq_str_none (cU I q (by simp))
  |bl j=>cases ry;exact PySem.EqMixed.eq_str_bool (cU I q (by simp))
  |int j=>obtain⟨t',rfl⟩:=ry;exact PySem.EqMixed.eq_str_int (cU I q (by simp))
  |str j=>obtain⟨t',rfl⟩:=ry;exact eq_str (cU I q uO)
  |_=>exact absurd (show false=true from hs) Bool.false_ne_true
 |byt i=>
  obtain⟨t,rfl⟩:=rx
  cases y with
  |byt j=>obtain⟨t',rfl⟩:=ry;exact PySem.W.eq_bytes (cU I q u0)
  |_=>exact absurd (show false=true from hs) Bool.false_ne_true
 |_=>cases y<;>exact absurd (show false=true from hs) Bool.false_ne_true
theorem Eg:gX X (compareOp .NotEq) HS:=by
 intro pins s σ H x y v u Q I rx ry h
 obtain⟨hs,q⟩:=h
 cases x with
 |non=>
  cases rx
  cases y with
  |non=>cases ry;exact PySem.EqNone.ne_none_none (cU I q (by simp))
  |bl j=>cases ry;exact PySem.EqNone.ne_none_bool (cU I q (by simp))
  |int j=>obtain⟨t',rfl⟩:=ry;exact PySem.EqNone.ne_none_int (cU I q (by simp))
  |str j=>obtain⟨t',rfl⟩:=ry;exact PySem.EqNone.ne_none_str (cU I q (by simp))
  |_=>exact absurd (show false=true from hs) Bool.false_ne_true
 |bl i=>
  cases rx
  cases y with
  |non=>cases ry;exact PySem.EqNone.ne_bool_none (cU I q (by simp))
  |bl j=>cases ry;exact ne_bool (cU I q (congrArg not zb))
  |str j=>obtain⟨t',rfl⟩:=ry;exact PySem.EqMixed.ne_bool_str (cU I q (by simp))
  |_=>exact absurd (show false=true from hs) Bool.false_ne_true
 |int i=>
  obtain⟨t,rfl⟩:=rx
  cases y with
  |non=>cases ry;exact PySem.EqNone.ne_int_none (cU I q (by simp))
  |int j=>obtain⟨t',rfl⟩:=ry;exact ne_int (cU I q (congrArg not vK))
  |str j=>obtain⟨t',rfl⟩:=ry;exact PySem.EqMixed.ne_int_str (cU I q (by simp))
  |_=>exact absurd (show false=true from hs) Bool.false_ne_true
 |str i=>
  obtain⟨t,rfl⟩:=rx
  cases y with
  |non=>cases ry;exact PySem.EqNone.ne_str_none (cU I q (by simp))
  |bl j=>cases ry;exact PySem.EqMixed.ne_str_bool (cU I q (by simp))
  |int j=>obtain⟨t',rfl⟩:=ry;exact PySem.EqMixed.ne_str_int (cU I q (by simp))
  |str j=>obtain⟨t',rfl⟩:=ry;exact ne_str (cU I q (congrArg not uO))
  |_=>exact absurd (show false=true from hs) Bool.false_ne_true
 |byt i=>
  obtain⟨t,rfl⟩:=rx
  cases y with
  |byt j=>obtain⟨t',rfl⟩:=ry;exact PySem.W.ne_bytes (cU I q (congrArg not u0))
  |_=>exact absurd (show false=true from hs) Bool.false_ne_true
 |_=>cases y<;>exact absurd (show false=true from hs) Bool.false_ne_true
theorem FA:gX X (compareOp .Lt) (tI fun i j=>.bl (decide (i < j))):=Dl fun _ _ _ _ _ _ _ q=>lt_int q
theorem qI:gX X (compareOp .LtE) (tI fun i j=>.bl (decide (i≤j))):=Dl fun _ _ _ _ _ _ _ q=>le_int q
theorem En:gX X (compareOp .Gt) (tI fun i j=>.bl (decide (j < i))):=Dl fun _ _ _ _ _ _ _ q=>gt_int q
theorem kL:gX X (compareOp .Lt) (fun x y H Q=>∃i j,x=.str i∧y=.str j∧Q (.bl (decide (i.cps.toList < j.cps.toList))) H):=by
 intro pins s σ H x y v u Q I rx ry h
 obtain⟨i,j,rfl,rfl,q⟩:=h
 obtain⟨t,rfl⟩:=rx
 obtain⟨t',rfl⟩:=ry
 exact lt_str (cU I q rfl)
theorem pV:gX X (compareOp .Is) (fun x y H Q=>y=.non∧Q (.bl (decide (x=.non))) H):=by
 intro pins s σ H x y v u Q I rx ry h
 obtain⟨rfl,q⟩:=h
 cases ry
 refine is_none_gen (cU I q ?_)
 cases x<;>first
  | (cases rx;rfl)
  | (obtain⟨t,rfl⟩:=rx;rfl)
theorem lV:gX X (compareOp .IsNot) (fun x y H Q=>y=.non∧Q (.bl (!decide (x=.non))) H):=by
 intro pins s σ H x y v u Q I rx ry h
 obtain⟨rfl,q⟩:=h
 cases ry
 refine isnot_none_gen (cU I q ?_)
 cases x<;>first
  | (cases rx;rfl)
  | (obtain⟨t,rfl⟩:=rx;rfl)
def isObj:HO→Bool
 |.lst _=>true
 |.ins _ _ _=>true
 |_=>false
theorem cK(b:Expr){op:CmpOp}(h:op≠.In:=by decide)(h2:op≠.NotIn:=by decide):behindInMarks op b=false:=by
 have e1:(op == CmpOp.In)=false:=by cases op<;>first|rfl|exact absurd rfl h
 have e2:(op == CmpOp.NotIn)=false:=by cases op<;>first|rfl|exact absurd rfl h2
 cases b<;>simp[behindInMarks,e1,e2]
theorem uS{op:CmpOp}{r:R2}(ho:gX X (compareOp op) r)(ha:PE X a ta)(hb:PE X b tb)(hm:behindInMarks op b=false):PE X (.Compare a [op] [b] pos) (uZ r ta tb):=by
 intro pins s σ H Q I h
 exact wpAny_Compare1 (Cg ha hb I h fun v u s2 x y H2 I2 rx ry q=>ho pins s2 σ H2 x y v u Q I2 rx ry q) hm
def oG(t:TE):TT:=fun σ H Q=>t σ H fun x H'=>FL x H' Q
theorem Ag{op:CmpOp}{r:R2}(ho:gX X (compareOp op) r)(ha:PE X a ta)(hb:PE X b tb)(hm:behindInMarks op b=false):PT X (.Compare a [op] [b] pos) (oG (uZ r ta tb)):=by
 intro pins s σ H Q I h
 refine wpAny_isTrue_Compare1 (dq (ha pins s σ H _ I h) fun v s1 ⟨x,H1,I1,r1,q1⟩=>dq (hb pins s1 σ H1 _ I1 q1) fun u s2 ⟨y,H2,I2,r2,q2⟩=>
  dq (ho pins s2 σ H2 x y v u _ I2 r1 r2 q2) fun c s3 ⟨z,H3,I3,r3,k,e,q3⟩=>?_) hm
 subst e
 cases r3
 exact wpAny_truthy_bool ⟨H3,I3,q3⟩
def qp(r r':R2)(ta tb tc:TE):TE:=fun σ H Q=>ta σ H fun x H1=>tb σ H1 fun y H2=>r x y H2 fun z H3=>∃k,z=.bl k∧
 (if k=true then tc σ H3 fun w' H4=>r' y w' H4 Q else Q (.bl false) H3)
theorem fg{op op':CmpOp}{r r':R2}(ho:gX X (compareOp op) r)(ho':gX X (compareOp op') r')(ha:PE X a ta)(hb:PE X b tb)(hc:PE X c tc)
  (hm:lastMarks [op,op'] [b,c]=false:=by with_unfolding_all rfl):PE X (.Compare a [op,op'] [b,c] pos) (qp r r' ta tb tc):=by
 intro pins s σ H Q I h
 refine Compare_chain (dq (ha pins s σ H _ I h) fun v s1 ⟨x,H1,I1,r1,q1⟩=>chain_link (dq (hb pins s1 σ H1 _ I1 q1) fun u s2 ⟨y,H2,I2,r2,q2⟩=>
  dq (ho pins s2 σ H2 x y v u _ I2 r1 r2 q2) fun d s3 ⟨z,H3,I3,r3,k,e,q3⟩=>?_)) hm
 subst e
 cases r3
 refine wpAny_truthy_bool ?_
 cases k with
 |false=>exact ite_ff ⟨.bl false,H3,I3,rfl,q3⟩
 |true=>exact ite_tt (chain_last (dq (hc pins s3 σ H3 _ I3 q3) fun w' s4 ⟨z',H4,I4,r4,q4⟩=>ho' pins s4 σ H4 y z' u w' Q I4 r2 r4 q4))
theorem iq{op op':CmpOp}{r r':R2}(ho:gX X (compareOp op) r)(ho':gX X (compareOp op') r')(ha:PE X a ta)(hb:PE X b tb)(hc:PE X c tc)
  (hm:lastMarks [op,op'] [b,c]=false:=by with_unfolding_all rfl):PT X (.Compare a [op,op'] [b,c] pos) (oG (qp r r' ta tb tc)):=by
 intro pins s σ H Q I h
 refine isTrue_chain (dq (ha pins s σ H _ I h) fun v s1 ⟨x,H1,I1,r1,q1⟩=>test_link (dq (hb pins s1 σ H1 _ I1 q1) fun u s2 ⟨y,H2,I2,r2,q2⟩=>
  dq (ho pins s2 σ H2 x y v u _ I2 r1 r2 q2) fun d s3 ⟨z,H3,I3,r3,k,e,q3⟩=>?_)) hm
 subst e
 cases r3
 refine wpAny_truthy_bool ?_
 cases k with
 |false=>
  obtain⟨k',e',q'⟩:=q3
  cases e'
  exact ite_ff ⟨H3,I3,q'⟩
 |true=>
  refine ite_tt (test_last (dq (hc pins s3 σ H3 _ I3 q3) fun w' s4 ⟨z',H4,I4,r4,q4⟩=>dq (ho' pins s4 σ H4 y z' u w' _ I4 r2 r4 q4) fun d' s5 hpat=>?_))
  obtain⟨z2,H5,I5,r5,k2,e2,q5⟩:=hpat
  subst e2
  cases r5
  exact wpAny_truthy_bool ⟨H5,I5,q5⟩
def Ja(K:PySem.W.Frag)(x:V)(H:Hp)(k:Bool):Prop:=
 match x with
 |.non=>k=false
 |.bl b=>k=b
 |.int i=>k=(i != 0)
 |.str y=>y.length≤sizeLine∧k=((y.length:Int) != 0)
 |.byt y=>y.size≤sizeLine∧k=((y.size:Int) != 0)
 |.ref p=>(∃xs,cL K H p xs∧k= !xs.isEmpty)∨(∃xs,c8 K H p xs∧k= !xs.isEmpty)∨∃kvs,H p=some (.dK kvs)∧k= !kvs.isEmpty
 |_=>False
theorem nB:(sizeLine:Nat) < 2 ^ 63:=by rw[sizeLine_eq];decide
theorem fj:gX X (binaryOp .Add) (fun x y H Q=>∃i j,x=.str i∧y=.str j∧i.length+j.length≤sizeLine∧Q (.str (i++j)) H):=by
 intro pins s σ H x y v u Q I rx ry h
 obtain⟨i,j,rfl,rfl,hz,q⟩:=h
 obtain⟨t,rfl⟩:=rx
 obtain⟨t',rfl⟩:=ry
 exact add_str (fun t' tk=>⟨.str (i++j),H,I.tok _,⟨_,rfl⟩,q⟩) hz
def Ec(b:Expr):Prop:=∀o i,subscripted b false o i=operate [o,i] (getItem o i)
theorem vals1{x:V}{us:List Value}(r:Vals [x] us):∃u,us=[u]∧RelV x u:=by
 cases r with
 |cons r1 r2=>cases r2;exact⟨_,rfl,r1⟩
theorem vals2{x y:V}{us:List Value}(r:Vals [x,y] us):∃u w',us=[u,w']∧RelV x u∧RelV y w':=by
 cases r with
 |cons r1 r2=>
  cases r2 with
  |cons r3 r4=>cases r4;exact⟨_,_,rfl,r1,r3⟩
theorem iS(hc:X.calm=true):d9 X (.builtin "max") (fun xs H Q=>∃i j,xs=[.int i,.int j]∧Q (.int (if j > i then j else i)) H):=by
 intro pins s σ H xs us Q I r h
 obtain⟨i,j,rfl,q⟩:=h
 obtain⟨u,w',rfl,⟨t,rfl⟩,⟨t',rfl⟩⟩:=vals2 r
 refine max_two_ints (I.ok.hd hc) fun h' tk k=>⟨_,H,I.kept k,?_,q⟩
 by_cases hj:j > i
 ·rw[if_pos hj,if_pos hj];exact⟨_,rfl⟩
 ·rw[if_neg hj,if_neg hj];exact⟨_,rfl⟩
theorem kq(hc:X.calm=true):d9 X (.builtin "min") (fun xs H Q=>∃i j,xs=[.int i,.int j]∧Q (.int (if j < i then j else i)) H):=by
 intro pins s σ H xs us Q I r h
 obtain⟨i,j,rfl,q⟩:=h
 obtain⟨u,w',rfl,⟨t,rfl⟩,⟨t',rfl⟩⟩:=vals2 r
 refine min_two_ints (I.ok.hd hc) fun h' tk k=>⟨_,H,I.kept k,?_,q⟩
 by_cases hj:j < i
 ·rw[if_pos hj,if_pos hj];exact⟨_,rfl⟩
 ·rw[if_neg hj,if_neg hj];exact⟨_,rfl⟩
theorem ku:d9 X (.type "int") (fun xs H Q=>(∃i,xs=[.int i]∧Q (.int i) H)∨∃k,xs=[.bl k]∧Q (.int (if k then 1 else 0)) H):=by
 intro pins s σ H xs us Q I r h
 rcases h with ⟨i,rfl,q⟩|⟨k,rfl,q⟩
 ·obtain⟨u,rfl,t,rfl⟩:=vals1 r
  exact call_int_int ⟨.int i,H,I,⟨_,rfl⟩,q⟩
 ·obtain⟨u,rfl,r1⟩:=vals1 r
  cases r1
  exact call_int_bool ⟨.int (if k then 1 else 0),H,I.tok _,⟨_,rfl⟩,q⟩
def Kk(K:PySem.W.Frag)(x:V)(H:Hp)(n:Nat):Prop:=
 match x with
 |.str y=>y.length≤sizeLine∧n=y.length
 |.byt y=>y.size≤sizeLine∧n=y.size
 |.ref p=>(∃xs,cL K H p xs∧n=xs.length)∨∃xs,c8 K H p xs∧n=xs.length
 |_=>False
end
end L2
namespace L2
open PySem PySem.Spec PyProof.Rows
structure uD(h:Heap)(x dx C:Addr)(mA:Str→Option Value):Prop where
 obj:h.get? x=some (instObj C dx)
 ns:h.Ns1 dx mA
 ne:dx≠x
theorem vX{h:Heap}{dx:Addr}{mA:Str→Option Value}(n:h.Ns1 dx mA):∃od,h.get? dx=some od∧∀name,lookIn name od=some (mA name):=by
 obtain⟨o,es,ep,ho,hd,hk,_,hm⟩:=n
 refine⟨o,ho,fun name=>?_⟩
 have e:=hm name
 unfold nsFind findBy at e
 rw[←Array.find?_toList]at e
 unfold lookIn
 rw[hd]
 dsimp only
 split
 ·rename_i y q
  rw[q]at e
  exact congrArg some e
 ·rename_i q
  rw[q]at e
  have a:es.toList.any (·.refKey)=false:=by
   rw[any_eq_false]
   intro y hy
   obtain⟨z,t,hkey⟩:=hk y (Array.mem_toList_iff.mp hy)
   simp[DictEntry.refKey,hkey]
  have a':¬es.toList.any (·.refKey)=true:=by rw[a];exact Bool.false_ne_true
  rw[if_neg a']
  exact congrArg some e
theorem uD.look{h:Heap}{x dx C:Addr}{mA:Str→Option Value}(I:uD h x dx C mA):∃od,PySem.W.InstAt h x (instObj C dx) C (some od)∧∀name,lookIn name od=some (mA name):=
 let ⟨od,ho,hl⟩:=vX I.ns
 ⟨od,⟨I.obj,rfl,rfl,ho⟩,hl⟩
section
variable {prog:Program}{w:World}{A:Around}{E:Value→Shared→Prop}{s:Shared}{K:PySem.W.Frag}{x dx C f:Addr}{mA:Str→Option Value}{name:Str}{v:Value}
theorem get_map{expr:Bool}{Q:Value→Shared→Prop}(X:K.In s.heap)(I:uD s.heap x dx C mA)(hg:plainGet K C name=true)(hh:hasDictIn K C=true)
  (ha:findIn K (.ref C) name=some none)(hv:mA name=some v)(hv':handedIn v=true)(h:Q v { s with toks:=s.toks+1 }):
  wpAny (model prog w) A (getAttr (.ref x) name expr) Q E s:=by
 obtain⟨od,J,hl⟩:=I.look
 exact PySem.W.get_value X J (plainGet_of hg).1 (PySem.W.findObj_own hh ha rfl (by rw[hl,hv])) hv' h
theorem yE{pl:Sem Bool}{Q:Value×List Value→Shared→Prop}(X:K.In s.heap)(I:uD s.heap x dx C mA)(hg:plainGet K C name=true)
  (hf:findIn K (.ref C) name=some (some (.ref f)))(ht:isFn K (.ref f)=true)(hv:mA name=none)(h:Q (.ref f,[.ref x]) s):
  wpAny (model prog w) A (getMethod (.ref x) name pl) Q E s:=by
 obtain⟨od,J,hl⟩:=I.look
 exact PySem.W.method_fn X J (plainGet_of hg).1 (plainGet_of hg).2 hf (beq_iff_eq.mp ht) (by show(lookIn name od).map (·.isSome)=some false;rw[hl,hv];rfl) h
theorem A3{ns:List Str}{Q:Unit→Shared→Prop}(X:K.In s.heap)(I:uD s.heap x dx C mA)
  (hs:findIn K (.ref C) "__setattr__" =some (some (.builtin "object.__setattr__"))) (hp:plainOver K C=true) (ht:takerIn K C name=some none) (hh:hasDictIn K C=true)
  (hw:PySem.Within mA ns)(hsz:ns.length≤sizeLine)
  (h:∀h',uD h' x dx C (fun y=>if y=name then some v else mA y)→Heap.SameBut dx s.heap h'→Q () { s with heap:=h',toks:=s.toks+2 }):
  wpAny (model prog w) A (setAttr (.ref x) name v) Q E s:=by
 obtain⟨od,J,hl⟩:=I.look
 refine PySem.W.set_plain X J hs (PySem.W.osa_open (s:={ s with toks:=s.toks+1 }) (r:=none) X J hp ht fun b=>?_)
 obtain⟨cd,hc,hd'⟩:=PySem.W.any_some hh
 have hx:s.heap.get? x=some ⟨.ref C,some dx,.plain,#[]⟩:=I.obj
 refine wpAny_bind (wpAny_pure (wpAny_bind (wpAny_bind (wpAny_loadPart hx (wpAny_bind (PySem.W.Looks.here (s:={ s with toks:=s.toks+1 }) (PySem.W.looks_clsIn X hc) ?_))))))
 rw[hd']
 refine wpAny_pure (a:=some dx) (wpAny_bind (wpAny_pure (wpAny_bind ?_)))
 refine wpAny_nsSet1 (s:={ s with toks:=s.toks+1 }) I.ns fun h' hn2 hs2=>?_
 obtain⟨oD,esD,epD,hoD,hdD,hcD⟩:=hn2.count (PySem.Within.cons name v hw)
 refine wpAny_bind (wpAny_lookBehind hoD (by rw[hdD];exact pastItsLine_dict (le_trans hcD (by rw[length_cons];omega))) ?_)
 exact wpAny_pure (h _ ⟨(hs2.2 _ (Ne.symm I.ne)).trans I.obj,hn2,I.ne⟩ hs2)
theorem yT{R:Result→Shared→Prop}{vs:List Value}{kw:List (Str×Value)}(X:K.In s.heap)(hm:makesIn K C=true)
  (hi:findIn K (.ref C) "__init__" =some (some (.ref f))) (hf:PySem.W.typeIn K (.ref f)=some (.type "function"))
  (h:codeAny (model prog w) (A.under (.builtin "type.__call__" ⟨.ref C::vs,kw⟩)) (.call (.ref f) ⟨.ref (s.heap.objs.size+1)::vs,kw⟩) (PySem.W.InitBack (s.heap.objs.size+1) R)
   { s with heap:=(s.heap.push emptyDict).push (instObj C s.heap.objs.size) }):
  codeAny (model prog w) A (.call (.ref C) ⟨vs,kw⟩) R s:=by
 obtain⟨hh,g,d,t,os⟩:=s
 exact PySem.W.make_core (PySem.W.makes_of X hm) (PySem.W.looks_findIn X hi) (fun self=>PySem.W.bind_fn X self hf) (.inl rfl) h
end
def eT(f:Str)(v:V):List (Str×V)→List (Str×V)
 |[]=>[(f,v)]
 | (g,x)::r=>if g=f then(g,v)::r else(g,x)::eT f v r
theorem cP(f g:Str)(v:V):∀fs:List (Str×V),(eT f v fs).lookup g=if g=f then some v else fs.lookup g
 |[]=>by
  show List.lookup g [(f,v)]=_
  by_cases h:g=f
  ·have hb:(g == f)=true:=beq_iff_eq.mpr h
   simp only[List.lookup,hb,if_pos h]
  ·have hb:(g == f)=false:=beq_eq_false_iff_ne.mpr h
   simp only[List.lookup,hb,if_neg h]
 | (k,x)::r=>by
  have ih:=cP f g v r
  rw[show eT f v ((k,x)::r)=(if k=f then(k,v)::r else(k,x)::eT f v r) from rfl]
  by_cases hk:k=f
  ·rw[if_pos hk]
   by_cases h:g=k
   ·have hb:(g == k)=true:=beq_iff_eq.mpr h
    simp only[List.lookup,hb,if_pos (h.trans hk)]
   ·have hb:(g == k)=false:=beq_eq_false_iff_ne.mpr h
    simp only[List.lookup,hb,if_neg (fun e:g=f=>h (e.trans hk.symm))]
  ·rw[if_neg hk]
   by_cases h:g=k
   ·have hb:(g == k)=true:=beq_iff_eq.mpr h
    simp only[List.lookup,hb,if_neg (fun e:g=f=>hk (h.symm.trans e))]
   ·have hb:(g == k)=false:=beq_eq_false_iff_ne.mpr h
    simp only[List.lookup,hb]
    exact ih
theorem kg(f:Str)(v:V):∀fs:List (Str×V),f∈(eT f v fs).map (·.1)∧∀g,g∈fs.map (·.1)→g∈(eT f v fs).map (·.1)
 |[]=>⟨by simp[eT],fun g h=>by simp at h⟩
 | (k,x)::r=>by
  obtain⟨i1,i2⟩:=kg f v r
  rw[show eT f v ((k,x)::r)=(if k=f then(k,v)::r else(k,x)::eT f v r) from rfl]
  by_cases hk:k=f
  ·rw[if_pos hk]
   subst hk
   exact⟨by simp,fun g h=>by simpa using h⟩
  ·rw[if_neg hk]
   refine⟨?_,fun g h=>?_⟩
   ·rw[map_cons]
    exact mem_cons_of_mem _ i1
   ·rw[map_cons]at h ⊢
    rcases mem_cons.mp h with e|e
    ·exact mem_cons.mpr (.inl e)
    ·exact mem_cons_of_mem _ (i2 g e)
theorem lh(f:Str)(v:V):∀fs:List (Str×V),(eT f v fs).length≤fs.length+1
 |[]=>by simp[eT]
 | (k,x)::r=>by
  have ih:=lh f v r
  rw[show eT f v ((k,x)::r)=(if k=f then(k,v)::r else(k,x)::eT f v r) from rfl]
  by_cases hk:k=f
  ·rw[if_pos hk,length_cons,length_cons];omega
  ·rw[if_neg hk,length_cons,length_cons];omega
theorem i8.some_of{v:V}{o:Option Value}(r:i8 (some v) o):∃u,o=some u∧RelV v u:=by
 cases o with
 |none=>exact(show False from r).elim
 |some u=>exact⟨u,rfl,r⟩
theorem i8.none_of{o:Option Value}(r:i8 none o):o=none:=by
 cases o with
 |none=>rfl
 |some u=>exact(show False from r).elim
theorem wc{v:V}{u:Value}(r:RelV v u):handedIn u=true:=by
 cases v with
 |non=>cases (show u=Value.none from r);rfl
 |bl b=>cases (show u=Value.bool b from r);rfl
 |int i=>obtain⟨t,e⟩:=(show ∃t,u=Value.int i t from r);cases e;rfl
 |str x=>obtain⟨t,e⟩:=(show ∃t,u=Value.str x t from r);cases e;rfl
 |byt b=>obtain⟨t,e⟩:=(show ∃t,u=Value.bytes b t from r);cases e;rfl
 |flt b=>obtain⟨t,e⟩:=(show ∃t,u=Value.float b t from r);cases e;rfl
 |ref a=>cases (show u=Value.ref a from r);rfl
 |ty n=>cases (show u=Value.type n from r);rfl
section
variable {P:Program}{w:World}{H H':Hp}{h h':Heap}{a C dx:Addr}{fs fs':List (Str×V)}
theorem lR(hok:jb P w H h)(e:H a=some (.ins C dx fs)):∃mA,uD h a dx C mA∧(∀f,i8 (fs.lookup f) (mA f))∧PySem.Within mA (fs.map (·.1))∧fs.length≤1000∧H dx=some (.own a):=by
 obtain⟨d,z,ne,ob,mA,n,r,q⟩:=(show df P w H h a (.ins C dx fs) from hok a _ e)
 exact⟨mA,⟨ob,n,ne⟩,r,q,z,d⟩
end
structure qJ(K:PySem.W.Frag)(C:Addr):Prop where
 pg:plainGet K C Str.empty=true
 hd:hasDictIn K C=true
 po:plainOver K C=true
 sa:findIn K (.ref C) "__setattr__" =some (some (.builtin "object.__setattr__"))
theorem qJ.get{K:PySem.W.Frag}{C:Addr}(c:qJ K C)(f:Str):plainGet K C f=true:=c.pg
def fe(K:PySem.W.Frag)(C:Addr)(f:Str):Prop:=findIn K (.ref C) f=some none
theorem fe.Fc{K:PySem.W.Frag}{C:Addr}{f:Str}(n:fe K C f):takerIn K C f=some none:=by
 unfold takerIn
 rw[show findIn K (.ref C) f=some none from n]
 rfl
structure Jr(K:PySem.W.Frag)(C:Addr)(f:Str)(v:V)(u:Value):Prop where
 at_:findIn K (.ref C) f=some (some u)
 rel:RelV v u
 get:specialIn K u "__get__" =some none
 cp:PySem.W.copiedNames.contains f=false
structure Meth(K:PySem.W.Frag)(C:Addr)(m:Str)(f:Addr):Prop where
 at_:findIn K (.ref C) m=some (some (.ref f))
 fn:isFn K (.ref f)=true
 kp:keepIn K (.ref f)=true
section
variable {X:Cx}{pins:List (Addr×Obj)}{σ:St}{H:Hp}{s:Shared}{a C dx:Addr}{fs:List (Str×V)}{f:Str}{v:V}{A:Around}{E:Value→Shared→Prop}
theorem uc{b:Bool}{Q:Value→Shared→Prop}(I:Inv X pins σ H s)(e:H a=some (.ins C dx fs))(c:qJ X.K C)(n:fe X.K C f)(l:fs.lookup f=some v)
  (h:∀u s',Inv X pins σ H s'→RelV v u→Q u s'):wpAny (model X.prog X.w) A (getAttr (.ref a) f b) Q E s:=by
 obtain⟨mA,O,r,_,_,_⟩:=lR I.hok e
 obtain⟨u,hu,ru⟩:=i8.some_of (v:=v) (o:=mA f) (by rw[←l];exact r f)
 exact get_map I.lC O (c.get f) c.hd n hu (wc ru) (h u _ (I.tok _) ru)
theorem m9{m:Str}{g:Addr}{pl:Sem Bool}{Q:Value×List Value→Shared→Prop}(I:Inv X pins σ H s)(e:H a=some (.ins C dx fs))(c:qJ X.K C)(k:Meth X.K C m g)(l:fs.lookup m=none)
  (h:Q (.ref g,[.ref a]) s):wpAny (model X.prog X.w) A (getMethod (.ref a) m pl) Q E s:=by
 obtain⟨mA,O,r,_,_,_⟩:=lR I.hok e
 have hn:mA m=none:=i8.none_of (by rw[←l];exact r m)
 exact yE I.lC O (c.get m) k.at_ k.fn hn h
theorem tT{y:V}{u:Value}{Q:Unit→Shared→Prop}(I:Inv X pins σ H s)(e:H a=some (.ins C dx fs))(c:qJ X.K C)(n:fe X.K C f)(hl:fs.length < 1000)(ry:RelV y u)
  (h:∀s',Inv X pins σ (upd H a (.ins C dx (eT f y fs))) s'→Q () s'):wpAny (model X.prog X.w) A (setAttr (.ref a) f u) Q E s:=by
 obtain⟨mA,O,r,wi,_,ho⟩:=lR I.hok e
 have hz:(fs.map (·.1)).length≤sizeLine:=by rw[length_map,sizeLine_eq];omega
 refine A3 I.lC O c.sa c.po n.Fc c.hd wi hz fun h' O' sb=>h _ ?_
 have hd:∃o,h'.get? dx=some o:=let ⟨o,_,_,e',_⟩:=O'.ns;⟨o,e'⟩
 refine I.write (x:=a) (e:=dx) (by rw[e];exact True.intro) (.inr ho) (fun b q hb z=>(sb.2 b hb).trans z) hd ?_
 refine⟨by rw[cH O.ne];exact ho,?_,O.ne,O'.obj,_,O'.ns,fun g=>?_,fun g hg=>?_⟩
 ·have:=lh f y fs;omega
 ·show i8 ((eT f y fs).lookup g) (if g=f then some u else mA g)
  rw[cP]
  by_cases q:g=f
  ·rw[if_pos q,if_pos q];exact ry
  ·rw[if_neg q,if_neg q];exact r g
 ·by_cases q:g=f
  ·rw[q];exact(kg f y fs).1
  ·refine(kg f y fs).2 g (wi g fun z=>hg ?_)
   show(if g=f then some u else mA g)=none
   rw[if_neg q];exact z
theorem Inv.made(I:Inv X pins σ H s):Inv X pins σ (upd (upd H s.heap.objs.size (.own (s.heap.objs.size+1))) (s.heap.objs.size+1) (.ins C s.heap.objs.size []))
  { s with heap:=(s.heap.push emptyDict).push (instObj C s.heap.objs.size) }:=by
 have e1:(s.heap.push emptyDict).get? s.heap.objs.size=some emptyDict:=get?_push_size s.heap rfl
 have e2:((s.heap.push emptyDict).push (instObj C s.heap.objs.size)).get? (s.heap.objs.size+1)=some (instObj C s.heap.objs.size):=by
  have:=get?_push_size (s.heap.push emptyDict) (o:=instObj C s.heap.objs.size) rfl
  rwa [size_push]at this
 have e3:(s.heap.push emptyDict).Ns s.heap.objs.size (fun _=>none):=⟨emptyDict,#[],_,e1,rfl,(fun e he=>absurd he (by simp)),fun _=>rfl⟩
 have I1:=I.laid (a:=s.heap.objs.size) (o:=.own (s.heap.objs.size+1)) (h':=s.heap.push emptyDict) (t':=s.toks) (fun b u q=>get?_push_of_some _ q) (le_refl _) ⟨_,e1⟩
 refine I1.laid (a:=s.heap.objs.size+1) (o:=.ins C s.heap.objs.size []) (t':=s.toks) (fun b u q=>get?_push_of_some _ q) (le_of_eq (size_push _ _)) ?_
 have ne:s.heap.objs.size≠s.heap.objs.size+1:=ne_of_lt (lt_succ_self _)
 refine⟨by rw[cH ne,cE],zero_le _,ne,e2,fun _=>none,(Heap.Ns1.of_empty e3).at fun o q=>get?_push_of_some _ q,fun _=>True.intro,fun y hy=>absurd rfl hy⟩
theorem zS{prog:Program}{w:World}{env:Env}{e:Expr}{f:Str}{pos:Pos}{s:Shared}{Q:Value→Shared→Prop}(hb:attributeBase e f env (eval e env)=eval e env)
  (h:wpAny (model prog w) A (eval e env) (fun o s₁=>wpAny (model prog w) A (getAttr o f true) Q E s₁) E s):wpAny (model prog w) A (eval (.Attribute e f pos) env) Q E s:=
 Attribute_any_ h (by rw[arm_eval_Attribute,hb])
end
inductive HK(K:PySem.W.Frag)(f:Str)(x:V)(H:Hp)(Q:VK):Prop
 |mk(a C dx:Addr)(fs:List (Str×V))(v:V)(hx:x=.ref a)(h:H a=some (.ins C dx fs))(c:qJ K C)(n:fe K C f)(l:fs.lookup f=some v)(q:Q v H)
def Ft(K:PySem.W.Frag)(ta:TE)(f:Str):TE:=fun σ H Q=>ta σ H fun x H1=>HK K f x H1 Q
def Jn(K:PySem.W.Frag)(ta:TE)(f:Str):TE:=fun σ H Q=>ta σ H fun x H1=>∃a C dx fs v u,x=.ref a∧H1 a=some (.ins C dx fs)∧qJ K C∧Jr K C f v u∧fs.lookup f=none∧Q v H1
def FE(K:PySem.W.Frag)(ta tv:TE)(f:Str):TS:=fun D σ H=>tv σ H fun y H1=>ta σ H1 fun x H2=>∃a C dx fs,x=.ref a∧H2 a=some (.ins C dx fs)∧qJ K C∧fe K C f∧fs.length < 1000∧
 D.nx σ (upd H2 a (.ins C dx (eT f y fs)))
def Kj(X:Cx)(op:Operator)(rd:V→V→Hp→VK→Prop):Prop:=
 ∀(pins:List (Addr×Obj)) (s:Shared) (σ:St) (H:Hp) (x y:V) (u v:Value) (Q:VK),Inv X pins σ H s→RelV x u→RelV y v→rd x y H Q→wpAny (model X.prog X.w) X.A (inplaceOp op u v) (EP X pins σ Q) X.xe s
def Gk(K:PySem.W.Frag)(ta tv:TE)(rd:V→V→Hp→VK→Prop)(f:Str):TS:=fun D σ H=>ta σ H fun x H1=>∃a C dx fs v,x=.ref a∧H1 a=some (.ins C dx fs)∧qJ K C∧fe K C f∧fs.lookup f=some v∧
 tv σ H1 fun y H2=>rd v y H2 fun z H3=>∃dx' fs',H3 a=some (.ins C dx' fs')∧fs'.length < 1000∧D.nx σ (upd H3 a (.ins C dx' (eT f z fs')))
section
variable {X:Cx}{o e value:Expr}{f:Str}{pos pos' tpos:Pos}{ta tv:TE}
theorem CY(he:PE X e ta)(hb:attributeBase e f X.env (eval e X.env)=eval e X.env):PE X (.Attribute e f pos) (Ft X.K ta f):=by
 intro pins s σ H Q I h
 refine zS hb (dq (he pins s σ H _ I h) fun u s1 hpat=>?_)
 obtain⟨x,H1,I1,rx,a,C,dx,fs,v,ex,ea,c,n,l,q⟩:=hpat
 subst ex
 obtain rfl:u=Value.ref a:=rx
 exact uc I1 ea c n l fun u' s2 I2 ru=>⟨v,H1,I2,ru,q⟩
theorem ki(ha:PE X o ta)(hv:PE X value tv)(hs:swapsWith value (some (.Attribute o f pos')) pos.line X.env=pure false):PS X (.Assign [.Attribute o f pos'] value pos) (FE X.K ta tv f):=by
 intro pins s σ H D I h
 refine plainObj_wpAny_Assign_Attribute (dq (hv pins s σ H _ I h) fun u s1 ⟨y,H1,I1,ry,q⟩=>dq (ha pins s1 σ H1 _ I1 q) fun ov s2 hpat=>?_) hs
 obtain⟨x,H2,I2,rx,a,C,dx,fs,ex,ea,c,n,l,q2⟩:=hpat
 subst ex
 obtain rfl:ov=Value.ref a:=rx
 exact tT I2 ea c n l ry fun s3 I3=>⟨σ,_,I3,q2⟩
def JV:V→V→Hp→VK→Prop:=fun x y H Q=>∃i j,x=.int i∧y=.int j∧Q (.int (i+j)) H
def Kl:V→V→Hp→VK→Prop:=fun x y H Q=>∃i j,x=.int i∧y=.int j∧Q (.int (i - j)) H
end
section
variable {X:Cx}{pins:List (Addr×Obj)}{σ:St}{H:Hp}{s:Shared}{A:Around}{E:Value→Shared→Prop}{Q:Value→Shared→Prop}{c:Value}{b:Bool}
inductive eX(K:PySem.W.Frag)(H:Hp):V→Value→Prop where
 |non:eX K H .non (.type "NoneType")
 |bl (x:Bool):eX K H (.bl x) (.type "bool")
 |int (i:Int):eX K H (.int i) (.type "int")
 |str (x:Str):eX K H (.str x) (.type "str")
 |flt (x:UInt64):eX K H (.flt x) (.type "float")
 |lst {a:Addr}{xs:List V}(e:H a=some (.lst xs)):eX K H (.ref a) (.type "list")
 |frz {a:Addr}{o:Obj}{xs:List V}(e:H a=some (.frz o (.lst xs))):eX K H (.ref a) (.type "list")
 |tup {a:Addr}{xs:List V}(e:H a=some (.tup xs)):eX K H (.ref a) (.type "tuple")
 |dK {a:Addr}{kvs:List (Key×V)}(e:H a=some (.dK kvs)):eX K H (.ref a) (.type "dict")
 |dT {a:Addr}{kvs:List (List Key×V)}(e:H a=some (.dT kvs)):eX K H (.ref a) (.type "dict")
 |ins {a C dx:Addr}{fs:List (Str×V)}(e:H a=some (.ins C dx fs)) (cl:qJ K C) (ha:findIn K (.ref C) "__class__" =some (some (.builtin "object.__class__")))
   (hn:specialIn K (.builtin "object.__class__") "__get__" =some (some (.builtin "getset_descriptor.__get__"))) (htk:PySem.W.takesIn K (.builtin "object.__class__")=some true)
   (hm:PySem.W.mroIn K C (.type "object")=some true):eX K H (.ref a) (.ref C)
theorem vS{x:V}{u t:Value}(I:Inv X pins σ H s)(rx:RelV x u)(ty:eX X.K H x t)(e:kitOne X.K t c=some b)(h:∀tk,Q (.bool b) { s with toks:=tk }):
  wpAny (model X.prog X.w) A (call (.builtin "isinstance") [u,c]) Q E s:=by
 cases ty with
 |non=>cases (show u=Value.none from rx);exact kia_one PySem.W.kitx_none I.lC True.intro e (fun z=>nomatch z) h
 |bl y=>cases (show u=Value.bool y from rx);exact kia_one PySem.W.kitx_bool I.lC True.intro e (fun z=>nomatch z) h
 |int i=>obtain⟨t,q⟩:=(show ∃t,u=Value.int i t from rx);cases q;exact kia_one PySem.W.kitx_int I.lC True.intro e (fun z=>nomatch z) h
 |str y=>obtain⟨t,q⟩:=(show ∃t,u=Value.str y t from rx);cases q;exact kia_one PySem.W.kitx_str I.lC True.intro e (fun z=>nomatch z) h
 |flt y=>obtain⟨t,q⟩:=(show ∃t,u=Value.float y t from rx);cases q;exact kia_one PySem.W.kitx_float I.lC True.intro e (fun z=>nomatch z) h
 | @lst a xs ea=>
  cases (show u=Value.ref a from rx)
  obtain⟨_,_,n,_,h1⟩:=(show df X.prog X.w H s.heap a (.lst xs) from I.hok a _ ea)
  exact kia_one kitx_list I.lC ⟨_,h1,rfl⟩ e (fun z=>nomatch z) h
 | @frz a ob xs ea=>
  cases (show u=Value.ref a from rx)
  obtain⟨_,_,_,n,_,h1⟩:=(show df X.prog X.w H s.heap a (.frz ob (.lst xs)) from I.hok a _ ea)
  exact kia_one kitx_list I.lC ⟨_,h1,rfl⟩ e (fun z=>nomatch z) h
 | @tup a xs ea=>
  cases (show u=Value.ref a from rx)
  obtain⟨_,_,_,p⟩:=(show df X.prog X.w H s.heap a (.tup xs) from I.hok a _ ea)
  obtain⟨o,h1,h2,_⟩:=p
  exact kia_one PySem.W.kitx_tuple I.lC ⟨o,h1,h2⟩ e (fun z=>nomatch z) h
 | @dK a kvs ea=>
  cases (show u=Value.ref a from rx)
  obtain⟨_,_,vs,_,p⟩:=(show df X.prog X.w H s.heap a (.dK kvs) from I.hok a _ ea)
  obtain⟨o,es,ep,h1,h2,_⟩:=p
  exact kia_one kitx_dict I.lC ⟨o,h1,h2.1⟩ e (fun z=>nomatch z) h
 | @dT a kvs ea=>
  cases (show u=Value.ref a from rx)
  obtain⟨_,_,xs,_,o,es,ep,h1,h2,_⟩:=(show df X.prog X.w H s.heap a (.dT kvs) from I.hok a _ ea)
  exact kia_one kitx_dict I.lC ⟨o,h1,h2.1⟩ e (fun z=>nomatch z) h
 | @ins a C dx fs ea cl ha hn htk hm=>
  cases (show u=Value.ref a from rx)
  obtain⟨mA,O,_⟩:=lR I.hok ea
  obtain⟨od,J,_⟩:=O.look
  exact kia_one (PySem.W.kitx_own (cl.get _) cl.hd ha hn htk hm) I.lC J e (fun z=>nomatch z) h
end
end L2
namespace L2
open PySem PySem.Spec PyProof.Rows
structure dr(k:Nat)(A:Around):Prop where
 hd:A.handled=none
 dp:A.depth+3 * k+5 < recursionLimit
 un:A.units+16 * k+200 < cLine
theorem dr.mono{j k:Nat}{A:Around}(r:dr k A)(h:j≤k):dr j A:=⟨r.hd,by have:=r.dp;omega,by have:=r.un;omega⟩
theorem dr.deeper{k:Nat}{A:Around}(r:dr (k+1) A)(env:Env):dr k (A.deeper env):=
 ⟨r.hd,by have:=r.dp;show A.depth+1+3 * k+5 < _;omega,by have:=r.un;show A.units+3+16 * k+200 < _;omega⟩
theorem tU{A:Around}{C:Addr}{us:List Value}{kw:List (Str×Value)}:(A.under (.builtin "type.__call__" ⟨.ref C::us,kw⟩)).depth=A.depth+1:=by
 first|rfl|simp[Around.under,Code.weight,Code.isCreation,Code.isGuard,Code.isCaller,Code.frames,Code.isFrame,guardIds]
theorem uz{A:Around}{C:Addr}{us:List Value}{kw:List (Str×Value)}:(A.under (.builtin "type.__call__" ⟨.ref C::us,kw⟩)).units=A.units+1:=by
 first|rfl|simp[Around.under,Code.cUnits,Code.frames,Code.isFrame]
theorem dr.make{k:Nat}{A:Around}(r:dr (k+1) A)(C:Addr)(us:List Value)(kw:List (Str×Value)):dr k (A.under (.builtin "type.__call__" ⟨.ref C::us,kw⟩)):=
 ⟨r.hd,by have:=r.dp;rw[tU];omega,by have:=r.un;rw[uz];omega⟩
theorem dr.depth{k:Nat}{A:Around}(r:dr k A):A.depth < recursionLimit:=by have:=r.dp;omega
theorem dr.units{k:Nat}{A:Around}(r:dr k A):A.units+64 < cLine:=by have:=r.un;omega
def jl:TA:=fun _ H Q=>Q [] H
def da(ta:TE)(tr:TA):TA:=fun σ H Q=>ta σ H fun x H1=>tr σ H1 fun xs H2=>Q (x::xs) H2
section
variable {X:Cx}{e:Expr}{es:List Expr}{te:TE}{t:TA}{pos:Pos}
theorem jw:PA X [] jl:=fun _ _ _ _ H Q I h=>Calls.spliced_nil ⟨[],H,I,.nil,h⟩
theorem eK(ha:PE X e te)(hr:PA X es t)(hs:starEach (e::es) X.env=(false,eval e X.env)::starEach es X.env:=by rfl):PA X (e::es) (da te t):=by
 intro pos pins s σ H Q I h
 rw[hs]
 show wpAny _ _ (spliced ((false,eval e X.env)::backTo pos (starEach es X.env))) _ _ s
 refine Calls.spliced_cons (dq (ha pins s σ H _ I h) fun u s1 hpat=>?_)
 obtain⟨x,H1,I1,r1,q1⟩:=hpat
 exact dq (hr pos pins s1 σ H1 _ I1 q1) fun us s2 ⟨xs,H2,I2,r2,q2⟩=>⟨x::xs,H2,I2,.cons r1 r2,q2⟩
def Bc(t:TA):TE:=fun σ H Q=>t σ H fun xs H1=>xs.length≤sizeLine∧∀p,H1 p=none→Q (.ref p) (upd H1 p (.tup xs))
def FQ(t:TA):TE:=fun σ H Q=>t σ H fun xs H1=>xs.length≤sizeLine∧∀p,H1 p=none→Q (.ref p) (upd H1 p (.lst xs))
theorem C9{x1}(h:PA X es t):PE X (.Tuple es x1 pos) (Bc t):=by
 intro pins s σ H Q I hq
 refine wpAny_Tuple_spliced (dq (h pos pins s σ H _ I hq) fun us s1 ⟨xs,H1,I1,r,z,q⟩=>⟨by rw[←r.length];exact z,?_⟩)
 have hf:H1 s1.heap.objs.size=none:=I1.hok.fresh (le_refl _)
 refine⟨.ref s1.heap.objs.size,upd H1 s1.heap.objs.size (.tup xs),I1.laid (t':=s1.toks) (fun b u e=>get?_push_of_some _ e) (le_refl _) ?_,rfl,q _ hf⟩
 exact⟨z,us,r,⟨_,get?_push_size _ rfl,rfl,_,rfl⟩⟩
theorem DJ(h:PA X es t):PE X (.List es pos) (FQ t):=by
 intro pins s σ H Q I hq
 refine wpAny_List_spliced (dq (h pos pins s σ H _ I hq) fun us s1 ⟨xs,H1,I1,r,z,q⟩=>⟨by rw[←r.length];exact z,?_⟩)
 have hf:H1 s1.heap.objs.size=none:=I1.hok.fresh (le_refl _)
 refine⟨.ref s1.heap.objs.size,upd H1 s1.heap.objs.size (.lst xs),I1.laid (t':=s1.toks) (fun b u e=>get?_push_of_some _ e) (le_refl _) ?_,rfl,q _ hf⟩
 exact⟨z,us,0,r,get?_push_size _ rfl⟩
end
abbrev Sp:=List V→Hp→VK→XK→Prop
abbrev xH:=List Env→Hp→Shared→XK→Value→Shared→Prop
structure qB(P:Program)(w:World)(K:PySem.W.Frag)(mg:Str→Option Value)(base:Heap)(A:Around)(outer:List Env)(s:Shared)(H:Hp):Prop where
 frames:A.frames=some outer
 mod:Mod K mg base
 bs:∀b o,base.get? b=some o→s.heap.get? b=some o∧H b=none
 bsz:base.objs.size≤s.heap.objs.size
 kP:s.heap.FunFrames base outer
 frf:∀b∈tH outer,H b=none
 hok:jb P w H s.heap
 bare:AllBare s.gens
def CE(outer:List Env)(P:Program)(w:World)(H:Hp)(s:Shared)(Q:VK)(u:Value)(s':Shared):Prop:=
 ∃v H',s'.os=s.os∧AllBare s'.gens∧Un (tH outer) [] H H' s.heap s'.heap∧jb P w H' s'.heap∧RelV v u∧Q v H'
def CR(CX:xH)(outer:List Env)(P:Program)(w:World)(H:Hp)(s:Shared)(Q:VK)(E:XK)(r:Result)(s':Shared):Prop:=
 match r with
 |.ok (.ret u)=>CE outer P w H s Q u s'
 |.ok _=>False
 |.error e=>CX outer H s E e s'
structure dY(P:Program)(w:World)(K:PySem.W.Frag)(mg:Str→Option Value)(base:Heap)(CX:xH)(k:Nat)(f:Addr)(fd:FuncData)(ps:List Str)(sp:Sp):Prop where
 len:∀vs H Q E,sp vs H Q E→vs.length=ps.length
 run:∀(A:Around) (outer:List Env) (s:Shared) (H:Hp) (args:Args) (us:List Value) (vs:List V) (Q:VK) (E:XK),dr k A→qB P w K mg base A outer s H→BindsTo s fd args (ps.zip us)→Vals vs us→sp vs H Q E→
  codeAny (model P w) A (.call (.ref f) args) (CR CX outer P w H s Q E) s
theorem qB.make{P:Program}{w:World}{K:PySem.W.Frag}{mg:Str→Option Value}{base:Heap}{A:Around}{outer:List Env}{s:Shared}{H:Hp}(e:qB P w K mg base A outer s H)(C:Addr)(us:List Value)(kw:List (Str×Value)):
  qB P w K mg base (A.under (.builtin "type.__call__" ⟨.ref C::us,kw⟩)) outer s H:=⟨by first|exact e.frames| (simpa [Around.under,Code.envs,Code.isFrame,pushEnvs] using e.frames),e.mod,e.bs,e.bsz,e.kP,e.frf,e.hok,e.bare⟩
section
variable {X:Cx}{pins:List (Addr×Obj)}{σ:St}{H:Hp}{s s':Shared}
theorem Inv.CF(I:Inv X pins σ H s):qB X.prog X.w X.K X.mg X.base X.A X.stack s H:=
 ⟨I.ok.frames,I.ok.mod,I.bs,le_trans I.ok.bsz I.sz,I.stack,I.vh,I.hok,I.bare⟩
theorem Inv.after{Q:VK}{u:Value}(I:Inv X pins σ H s)(h:CE X.stack X.prog X.w H s Q u s'):EP X pins σ Q u s':=by
 obtain⟨v,H',os,bare,un,hok,r,q⟩:=h
 obtain⟨hh,g,d,t,os'⟩:=s'
 obtain rfl:os'=s.os:=os
 exact⟨v,H',I.call (h':=hh) (g':=g) (d':=d) (t':=t) (ch:=[]) un hok bare (fun b z=>absurd z (by simp)),r,q⟩
end
def mW(sp:Sp)(dvs:List V)(E:XK)(t:TA):TE:=fun σ H Q=>t σ H fun vs H1=>sp (vs++dvs) H1 Q E
inductive MethP(C:Addr)(m:Str)(x:V)(H:Hp)(G:Prop):Prop
 |mk(a dx:Addr)(fs:List (Str×V))(hx:x=.ref a)(h:H a=some (.ins C dx fs))(l:fs.lookup m=none)(q:G)
def u9(C:Addr)(m:Str)(sp:Sp)(dvs:List V)(E:XK)(ta:TE)(t:TA):TE:=fun σ H Q=>ta σ H fun x H1=>MethP C m x H1 (t σ H1 fun vs H2=>sp (x::(vs++dvs)) H2 Q E)
def BP(C:Addr)(sp:Sp)(dvs:List V)(E:XK)(t:TA):TE:=fun σ H Q=>t σ H fun vs H1=>∀x dx,H1 x=none→H1 dx=none→dx≠x→
 sp (.ref x::(vs++dvs)) (upd (upd H1 dx (.own x)) x (.ins C dx [])) (fun v H2=>v=.non∧Q (.ref x) H2) E
def Binds(K:PySem.W.Frag)(fd:FuncData)(ps:List Str)(ds:List Value):Prop:=
 ∀(s:Shared) (us:List Value),K.In s.heap→(us++ds).length=ps.length→BindsTo s fd ⟨us,[]⟩ (ps.zip (us++ds))
theorem Binds.all{K:PySem.W.Frag}{fd:FuncData}{ps:List Str}(h:∀us:List Value,us.length=ps.length→bindArgs fd ⟨us,[]⟩=pure (ps.zip us)):Binds K fd ps []:=fun s us _ hl=>by
 rw[append_nil]at hl ⊢
 exact .of_eq (h us hl)
def Passes(CX:xH)(X:Cx)(E:XK):Prop:=∀(pins:List (Addr×Obj)) (σ:St) (H:Hp) (s:Shared) (e:Value) (s':Shared),Inv X pins σ H s→CX X.stack H s E e s'→X.xe e s'
section
variable {X:Cx}{CX:xH}{k:Nat}{f C:Addr}{fd:FuncData}{ps:List Str}{sp:Sp}{dvs:List V}{ds:List Value}{E:XK}{x m:Str}{p pos apos:Pos}{e o:Expr}{es:List Expr}{ta:TE}{t:TA}
theorem uo{pins:List (Addr×Obj)}{σ:St}{H:Hp}{s:Shared}{Q:VK}{us:List Value}{vs:List V}(F:dY X.prog X.w X.K X.mg X.base CX k f fd ps sp)(hr:dr k X.A)(hb:Binds X.K fd ps ds)(hd:Vals dvs ds)(hx:Passes CX X E)
  (I:Inv X pins σ H s)(r:Vals vs us)(h:sp (vs++dvs) H Q E):wpAny (model X.prog X.w) X.A (call (.ref f) us) (EP X pins σ Q) X.xe s:=by
 have r2:Vals (vs++dvs) (us++ds):=r.append hd
 have hl:(us++ds).length=ps.length:=by rw[←r2.length];exact F.len _ _ _ _ h
 refine wpAny_call (codeAny_mono (F.run X.A X.stack s H ⟨us,[]⟩ (us++ds) (vs++dvs) Q E hr I.CF (hb s us I.lC hl) r2 h) fun r s' hq=>?_)
 cases r with
 |error e=>exact hx pins σ H s e s' I hq
 |ok fl=>
  cases fl with
  |ret u=>exact I.after hq
  |next=>exact False.elim hq
  |brk=>exact False.elim hq
  |cont=>exact False.elim hq
theorem vF(F:dY X.prog X.w X.K X.mg X.base CX k f fd ps sp)(hr:dr k X.A)(hg:Gl X x)(hm:X.mg x=some (.ref f))(hk:keepIn X.K (.ref f)=true)(hb:Binds X.K fd ps ds)(hd:Vals dvs ds)(hx:Passes CX X E)
  (ha:PA X (e::es) t) (hdb:(x == ("__debug__" :Str))=false:=by decide) (he:starEach (e::es) X.env=(false,eval e X.env)::starEach es X.env:=by rfl) (hpl:(backTo pos (starEach es X.env)).any (·.1)=false:=by rfl):
  PE X (.Call (.Name x p) (e::es) [] pos) (mW sp dvs E t):=by
 intro pins s σ H Q I h
 refine wpAny_Call_Name_kw (qj I hg hm ?_ hdb)
 refine callWith_K (h₀:=X.base) I.ok.mod.kin hk (dq (ha pos pins s σ H _ I h) fun us s1 ⟨vs,H1,I1,r,q⟩=>⟨I1.lC,?_⟩) he hpl
 exact uo F hr hb hd hx I1 r q
theorem AV{pl:Sem Bool}(he:PE X o ta)(c:qJ X.K C)(hm:Meth X.K C m f)(F:dY X.prog X.w X.K X.mg X.base CX k f fd ps sp)(hr:dr k X.A)(hb:Binds X.K fd ps ds)(hd:Vals dvs ds)(hx:Passes CX X E)(ha:PA X (e::es) t)
  (hst:starEach (e::es) X.env=(false,eval e X.env)::starEach es X.env:=by rfl)(hpl:(backTo pos (starEach es X.env)).any (·.1)=false:=by rfl)
  (ht:eval (.Call (.Attribute o m apos) (e::es) [] pos) X.env=(do
   let ov ←eval o X.env
   standAt apos.atName
   let (f,first) ←holding [ov] (getMethod ov m pl)
   callWith pos f first (backTo pos (starEach (e::es) X.env)) (backToKw pos (keywordEach [] X.env))):=by rfl):
  PE X (.Call (.Attribute o m apos) (e::es) [] pos) (u9 C m sp dvs E ta t):=by
 intro pins s σ H Q I h
 refine PySem.W.methodCall_KW (pl:=pl) (dq (he pins s σ H _ I h) fun u s1 hpat=>?_) ht
 obtain⟨x,H1,I1,rx,a,dx,fs,ex,ea,l,q⟩:=hpat
 subst ex
 obtain rfl:u=Value.ref a:=rx
 refine m9 I1 ea c hm l ?_
 refine callWith_K (first:=[.ref a]) (h₀:=X.base) I.ok.mod.kin hm.kp (dq (ha pos pins s1 σ H1 _ I1 q) fun us s2 ⟨vs,H2,I2,r,q2⟩=>⟨I2.lC,?_⟩) hst hpl
 exact uo (us:=.ref a::us) (vs:=.ref a::vs) F hr hb hd hx I2 (.cons rfl r) q2
theorem xW{pl:Sem Bool}(he:PE X o ta)(c:qJ X.K C)(hm:Meth X.K C m f)(F:dY X.prog X.w X.K X.mg X.base CX k f fd ps sp)(hr:dr k X.A)(hb:Binds X.K fd ps ds)(hd:Vals dvs ds)(hx:Passes CX X E)
  (ht:eval (.Call (.Attribute o m apos) [] [] pos) X.env=(do
   let ov ←eval o X.env
   standAt apos.atName
   let (f,first) ←holding [ov] (getMethod ov m pl)
   callWith pos f first (backTo pos (starEach [] X.env)) (backToKw pos (keywordEach [] X.env))):=by rfl):
  PE X (.Call (.Attribute o m apos) [] [] pos) (u9 C m sp dvs E ta jl):=by
 intro pins s σ H Q I h
 refine PySem.W.methodCall_KW (pl:=pl) (dq (he pins s σ H _ I h) fun u s1 hpat=>?_) ht
 obtain⟨x,H1,I1,rx,a,dx,fs,ex,ea,l,q⟩:=hpat
 subst ex
 obtain rfl:u=Value.ref a:=rx
 refine m9 I1 ea c hm l ?_
 exact PySem.W.callWith_K0 (first:=[.ref a]) I1.lC hm.kp (uo (us:=[.ref a]) (vs:=[.ref a]) F hr hb hd hx I1 (.cons rfl .nil) q)
structure Mk(K:PySem.W.Frag)(C f:Addr):Prop where
 makes:makesIn K C=true
 init:findIn K (.ref C) "__init__" =some (some (.ref f))
 fn:isFn K (.ref f)=true
 kp:keepIn K (.ref C)=true
theorem ym{pins:List (Addr×Obj)}{σ:St}{H:Hp}{s:Shared}{Q:VK}{us:List Value}{vs:List V}(M:Mk X.K C f)(F:dY X.prog X.w X.K X.mg X.base CX k f fd ps sp)(hr:dr (k+1) X.A)(hb:Binds X.K fd ps ds)(hd:Vals dvs ds)
  (hx:Passes CX X E)(I:Inv X pins σ H s)(r:Vals vs us)
  (h:∀x dx,H x=none→H dx=none→dx≠x→sp (.ref x::(vs++dvs)) (upd (upd H dx (.own x)) x (.ins C dx [])) (fun v H2=>v=.non∧Q (.ref x) H2) E):
  wpAny (model X.prog X.w) X.A (call (.ref C) us) (EP X pins σ Q) X.xe s:=by
 have hq:=h (s.heap.objs.size+1) s.heap.objs.size (I.hok.fresh (le_succ _)) (I.hok.fresh (le_refl _)) (ne_of_lt (lt_succ_self _))
 have I2:=Inv.made (C:=C) I
 have r2:Vals (V.ref (s.heap.objs.size+1)::(vs++dvs)) (Value.ref (s.heap.objs.size+1)::(us++ds)):=.cons rfl (r.append hd)
 have hl:(Value.ref (s.heap.objs.size+1)::us++ds).length=ps.length:=by
  have e:=r2.length
  rw[F.len _ _ _ _ hq]at e
  exact e.symm
 refine wpAny_call (yT (f:=f) I.lC M.makes M.init (beq_iff_eq.mp M.fn) (codeAny_mono (F.run _ X.stack _ _ ⟨Value.ref (s.heap.objs.size+1)::us,[]⟩ (Value.ref (s.heap.objs.size+1)::(us++ds)) _ _ E (hr.make C us [])
  (I2.CF.make C us []) (hb _ (Value.ref (s.heap.objs.size+1)::us) I2.lC hl) r2 hq) fun r s' hq'=>?_))
 cases r with
 |error e=>exact hx pins σ _ _ e s' I2 hq'
 |ok fl=>
  cases fl with
  |ret u=>
   obtain⟨v,H',I3,rv,ev,q3⟩:=I2.after hq'
   subst ev
   exact⟨rv,⟨V.ref (s.heap.objs.size+1),H',I3,rfl,q3⟩⟩
  |next=>exact False.elim hq'
  |brk=>exact False.elim hq'
  |cont=>exact False.elim hq'
theorem Am(M:Mk X.K C f)(F:dY X.prog X.w X.K X.mg X.base CX k f fd ps sp)(hr:dr (k+1) X.A)(hg:Gl X x)(hm:X.mg x=some (.ref C))(hb:Binds X.K fd ps ds)(hd:Vals dvs ds)(hx:Passes CX X E)
  (ha:PA X (e::es) t) (hdb:(x == ("__debug__" :Str))=false:=by decide) (he:starEach (e::es) X.env=(false,eval e X.env)::starEach es X.env:=by rfl) (hpl:(backTo pos (starEach es X.env)).any (·.1)=false:=by rfl):
  PE X (.Call (.Name x p) (e::es) [] pos) (BP C sp dvs E t):=by
 intro pins s σ H Q I h
 refine wpAny_Call_Name_kw (qj I hg hm ?_ hdb)
 refine callWith_K (h₀:=X.base) I.ok.mod.kin M.kp (dq (ha pos pins s σ H _ I h) fun us s1 ⟨vs,H1,I1,r,q⟩=>⟨I1.lC,?_⟩) he hpl
 exact ym M F hr hb hd hx I1 r q
end
def PK(X:Cx)(kws:List Keyword)(t:TA):Prop:=
 ∀(pos:Pos) (pins:List (Addr×Obj)) (s:Shared) (σ:St) (H:Hp) (Q:List V→Hp→Prop),Inv X pins σ H s→t σ H Q→wpAny (model X.prog X.w) X.A (evalAll ((backToKw pos (keywordEach kws X.env)).map (·.2))) (AP X pins σ Q) X.xe s
section
variable {X:Cx}{CX:xH}{k:Nat}{f C:Addr}{fd:FuncData}{ps ks:List Str}{sp:Sp}{E:XK}{x m:Str}{p pos apos kpos:Pos}{e o:Expr}{es:List Expr}{kws:List Keyword}{te ta:TE}{t tk:TA}{nm:Option Str}
structure Hl(K:PySem.W.Frag)(fd:FuncData)(ps ks:List Str)(g:List Value→List Value→List Value)(gV:List V→List V→List V):Prop where
 to:∀(s:Shared) (us ws:List Value),K.In s.heap→(g us ws).length=ps.length→BindsTo s fd ⟨us,ks.zip ws⟩ (ps.zip (g us ws))
 rel:∀{vs:List V}{us:List Value}{zs:List V}{ws:List Value},Vals vs us→Vals zs ws→Vals (gV vs zs) (g us ws)
def HJ(sp:Sp)(gV:List V→List V→List V)(E:XK)(t tk:TA):TE:=fun σ H Q=>t σ H fun vs H1=>tk σ H1 fun zs H2=>sp (gV vs zs) H2 Q E
variable {g:List Value→List Value→List Value}{gV:List V→List V→List V}
end
structure cJ(N P:List Str)(sc:Scope):Prop where
 kind:sc.kind=.function:=by rfl
 co:sc.isCoroutine=false:=by rfl
 gen:sc.isGenerator=false:=by rfl
 nd:N.Nodup:=by decide+kernel
 pre:N.take P.length=P:=by rfl
 par:∀x∈P,sc.names.lookup x=some .local∨sc.names.lookup x=some .cell:=by decide+kernel
 nofree:∀y∈sc.names,y.2≠.free:=by decide+kernel
theorem oK{kindOf:Str→Option NameKind}{x:Str}:∀{binds:List (Str×Value)}{m:Str→Option Value},(∀v,(x,v) ∉ binds)→bindL kindOf binds m x=m x
 |[],_,_=>rfl
 | (n,v)::r,m,h=>by
  unfold bindL
  rw[oK fun w hw=>h w (mem_cons_of_mem _ hw)]
  split
  ·have:x≠n:=by rintro rfl;exact h v mem_cons_self
   simp[this]
  ·rfl
theorem oS{kindOf:Str→Option NameKind}{x:Str}:∀{binds:List (Str×Value)}{m:Str→Option Value},(∀v,(x,v) ∉ binds)→bindC kindOf binds m x=m x
 |[],_,_=>rfl
 | (n,v)::r,m,h=>by
  unfold bindC
  rw[oS fun w hw=>h w (mem_cons_of_mem _ hw)]
  split
  ·rfl
  ·have:x≠n:=by rintro rfl;exact h v mem_cons_self
   simp[this]
theorem oA{kindOf:Str→Option NameKind}{x:Str}{v:Value}:∀{P:List Str}{vs:List Value}{i:Nat}{m:Str→Option Value},P.Nodup→P[i]? =some x→vs[i]? =some v→kindOf x=some .local→
  bindL kindOf (P.zip vs) m x=some v
 |[],_,_,_,_,h,_,_=>by simp at h
 |_::_,[],_,_,_,_,h,_=>by simp at h
 |p::P,w::vs,0,m,nd,h1,h2,hk=>by
  simp at h1 h2;subst h1;subst h2
  show bindL kindOf ((p,w)::P.zip vs) m p=_
  unfold bindL
  rw[oK fun v hv=>(nodup_cons.mp nd).1 (of_mem_zip hv).1,if_pos hk]
  simp
 |p::P,w::vs,i+1,m,nd,h1,h2,hk=>by
  show bindL kindOf ((p,w)::P.zip vs) m x=_
  unfold bindL
  exact oA (i:=i) (nodup_cons.mp nd).2 (by simpa using h1) (by simpa using h2) hk
theorem oP{kindOf:Str→Option NameKind}{x:Str}{v:Value}:∀{P:List Str}{vs:List Value}{i:Nat}{m:Str→Option Value},P.Nodup→P[i]? =some x→vs[i]? =some v→kindOf x≠some .local→
  bindC kindOf (P.zip vs) m x=some v
 |[],_,_,_,_,h,_,_=>by simp at h
 |_::_,[],_,_,_,_,h,_=>by simp at h
 |p::P,w::vs,0,m,nd,h1,h2,hk=>by
  simp at h1 h2;subst h1;subst h2
  show bindC kindOf ((p,w)::P.zip vs) m p=_
  unfold bindC
  rw[oS fun v hv=>(nodup_cons.mp nd).1 (of_mem_zip hv).1,if_neg hk]
  simp
 |p::P,w::vs,i+1,m,nd,h1,h2,hk=>by
  show bindC kindOf ((p,w)::P.zip vs) m x=_
  unfold bindC
  exact oP (i:=i) (nodup_cons.mp nd).2 (by simpa using h1) (by simpa using h2) hk
def start(N:List Str)(vs:List V):St:=vs.map some++List.replicate (N.length - vs.length) none
def qO(CX:xH)(P:Program)(w:World)(K:PySem.W.Frag)(mg:Str→Option Value)(base:Heap)(N:List Str)(qual:Str)(scope:Scope)(f:Addr)(cd:Value)(A:Around)(outer:List Env)(s:Shared)(H:Hp)(E:XK):Cx where
 prog:=P
 w:=w
 K:=K
 mg:=mg
 base:=base
 A:=A.deeper (envOfC qual scope s.heap.objs.size f cd)
 N:=N
 s₀:=s
 H₀:=H
 env:=envOfC qual scope s.heap.objs.size f cd
 outer:=outer
 stack:=envOfC qual scope s.heap.objs.size f cd::outer
 ex:=[]
 calm:=true
 fn:=fun _=>true
 pn:=[]
 xe:=fun e s'=>wpAny (model P w) (A.deeper (envOfC qual scope s.heap.objs.size f cd)) (leaving (envOfC qual scope s.heap.objs.size f cd) e) (fun _ s''=>CX outer H s E e s'') (fun e' s''=>CX outer H s E e' s'') s'
theorem qK{sc:Scope}{n:Nat}{x:Str}(h:sc.names.lookup x=some .cell):∃c,(cellsFrom n sc.names []).lookup x=some c:=by
 have q:=PySem.W.cellsFrom_some sc.names n [] (.inl h)
 exact Option.isSome_iff_exists.mp q
theorem vT{CX:xH}{P:Program}{w:World}{K:PySem.W.Frag}{mg:Str→Option Value}{base:Heap}{N ps:List Str}{qual:Str}{scope:Scope}{f:Addr}{cd:Value}{A:Around}{outer:List Env}{s s1:Shared}{H:Hp}{E:XK}{us:List Value}{vs:List V}
  (S:cJ N ps scope)(hd:A.handled=none)(e0:qB P w K mg base A outer s H)(hl:vs.length=ps.length)(r:Vals vs us)
  (x:InCallC s s.heap.objs.size (bindL (envOfC qual scope s.heap.objs.size f cd).kindOf (ps.zip us) fun _=>none) (cellsFrom (s.heap.objs.size+1) scope.names []) (bindC (envOfC qual scope s.heap.objs.size f cd).kindOf (ps.zip us) fun _=>none) s1):
  Inv (qO CX P w K mg base N qual scope f cd A outer s H E) [] (start N vs) H s1:=by
 have hpl:ps.length≤N.length:=by have:=congrArg List.length S.pre;rw[length_take]at this;omega
 obtain⟨h1,tk,rfl,hk⟩:=x.done
 have noA:∀b:Addr,b ∉ (qO CX P w K mg base N qual scope f cd A outer s H E).ex:=fun b z=>absurd (show b∈([]:List Addr) from z) (by simp)
 refine⟨⟨e0.mod,S.kind,rfl,rfl,le_refl _,fun y z c h1 h2=>?_,fun y hy=>?_,fun y c _ h=>?_,fun _=>hd,Around.frames_deeper e0.frames,.inr ⟨rfl,rfl⟩,fun b z=>absurd z (noA b),e0.bs,e0.bsz,fun b _ _=>noA b,fun b z=>absurd z (noA b),e0.kP,e0.frf⟩,
  rfl,e0.bare,Un.kept hk,⟨_,x.toInCall.ns,fun i y v h1 h2 h3=>?_⟩,fun y c h=>⟨_,x.cell y c h⟩,e0.hok.fresh (le_refl _),fun y c h=>?_,fun p hp=>absurd (show p∈([]:List (Addr×Obj)) from hp) (by simp),e0.hok.kept hk,?_⟩
 ·exact name_of_addr x.apart (PySem.mem_of_lookup h1) (PySem.mem_of_lookup h2)
 ·have hy:scope.names.lookup y=some .cell∨scope.names.lookup y=some .free:=hy
  rcases hy with hy|hy
  ·exact qK hy
  ·exact absurd rfl (S.nofree _ (PySem.mem_of_lookup hy))
 ·exact le_of_lt (x.above y c (PySem.mem_of_lookup h))
 ·have hi:i < vs.length:=by
   unfold start at h2
   by_cases hi:i < vs.length
   ·exact hi
   ·rw[getElem?_append_right (by simpa using hi)]at h2
    rw[List.getElem?_replicate]at h2
    split at h2<;>cases h2
  have ha:vs[i]? =some v:=by
   unfold start at h2
   rw[getElem?_append_left (by simpa using hi),getElem?_map]at h2
   cases e:vs[i]? with
   |none=>rw[e]at h2;cases h2
   |some a=>rw[e]at h2;cases h2;rfl
  obtain⟨u,hu,rv⟩:=r.get ha
  have hp:ps[i]? =some y:=by
   rw[←S.pre,getElem?_take_of_lt (by omega)];exact h1
  have ndP:ps.Nodup:=by rw[←S.pre];exact S.nd.sublist (take_sublist _ _)
  refine⟨u,rv,?_⟩
  rcases S.par y (mem_of_getElem? hp) with k|k
  ·exact .inl ⟨k,oA ndP hp hu k⟩
  ·obtain⟨c,e⟩:=qK (n:=s.heap.objs.size+1) k
   refine .inr ⟨.inl k,c,e,?_⟩
   have q:=x.cell y c e
   rw[oP ndP hp hu (by show scope.names.lookup y≠_;rw[k];decide)]at q
   exact q
 ·exact e0.hok.fresh (le_of_lt (x.above y c (PySem.mem_of_lookup h)))
 ·unfold start
  show _=N.length
  rw[length_append,length_map,length_replicate]
  omega
theorem Bs{CX:xH}{P:Program}{w:World}{K:PySem.W.Frag}{mg:Str→Option Value}{base:Heap}{k:Nat}{f:Addr}{name qual:Str}{params:Arguments}{body:List Stmt}{scope:Scope}{dV kV doc pm cdv ct oc:Value}{an od:Option Addr}
  {osl:Array (Option Value)}{N ps:List Str}{sp:Sp}(lk:K.lookup f=some ⟨oc,od,.func (fnOf name qual params body scope dV kV doc pm an cdv ct),osl⟩) (hcd:codeIn K cdv qual=true) (S:cJ N ps scope)
  (len:∀vs H Q E,sp vs H Q E→vs.length=ps.length)
  (hbody:∀(A:Around) (outer:List Env) (s:Shared) (H:Hp) (vs:List V) (Q:VK) (E:XK),dr k (A.deeper (envOfC qual scope s.heap.objs.size f cdv))→sp vs H Q E→
   ∃t,tE (qO CX P w K mg base N qual scope f cdv A outer s H E) body t∧t { nx:=fun _ H'=>Q .non H',rt:=Q } (start N vs) H):
  dY P w K mg base CX (k+1) f (fnOf name qual params body scope dV kV doc pm an cdv ct) ps sp:=by
 refine⟨len,fun A outer s H args us vs Q E hr e0 hb r hsp=>?_⟩
 have hl:=len _ _ _ _ hsp
 have KX:K.In s.heap:=e0.mod.kin.keeps fun b o e=>(e0.bs b o e).1
 have lim:s.heap.NoLimit:=e0.mod.nolimit.keeps fun b o e=>(e0.bs b o e).1
 have hkind:∀y∈ps.zip us,scope.names.lookup y.1=some .local∨(scope.names.lookup y.1=some .cell∧((cellsFrom (s.heap.objs.size+1) scope.names []).lookup y.1).isSome=true):=fun⟨n,v⟩ hy=>by
  rcases S.par n (of_mem_zip hy).1 with q|q
  ·exact .inl q
  ·exact .inr ⟨q,PySem.W.cellsFrom_some _ _ _ (.inl q)⟩
 refine codeAny_call_function hr.depth (KX _ _ lk) rfl S.co S.gen rfl (PySem.W.codeRec_of KX hcd) (hb _ _ _ _ ?_)
 refine wpAny_newFunctionEnv_cells S.kind hkind fun env he s1 x=>?_
 subst he
 refine⟨lim.keeps x.toInCall.keep,codeAny_func ?_⟩
 obtain⟨t,ht,hq⟩:=hbody A outer s H vs Q E (hr.deeper _) hsp
 have I:Inv (qO CX P w K mg base N qual scope f cdv A outer s H E) [] (start N vs) H s1:=vT S hr.hd e0 hl r x
 refine wpAny_mono (ht [] s1 (start N vs) H _ I hq) (fun fl s' hs=>?_) fun e s' hs=>hs
 have fin:∀{σ':St}{H':Hp}{v:V}{u:Value},Inv (qO CX P w K mg base N qual scope f cdv A outer s H E) [] σ' H' s'→RelV v u→Q v H'→CE outer P w H s Q u s':=
  fun {σ' H' v u} J rv q=>⟨v,H',J.os,J.bare,J.base,J.hok,rv,q⟩
 cases fl with
 |ret u=>
  obtain⟨v,σ',H',J,rv,q⟩:=hs
  exact fin J rv q
 |next=>
  obtain⟨σ',H',J,q⟩:=hs
  exact fin (v:=V.non) (u:=Value.none) J rfl q
 |brk=>
  obtain⟨_,_,_,q⟩:=hs
  exact False.elim q
 |cont=>
  obtain⟨_,_,_,q⟩:=hs
  exact False.elim q
end L2
namespace L2
open PySem PySem.Spec PyProof.Rows
section
variable {X:Cx}{x:Str}{p pos:Pos}{e:Expr}{es:List Expr}{t:TA}{id T:String}{r:List V→Hp→VK→Prop}
def D8(r:List V→Hp→VK→Prop)(t:TA):TE:=fun σ H Q=>t σ H fun vs H1=>r vs H1 Q
theorem f7 (hc:d9 X (.builtin id) r) (hg:Gl X x) (hm:X.mg x=none) (hv:bootBuiltins x=some (.builtin id)) (ha:PA X (e::es) t) (hn:x≠ "__name__" :=by decide) (hdb:(x == ("__debug__" :Str))=false:=by decide)
  (he:starEach (e::es) X.env=(false,eval e X.env)::starEach es X.env:=by rfl)(hpl:(backTo pos (starEach es X.env)).any (·.1)=false:=by rfl):PE X (.Call (.Name x p) (e::es) [] pos) (D8 r t):=by
 intro pins s σ H Q I h
 refine wpAny_Call_Name_kw (nE I hg hm hv ?_ hn hdb)
 exact PyProof.Rows.callWith_builtin1 (dq (ha pos pins s σ H _ I h) fun us s1 ⟨vs,H1,I1,r1,q1⟩=>hc pins s1 σ H1 vs us Q I1 r1 q1) he hpl
theorem xD (hc:d9 X (.type T) r) (hg:Gl X x) (hm:X.mg x=none) (hv:bootBuiltins x=some (.type T)) (ha:PA X (e::es) t) (hn:x≠ "__name__" :=by decide) (hdb:(x == ("__debug__" :Str))=false:=by decide)
  (he:starEach (e::es) X.env=(false,eval e X.env)::starEach es X.env:=by rfl)(hpl:(backTo pos (starEach es X.env)).any (·.1)=false:=by rfl):PE X (.Call (.Name x p) (e::es) [] pos) (D8 r t):=by
 intro pins s σ H Q I h
 refine wpAny_Call_Name_kw (nE I hg hm hv ?_ hn hdb)
 exact PyProof.Rows.callWith_type1 (dq (ha pos pins s σ H _ I h) fun us s1 ⟨vs,H1,I1,r1,q1⟩=>hc pins s1 σ H1 vs us Q I1 r1 q1) he hpl
end
end L2
namespace HT
open PySem PyProof.Rows
def lexLt:List Int→List Int→Bool
 |[],[]=>false
 |[],_::_=>true
 |_::_,[]=>false
 |x::xs,y::ys=>if x=y then lexLt xs ys else decide (x < y)
section
open PySem.SeqAt
open PySem.AutoSeq1 (wpAny_loadPart')
open PySem.MeetsSeq PySem.MeetsSeq2 PySem.MeetsSeq3
end
section
variable {prog:Program}{w:World}{A:Around}{E:Value→Shared→Prop}{s:Shared}
def gu(n d:Nat):Option Int→Nat
 |none=>d
 |some v=>if v < 0 then(v+(n:Int)).toNat else min v.toNat n
theorem f9(n d:Nat):gu n d none=d:=rfl
theorem iW(n d k:Nat):gu n d (some (k:Int))=min k n:=by
 show(if(k:Int) < 0 then((k:Int)+(n:Int)).toNat else min (k:Int).toNat n)=min k n
 rw[if_neg (by omega),Int.toNat_natCast]
theorem C8(n d:Nat)(hd:d≤n)(o:Option Int):gu n d o≤n:=by
 cases o with
 |none=>exact hd
 |some v=>
  show(if v < 0 then(v+(n:Int)).toNat else min v.toNat n)≤n
  by_cases hv:v < 0
  ·rw[if_pos hv];omega
  ·rw[if_neg hv];exact min_le_right _ _
theorem Ba(a b:Nat):((min a b:Nat):Int)=min (a:Int) (b:Int):=by omega
end
end HT
namespace L2
open PySem PySem.Spec PyProof.Rows
abbrev TO:=St→Hp→(Option Int→Hp→Prop)→Prop
def PO(X:Cx)(e:Option Expr)(t:TO):Prop:=
 ∀(pins:List (Addr×Obj)) (s:Shared) (σ:St) (H:Hp) (Q:Option Int→Hp→Prop),Inv X pins σ H s→t σ H Q→
  wpAny (model X.prog X.w) X.A (evalPart e X.env) (fun u s'=>∃o H',Inv X pins σ H' s'∧IsPart u o∧Q o H') X.xe s
def vp:TO:=fun _ H Q=>Q none H
inductive GO(x:V)(H:Hp)(Q:Option Int→Hp→Prop):Prop
 |mk(i:Int)(h:x=.int i)(q:Q (some i) H)
def BQ(t:TE):TO:=fun σ H Q=>t σ H fun x H1=>GO x H1 Q
section
variable {X:Cx}{e:Expr}{te:TE}{lo hi:Option Expr}{tl th:TO}{pos p2:Pos}
theorem Bi:PO X none vp:=by
 intro pins s σ H Q I h
 rw[evalPart_none]
 exact wpAny_pure ⟨none,H,I,.none,h⟩
theorem zZ(h:PE X e te):PO X (some e) (BQ te):=by
 intro pins s σ H Q I hw
 rw[evalPart_some]
 refine dq (h pins s σ H _ I hw) fun u s1 hpat=>?_
 obtain⟨x,H1,I1,r1,q1⟩:=hpat
 obtain⟨i,rfl,q⟩:=q1
 obtain⟨t,rfl⟩:=r1
 exact⟨some i,H1,I1,.int i t,q⟩
def F7(X:Cx)(r:V→Option Int→Option Int→Hp→VK→Prop):Prop:=
 ∀(pins:List (Addr×Obj)) (s:Shared) (σ:St) (H:Hp) (x:V) (v vl vu:Value) (lo hi:Option Int) (sl:Addr) (Q:VK),Inv X pins σ H s→RelV x v→s.heap.IsSliceOf sl vl vu .none→IsPart vl lo→IsPart vu hi→r x lo hi H Q→
  ∃T id,typeLookup (.type T) "__getitem__" =pure (some (.builtin id))∧s.TypeIs v T∧wpAny (model X.prog X.w) X.A (getItem v (.ref sl)) (EP X pins σ Q) X.xe s
def Ii(r:V→Option Int→Option Int→Hp→VK→Prop)(te:TE)(tl th:TO):TE:=fun σ H Q=>te σ H fun x H1=>tl σ H1 fun l H2=>th σ H2 fun u H3=>r x l u H3 Q
theorem yr{r:V→Option Int→Option Int→Hp→VK→Prop}(hr:F7 X r)(he:PE X e te)(hl:PO X lo tl)(hu:PO X hi th):PE X (.Subscript e (.Slice lo hi none p2) pos) (Ii r te tl th):=by
 intro pins s σ H Q I h
 refine Subscript_ (dq (he pins s σ H _ I h) fun v s1 hpat=>?_)
 obtain⟨x,H1,I1,r1,q1⟩:=hpat
 refine wpAny_Slice (dq (hl pins s1 σ H1 _ I1 q1) fun vl s2 ⟨l,H2,I2,pl,q2⟩=>dq (hu pins s2 σ H2 _ I2 q2) fun vu s3 hpat=>?_)
 obtain⟨u,H3,I3,pu,q3⟩:=hpat
 rw[evalPart_none]
 refine wpAny_pure ?_
 have I4:Inv X pins σ H3 { s3 with heap:=s3.heap.push { cls:=.type "slice",data:=.fields #[vl,vu,.none] } }:=I3.kept (t':=s3.toks) fun b ob q=>get?_push_of_some _ q
 obtain⟨T,id,hT,ht,hg⟩:=hr pins { s3 with heap:=s3.heap.push { cls:=.type "slice",data:=.fields #[vl,vu,.none] } } σ H3 x v vl vu l u s3.heap.objs.size Q I4 r1 (Heap.IsSliceOf.new ..) pl pu q3
 show wpAny (model X.prog X.w) X.A (subscriptTail e (.Slice lo hi none p2) v (.ref s3.heap.objs.size)) (EP X pins σ Q) X.xe { s3 with heap:=s3.heap.push { cls:=.type "slice",data:=.fields #[vl,vu,.none] } }
 exact tail_any (ops:=[.ref s3.heap.objs.size,v]) ht hT hg (by with_unfolding_all rfl)
def dz(xs:List V)(lo hi:Option Int):List V:=(xs.drop (HT.gu xs.length 0 lo)).take (HT.gu xs.length xs.length hi - HT.gu xs.length 0 lo)
theorem ll(xs:List V)(lo hi:Option Int):(dz xs lo hi).length≤xs.length:=by
 unfold dz
 rw[length_take,length_drop]
 exact le_trans (min_le_right _ _) (Nat.sub_le _ _)
def J5(K:PySem.W.Frag):V→Option Int→Option Int→Hp→VK→Prop:=fun x lo hi H Q=>∃a xs,x=.ref a∧c8 K H a xs∧
 ¬(HT.gu xs.length 0 lo=0∧HT.gu xs.length xs.length hi=xs.length)∧∀p,H p=none→Q (.ref p) (upd H p (.tup (dz xs lo hi)))
def Jw(K:PySem.W.Frag):R2:=fun x y H Q=>∃a b ns ms,x=.ref a∧y=.ref b∧c8 K H a (ns.map V.int)∧c8 K H b (ms.map V.int)∧Q (.bl (HT.lexLt ns ms)) H
def Ie(K:PySem.W.Frag):R2:=fun x y H Q=>∃a b xs ys,x=.ref a∧y=.ref b∧c8 K H a xs∧c8 K H b ys∧xs≠[]∧xs.length+ys.length≤sizeLine∧
 (ys=[]→Q (.ref a) H)∧(ys≠[]→∀p,H p=none→Q (.ref p) (upd H p (.tup (xs++ys))))
end
end L2
namespace L2
open PySem PySem.Spec PyProof.Rows
def DD(n:Nat)(i:Int):Option Nat:=if 0≤i then(if i < n then some i.toNat else none) else if -(n:Int)≤i then some (i+n).toNat else none
def um{α:Type}(xs:List α)(i:Int):Option α:=(DD xs.length i).bind fun j=>xs[j]?
theorem AM{n:Nat}{i:Int}{j:Nat}(h:DD n i=some j):seqIndex? i n=some j∧j < n∧ -(n:Int)≤i∧i < n:=by
 unfold DD at h
 by_cases h0:0≤i
 ·rw[if_pos h0]at h
  by_cases h1:i < n
  ·rw[if_pos h1]at h
   have e:i.toNat=j:=Option.some.inj h
   exact⟨by rw[seqIndex_of h0 h1,e],by omega,by omega,h1⟩
  ·rw[if_neg h1]at h;cases h
 ·rw[if_neg h0]at h
  by_cases h1: -(n:Int)≤i
  ·rw[if_pos h1]at h
   have e:(i+n).toNat=j:=Option.some.inj h
   exact⟨by rw[seqIndex_neg (by omega) h1,e],by omega,h1,by omega⟩
  ·rw[if_neg h1]at h;cases h
theorem pO{α:Type}{xs:List α}{i:Int}{v:α}(h:um xs i=some v):∃j,seqIndex? i xs.length=some j∧xs[j]? =some v∧j < xs.length∧ -(xs.length:Int)≤i∧i < xs.length:=by
 unfold um at h
 cases e:DD xs.length i with
 |none=>rw[e]at h;cases h
 |some j=>
  rw[e]at h
  obtain⟨h1,h2,h3,h4⟩:=AM e
  exact⟨j,h1,h,h2,h3,h4⟩
theorem dv{α:Type}{xs:List α}{j:Nat}{v:α}(h:xs[j]? =some v):um xs (j:Int)=some v:=by
 have hj:j < xs.length:=(List.getElem?_eq_some_iff.mp h).1
 have e:DD xs.length (j:Int)=some j:=by
  unfold DD
  rw[if_pos (by omega),if_pos (by omega)];simp
 unfold um;rw[e];exact h
def dU(b:Expr):Prop:=∀o i,subscripted b false o i=operate [o,i] (getItem o i)
def ED(X:Cx)(r:R2):Prop:=
 ∀(value slice:Expr) (pins:List (Addr×Obj)) (s:Shared) (σ:St) (H:Hp) (x y:V) (v u:Value) (Q:VK),Inv X pins σ H s→RelV x v→RelV y u→r x y H Q→
  subscripted slice false v u=operate [v,u] (getItem v u)→wpAny (model X.prog X.w) X.A (subscriptTail value slice v u) (EP X pins σ Q) X.xe s
def F2(X:Cx)(id:String)(r:V→List V→Hp→VK→Prop):Prop:=
 ∀(pins:List (Addr×Obj)) (s:Shared) (σ:St) (H:Hp) (x:V) (xs:List V) (v:Value) (us:List Value) (Q:VK),Inv X pins σ H s→RelV x v→Vals xs us→r x xs H Q→
  wpAny (model X.prog X.w) X.A (call (.builtin id) (v::us)) (EP X pins σ Q) X.xe s
section
variable {X:Cx}{a b:Expr}{ta tb:TE}{pos:Pos}
theorem EK{r:R2}(hr:ED X r)(ha:PE X a ta)(hb:PE X b tb)(hs:dU b):PE X (.Subscript a b pos) (uZ r ta tb):=by
 intro pins s σ H Q I h
 exact Subscript_ (Cg ha hb I h fun v u s2 x y H2 I2 rx ry q=>hr a b pins s2 σ H2 x y v u Q I2 rx ry q (hs _ _))
inductive Gg(S:Addr→List V→Prop)(x y:V)(H:Hp)(Q:VK):Prop
 |mk(p:Addr)(xs:List V)(i:Int)(v:V)(hx:x=.ref p)(hy:y=.int i)(s:S p xs)(e:um xs i=some v)(q:Q v H)
inductive Gr(x y:V)(H:Hp)(Q:VK):Prop
 |mk(z:Str)(i:Int)(c:Nat)(hx:x=.str z)(hy:y=.int i)(s:z.length≤sizeLine)(e:um z.cps.toList i=some c)(q:Q (.str ⟨#[c]⟩) H)
theorem xT{K:PySem.W.Frag}{H:Hp}{p:Addr}{xs:List V}{i:Int}{v:V}{Q:VK}(h:H p=some (.tup xs))(e:um xs i=some v)(q:Q v H):Gg (c8 K H) (.ref p) (.int i) H Q:=⟨p,xs,i,v,rfl,rfl,c8.of h,e,q⟩
theorem xL{K:PySem.W.Frag}{H:Hp}{p:Addr}{xs:List V}{i:Int}{v:V}{Q:VK}(h:H p=some (.lst xs))(e:um xs i=some v)(q:Q v H):Gg (cL K H) (.ref p) (.int i) H Q:=⟨p,xs,i,v,rfl,rfl,cL.of h,e,q⟩
def x6(K:PySem.W.Frag):R2:=fun x y H Q=>Gg (cL K H) x y H Q
def A7(K:PySem.W.Frag):R2:=fun x y H Q=>Gg (c8 K H) x y H Q
def C6:R2:=fun x y H Q=>Gr x y H Q
theorem qA:ED X (x6 X.K):=by
 intro value slice pins s σ H x y v u Q I rx ry h hs
 obtain⟨p,xs,i,z,rfl,rfl,hq,he,q⟩:=h
 cases rx
 obtain⟨t,rfl⟩:=ry
 obtain⟨its,r,pl,hz⟩:=I.list hq
 obtain⟨j,h1,h2,h3,h4,h5⟩:=pO he
 obtain⟨w,ew,rw'⟩:=r.get h2
 have hl:=r.length
 have hn:=nB
 have fin:EP X pins σ Q w s:=⟨z,H,I,rw',q⟩
 by_cases h0:0≤i
 ·have hj:i.toNat=j:=by
   rw[seqIndex_of h0 h5]at h1
   exact Option.some.inj h1
  exact item_listR pl.isList h0 (by omega) (by rw[hj];simpa using ew) fin hs
 ·have hj:(i+(its.toArray.size:Int)).toNat=j:=by
   rw[seqIndex_neg (by omega) h4]at h1
   rw[size_toArray,←hl]
   exact Option.some.inj h1
  exact subscriptTail_builtinR (x:=w) pl.isList.typeIs slot_list_getitem.lookup
   (wpAny_getItem_list_neg (Q:=fun r s'=>r=w∧EP X pins σ Q r s') pl.isList (by omega) (by rw[size_toArray]<;>omega) (by omega) (by rw[hj];simpa using ew) ⟨rfl,fin⟩) hs
theorem yh:ED X (A7 X.K):=by
 intro value slice pins s σ H x y v u Q I rx ry h hs
 obtain⟨p,xs,i,z,rfl,rfl,hq,he,q⟩:=h
 cases rx
 obtain⟨t,rfl⟩:=ry
 obtain⟨its,r,pl,hz⟩:=I.tuple hq
 obtain⟨j,h1,h2,h3,h4,h5⟩:=pO he
 obtain⟨w,ew,rw'⟩:=r.get h2
 have hl:=r.length
 have hn:=nB
 have fin:EP X pins σ Q w s:=⟨z,H,I,rw',q⟩
 exact subscriptTail_builtinR (x:=w) pl.typeIs slot_tuple_getitem.lookup
  (getItem_tuple (j:=j) (Q:=fun r s'=>r=w∧EP X pins σ Q r s') pl (by omega) (by omega) (by rw[size_toArray,←hl];exact h1) (by simpa using ew) ⟨rfl,fin⟩) hs
theorem m8:ED X C6:=by
 intro value slice pins s σ H x y v u Q I rx ry h hs
 obtain⟨z,i,c,rfl,rfl,hz,he,q⟩:=h
 obtain⟨t,rfl⟩:=rx
 obtain⟨t',rfl⟩:=ry
 obtain⟨j,h1,h2,h3,h4,h5⟩:=pO he
 have hl:z.cps.toList.length=z.length:=by simp[Str.length]
 rw[hl]at h1 h4 h5
 have hn:=nB
 exact tail_any (typeIs_str s z t) slot_str_getitem.lookup (getItem_str (c:=c) (by
  have e1:decide (i < -(2 ^ 63:Int))=false:=decide_eq_false (by omega)
  have e2:decide (i ≥ 2 ^ 63)=false:=decide_eq_false (by omega)
  rw[e1,e2,Bool.or_false]) (by rw[h1];simpa using h2) ⟨.str ⟨#[c]⟩,H,I.tok _,⟨_,rfl⟩,q⟩) hs
def Ko(K:PySem.W.Frag):R2:=fun x y H Q=>x6 K x y H Q∨A7 K x y H Q∨C6 x y H Q
inductive Hq(o i v:V)(H:Hp)(Q:Hp→Prop):Prop
 |mk(p:Addr)(xs:List V)(k:Int)(j:Nat)(ho:o=.ref p)(hi:i=.int k)(s:H p=some (.lst xs))(e:DD xs.length k=some j)(q:Q (upd H p (.lst (xs.set j v))))
def HP:V→V→V→Hp→(Hp→Prop)→Prop:=fun o i v H Q=>Hq o i v H Q
theorem zr(v:Int)(n d:Nat):max 0 (min (if v < 0 then v+(n:Int) else v) (n:Int))=((HT.gu n d (some v):Nat):Int):=by
 show _=(((if v < 0 then(v+(n:Int)).toNat else min v.toNat n):Nat):Int)
 by_cases hv:v < 0
 ·rw[if_pos hv,if_pos hv,Int.toNat_eq_max,Int.max_comm,Int.min_eq_left (by omega)]
 ·rw[if_neg hv,if_neg hv,HT.Ba,Int.toNat_of_nonneg (Int.not_lt.mp hv)]
  exact Int.max_eq_right (Int.le_min.mpr ⟨Int.not_lt.mp hv,Int.natCast_nonneg n⟩)
theorem pk(lo hi:Option Int)(n:Nat):(sliceBounds lo hi none n).1=((HT.gu n 0 lo:Nat):Int)∧(sliceBounds lo hi none n).2.1=((HT.gu n n hi:Nat):Int)∧(sliceBounds lo hi none n).2.2=1:=by
 refine⟨?_,?_,rfl⟩
 ·cases lo with
  |none=>simp[sliceBounds,HT.gu]
  |some i=>
   simp only[sliceBounds,getD_none,show(1:Int) > 0 by decide,if_true]
   exact zr i n 0
 ·cases hi with
  |none=>simp[sliceBounds,HT.gu]
  |some i=>
   simp only[sliceBounds,getD_none,show(1:Int) > 0 by decide,if_true]
   exact zr i n n
theorem oe(its:List Value)(lo hi:Option Int):slicePick its.toArray lo hi none=((its.drop (HT.gu its.length 0 lo)).take (HT.gu its.length its.length hi - HT.gu its.length 0 lo)).toArray:=by
 obtain⟨h1,h2,h3⟩:=pk lo hi its.toArray.size
 unfold slicePick
 rw[h1,h2,h3]
 simp only[sliceRange_one,pick_run,size_toArray]<;>rfl
inductive J4(K:PySem.W.Frag)(x:V)(lo hi:Option Int)(H:Hp)(Q:VK):Prop
 |mk(a:Addr)(xs:List V)(hx:x=.ref a)(s:cL K H a xs)(q:∀p,H p=none→Q (.ref p) (upd H p (.lst (dz xs lo hi))))
def EG(K:PySem.W.Frag):V→Option Int→Option Int→Hp→VK→Prop:=fun x lo hi H Q=>J4 K x lo hi H Q
theorem Bo:F7 X (EG X.K):=by
 intro pins s σ H x v vl vu lo hi sl Q I rx hs pl pu h
 obtain⟨a,xs,rfl,hx,q⟩:=h
 cases rx
 obtain⟨its,r,ht,hz⟩:=I.list hx
 have hlen:=r.length
 refine⟨"list",_,slot_list_getitem.lookup,ht.isList.typeIs,?_⟩
 refine wpAny_getItem_list_slice ht.isList hs pl pu .none (by simp) ?_ (by rw[size_toArray]<;>omega)
 rw[oe,←hlen]
 refine⟨.ref s.heap.objs.size,_,I.laid (t':=s.toks) (o:=.lst (dz xs lo hi)) (fun b ob q=>get?_push_of_some _ q) (le_refl _) ?_,rfl,q _ (I.hok.fresh (le_refl _))⟩
 exact⟨le_trans (ll xs lo hi) hz,_,0,(r.drop (HT.gu xs.length 0 lo)).take (HT.gu xs.length xs.length hi - HT.gu xs.length 0 lo),get?_push_size _ rfl⟩
def de:V→Bool
 |.non=>true
 |.bl _=>true
 |.int _=>true
 |.str _=>true
 |_=>false
def qE:V→V→Bool
 |.non,.non=>true
 |.bl a,.bl b=>a == b
 |.bl a,.int b=>(if a then 1 else 0) == b
 |.int a,.bl b=>a == (if b then 1 else 0)
 |.int a,.int b=>a == b
 |.str a,.str b=>a == b
 |_,_=>false
theorem tN{A:Around}{s:Shared}{y x:V}{u v:Value}(ry:RelV y u)(rx:RelV x v)(fy:de y=true)(fx:de x=true):SeqAt.EqAt A s u v (qE y x):=by
 cases y with
 |non=>
  cases ry
  cases x with
  |non=>cases rx;exact SeqAt.EqAt.same _
  |bl b=>cases rx;exact SeqAt.EqAt.none_bool b
  |int b=>obtain⟨t,rfl⟩:=rx;exact SeqAt.EqAt.none_int b t
  |str b=>obtain⟨t,rfl⟩:=rx;exact SeqAt.EqAt.none_str b t
  |_=>exact absurd (show false=true from fx) Bool.false_ne_true
 |bl a=>
  cases ry
  cases x with
  |non=>cases rx;exact SeqAt.EqAt.bool_none a
  |bl b=>cases rx;exact SeqAt.EqAt.bool_bool a b
  |int b=>obtain⟨t,rfl⟩:=rx;exact SeqAt.EqAt.bool_int a b t
  |str b=>obtain⟨t,rfl⟩:=rx;exact SeqAt.EqAt.bool_str a b t
  |_=>exact absurd (show false=true from fx) Bool.false_ne_true
 |int a=>
  obtain⟨t',rfl⟩:=ry
  cases x with
  |non=>cases rx;exact SeqAt.EqAt.int_none a t'
  |bl b=>cases rx;exact SeqAt.EqAt.int_bool a t' b
  |int b=>obtain⟨t,rfl⟩:=rx;exact SeqAt.EqAt.int_int a t' b t
  |str b=>obtain⟨t,rfl⟩:=rx;exact SeqAt.EqAt.int_str a t' b t
  |_=>exact absurd (show false=true from fx) Bool.false_ne_true
 |str a=>
  obtain⟨t',rfl⟩:=ry
  cases x with
  |non=>cases rx;exact SeqAt.EqAt.str_none a t'
  |bl b=>cases rx;exact SeqAt.EqAt.str_bool a t' b
  |int b=>obtain⟨t,rfl⟩:=rx;exact SeqAt.EqAt.str_int a t' b t
  |str b=>obtain⟨t,rfl⟩:=rx;exact SeqAt.EqAt.str_str a t' b t
  |_=>exact absurd (show false=true from fx) Bool.false_ne_true
 |_=>exact absurd (show false=true from fy) Bool.false_ne_true
def ui(x:V)(u:Value):Bool:=match u with
 |.none=>qE .non x
 |.bool b=>qE (.bl b) x
 |.int i _=>qE (.int i) x
 |.str z _=>qE (.str z) x
 |_=>false
theorem zy{x y:V}{u:Value}(r:RelV y u)(f:de y=true):ui x u=qE y x:=by
 cases y with
 |non=>cases r;rfl
 |bl b=>cases r;rfl
 |int i=>obtain⟨t,rfl⟩:=r;rfl
 |str z=>obtain⟨t,rfl⟩:=r;rfl
 |_=>exact absurd (show false=true from f) Bool.false_ne_true
theorem jG{x:V}:∀{xs:List V}{us:List Value},Vals xs us→xs.all de=true→us.any (ui x)=xs.any fun y=>qE y x
 |_,_,.nil,_=>rfl
 |y::xs,u::us,.cons r t,f=>by
  rw[all_cons,and_eq_true]at f
  rw[any_cons,any_cons,zy r f.1,jG t f.2]
theorem iE{A:Around}{s:Shared}{x:V}{v:Value}(rx:RelV x v)(fx:de x=true):∀{xs:List V}{us:List Value},Vals xs us→xs.all de=true→∀u∈us,SeqAt.EqAt A s u v (ui x u)
 |_,_,.nil,_=>fun u hu=>by cases hu
 |y::xs,u::us,.cons r t,f=>fun u' hu=>by
  rw[all_cons,and_eq_true]at f
  rcases mem_cons.mp hu with rfl|hu
  ·rw[zy r f.1];exact tN r rx f.1 fx
  ·exact iE rx fx t f.2 u' hu
def tG(x:V)(xs:List V):Bool:=xs.any fun y=>qE y x
inductive JR(K:PySem.W.Frag)(neg:Bool)(x y:V)(H:Hp)(Q:VK):Prop
 |mk(p:Addr)(xs:List V)(hy:y=.ref p)(s:cL K H p xs∨c8 K H p xs)(f:de x=true)(fs:xs.all de=true)(q:Q (.bl (if neg then !tG x xs else tG x xs)) H)
def E1(K:PySem.W.Frag)(neg:Bool):R2:=fun x y H Q=>JR K neg x y H Q
theorem iQ:gX X (compareOp .In) (E1 X.K false):=by
 intro pins s σ H x y v u Q I rx ry h
 obtain⟨p,xs,rfl,hq,fx,fs,q⟩:=h
 cases ry
 rcases hq with hq|hq
 ·obtain⟨its,r,pl,hz⟩:=I.list hq
  refine SeqAt.in_listAt (ui x) pl.isList (fun w hw=>iE rx fx r fs w (by simpa using hw)) ⟨.bl _,H,I,rfl,?_⟩
  rw[show its.toArray.any (ui x)=its.any (ui x) by simp,jG r fs]
  exact q
 ·obtain⟨its,r,pl,hz⟩:=I.tuple hq
  refine SeqAt.in_tupleAt (ui x) pl (fun w hw=>iE rx fx r fs w (by simpa using hw)) ⟨.bl _,H,I,rfl,?_⟩
  rw[show its.toArray.any (ui x)=its.any (ui x) by simp,jG r fs]
  exact q
theorem ei:gX X (compareOp .NotIn) (E1 X.K true):=by
 intro pins s σ H x y v u Q I rx ry h
 obtain⟨p,xs,rfl,hq,fx,fs,q⟩:=h
 cases ry
 rcases hq with hq|hq
 ·obtain⟨its,r,pl,hz⟩:=I.list hq
  refine SeqAt.notIn_listAt (ui x) pl.isList (fun w hw=>iE rx fx r fs w (by simpa using hw)) ⟨.bl _,H,I,rfl,?_⟩
  rw[show its.toArray.any (ui x)=its.any (ui x) by simp,jG r fs]
  exact q
 ·obtain⟨its,r,pl,hz⟩:=I.tuple hq
  refine SeqAt.notIn_tupleAt (ui x) pl (fun w hw=>iE rx fx r fs w (by simpa using hw)) ⟨.bl _,H,I,rfl,?_⟩
  rw[show its.toArray.any (ui x)=its.any (ui x) by simp,jG r fs]
  exact q
inductive E2(K:PySem.W.Frag)(xs:List V)(H:Hp)(Q:VK):Prop
 |mk(p:Addr)(ys:List V)(e:xs=[.ref p])(s:cL K H p ys∨c8 K H p ys)(q:Q (.int ys.length) H)
theorem pQ:d9 X (.builtin "len") (fun xs H Q=>L2.E2 X.K xs H Q):=by
 intro pins s σ H xs us Q I r h
 obtain⟨p,ys,rfl,hq,q⟩:=h
 obtain⟨u,rfl,rx⟩:=vals1 r
 cases rx
 have hn:=nB
 rcases hq with hq|hq
 ·obtain⟨its,r',pl,hz⟩:=I.list hq
  have hlen:=r'.length
  exact Calls.call_len_list pl.isList (by simp only[size_toArray]<;>omega) ⟨.int ys.length,H,I.tok _,⟨s.toks+1,by rw[size_toArray,hlen]⟩,q⟩
 ·obtain⟨its,r',pl,hz⟩:=I.tuple hq
  have hlen:=r'.length
  exact len_tuple pl (by simp only[size_toArray]<;>omega) ⟨.int ys.length,H,I.tok _,⟨s.toks+1,by rw[size_toArray,hlen]⟩,q⟩
theorem qv:d9 X (.builtin "len") (fun xs H Q=>∃z,xs=[.str z]∧z.length≤sizeLine∧Q (.int z.length) H):=by
 intro pins s σ H xs us Q I r h
 obtain⟨z,rfl,hz,q⟩:=h
 obtain⟨u,rfl,t,rfl⟩:=vals1 r
 have hn:=nB
 exact len_str (by omega) ⟨.int z.length,H,I.tok _,⟨_,rfl⟩,q⟩
theorem qr:d9 X (.type "list") (fun xs H Q=>∃p ys,xs=[.ref p]∧(cL X.K H p ys∨c8 X.K H p ys)∧∀l,H l=none→Q (.ref l) (upd H l (.lst ys))):=by
 intro pins s σ H xs us Q I r h
 obtain⟨p,ys,rfl,hq,q⟩:=h
 obtain⟨u,rfl,rx⟩:=vals1 r
 cases rx
 have fin:∀(its:List Value),Vals ys its→ys.length≤sizeLine→∀(h':Heap) (c':Nat),(∀b o',s.heap.get? b=some o'→h'.get? b=some o')→
   h'.get? s.heap.objs.size=some { cls:=.type "list",dict:=none,data:=.seq its.toArray c',slots:= #[] }→EP X pins σ Q (.ref s.heap.objs.size) { s with heap:=h' }:=fun its r' hz h' c' kp e=>
  ⟨.ref s.heap.objs.size,_,I.laid (t':=s.toks) kp (le_refl _) (show df X.prog X.w _ h' _ (.lst ys) from ⟨hz,its,c',r',e⟩),rfl,q _ (I.hok.fresh (le_refl _))⟩
 rcases hq with hq|hq
 ·obtain⟨its,r',pl,hz⟩:=I.list hq
  have hlen:=r'.length
  obtain⟨o,ho,hc,n,hd⟩:=pl.isList
  exact call_list_seq p (.inl rfl) ho hc hd (fun h' c' kp e=>fin its r' hz h' c' kp e) (by simp only[size_toArray]<;>omega)
 ·obtain⟨its,r',pl,hz⟩:=I.tuple hq
  have hlen:=r'.length
  obtain⟨o,ho,hc,n,hd⟩:=pl
  exact call_list_seq p (.inr rfl) ho hc hd (fun h' c' kp e=>fin its r' hz h' c' kp e) (by simp only[size_toArray]<;>omega)
theorem fO:d9 X (.type "tuple") (fun xs H Q=>∃p ys,xs=[.ref p]∧((cL X.K H p ys∧∀l,H l=none→Q (.ref l) (upd H l (.tup ys)))∨(c8 X.K H p ys∧Q (.ref p) H))):=by
 intro pins s σ H xs us Q I r h
 obtain⟨p,ys,rfl,h⟩:=h
 obtain⟨u,rfl,rx⟩:=vals1 r
 cases rx
 rcases h with ⟨hq,q⟩|⟨hq,q⟩
 ·obtain⟨its,r',pl,hz⟩:=I.list hq
  have hlen:=r'.length
  refine call_tuple_list pl.isList (fun h' kp=>?_) (by simp only[size_toArray]<;>omega)
  have I1:Inv X pins σ H { s with heap:=h' }:=I.kept (t':=s.toks) kp
  have I2:Inv X pins σ (upd H h'.objs.size (.tup ys)) { s with heap:=h'.push { cls:=.type "tuple",data:=.seq its.toArray } }:=
   I1.laid (t':=s.toks) (fun b o e=>get?_push_of_some _ e) (le_refl _) (show df X.prog X.w _ _ _ (.tup ys) from ⟨hz,its,r',IsTup.new _ _⟩)
  exact⟨.ref h'.objs.size,_,I2,rfl,q _ (I1.hok.fresh (le_refl _))⟩
 ·obtain⟨its,r',pl,hz⟩:=I.tuple hq
  exact call_tuple_same pl ⟨.ref p,H,I,rfl,q⟩
def HG(K:PySem.W.Frag)(T:String)(x:V)(H:Hp):Prop:=match x with
 |.str _=>T= "str"
 |.int _=>T= "int"
 |.ref p=>(T= "list" ∧∃xs,cL K H p xs)∨(T= "tuple" ∧∃o,K.lookup p=some o∧o.cls=.type "tuple" ∧o.dict=none)∨
   (T= "dict" ∧((∃kvs,H p=some (.dK kvs))∨∃kvs,H p=some (.dT kvs)))∨(T= "set" ∧∃S n,H p=some (.set S n))
 |_=>False
theorem BX{pins:List (Addr×Obj)}{σ:St}{H:Hp}{s:Shared}{T:String}{x:V}{v:Value}(I:Inv X pins σ H s)(r:RelV x v)(ty:HG X.K T x H):
  s.TypeIs v T∧∀a,v=.ref a→∃ob,s.heap.get? a=some ob∧ob.dict=none:=by
 cases x with
 |str z=>
  obtain⟨t,rfl⟩:=r
  cases (show T= "str" from ty)
  exact⟨typeIs_str s z t,fun _ e=>nomatch e⟩
 |int i=>
  obtain⟨t,rfl⟩:=r
  cases (show T= "int" from ty)
  exact⟨typeIs_int s i t,fun _ e=>nomatch e⟩
 |ref p=>
  cases r
  rcases ty with ⟨rfl,xs,hq⟩|⟨rfl,o,hk,hc,hd⟩|⟨rfl,hk⟩|⟨rfl,S,n,hk⟩
  ·obtain⟨its,_,pl,_⟩:=I.list hq
   refine⟨pl.isList.typeIs,fun a e=>?_⟩
   cases e
   obtain⟨o,n,e,c,hd,_⟩:=pl
   exact⟨o,e,hd⟩
  ·refine⟨⟨o,I.lC p o hk,hc⟩,fun a e=>?_⟩
   cases e
   exact⟨o,I.lC _ o hk,hd⟩
  ·have z:∃o,s.heap.get? p=some o∧o.ExactDict:=by
    rcases hk with ⟨kvs,hk⟩|⟨kvs,hk⟩
    ·obtain⟨_,_,_,_,o,_,_,e,ex,_⟩:=I.hok p _ hk
     exact⟨o,e,ex⟩
    ·obtain⟨_,_,_,_,o,_,_,e,ex,_⟩:=I.hok p _ hk
     exact⟨o,e,ex⟩
   obtain⟨o,e,ex⟩:=z
   refine⟨⟨o,e,ex.1⟩,fun a e2=>?_⟩
   cases e2
   exact⟨o,e,ex.2.1⟩
  ·obtain⟨o,_,_,_,e,ex,_⟩:=I.hok p _ hk
   refine⟨⟨o,e,ex.1⟩,fun a e2=>?_⟩
   cases e2
   exact⟨o,e,ex.2.1⟩
 |_=>exact False.elim ty
def IX(K:PySem.W.Frag)(T:String)(r:V→List V→Hp→VK→Prop)(to:TE):TE:=fun σ H Q=>to σ H fun x H1=>HG K T x H1∧r x [] H1 Q
def HQ(K:PySem.W.Frag)(T:String)(r:V→List V→Hp→VK→Prop)(to:TE)(t:TA):TE:=fun σ H Q=>to σ H fun x H1=>HG K T x H1∧t σ H1 fun xs H2=>r x xs H2 Q
variable {o e:Expr}{es:List Expr}{to:TE}{t:TA}{name:Str}{apos cpos:Pos}{T id:String}{r:V→List V→Hp→VK→Prop}
theorem Ez (pa:PlainAttrs T) (slot:Slot T name id) (hty:typeOf (.builtin id)=pure (.type "method_descriptor")) (hm:F2 X id r) (ho:PE X o to) (ha:PA X (e::es) t)
  (hbase:attributeBase o name X.env (eval o X.env)=eval o X.env:=by rfl)
  (hfew:((backTo cpos (starEach (e::es) X.env)).all (fun x=> !x.1) && (backToKw cpos (keywordEach [] X.env)).all (fun x=>x.1.isSome)
   && decide ((e::es).length+([]:List Keyword).length+(if([]:List Keyword).isEmpty then 0 else 1) < 30))=true:=by rfl)
  (hline:(apos.endLine == cpos.line)=true:=by rfl) (hs:starEach (e::es) X.env=(false,eval e X.env)::starEach es X.env:=by rfl) (hplain:(backTo cpos (starEach es X.env)).any (·.1)=false:=by rfl):
  PE X (.Call (.Attribute o name apos) (e::es) [] cpos) (HQ X.K T r to t):=by
 intro pins s σ H Q I h
 refine wpAny_Call_method_late hbase hfew hline rfl (dq (ho pins s σ H _ I h) fun v s1 hpat=>?_)
 obtain⟨x,H1,I1,r1,ty,q1⟩:=hpat
 obtain⟨h1,h2⟩:=BX I1 r1 ty
 refine⟨T,id,pa,slot,hty,h1,h2,?_⟩
 have hA:=ha cpos pins s1 σ H1 _ I1 q1
 rw[hs]at hA ⊢
 refine Calls.callWith_builtin (by show(false || (backTo cpos (starEach es X.env)).any (·.1))=false;rw[hplain]<;>rfl) (Calls.evalArgs_plain ?_)
 exact dq hA fun us s2 ⟨vs,H2,I2,r2,q2⟩=>hm pins s2 σ H2 x vs v us Q I2 r1 r2 q2
end
end L2
namespace L2
open PySem PySem.Spec PyProof.Rows
def IK(X:Cx)(id:String)(r:V→List V→Hp→VK→Prop):Prop:=
 ∀(pins:List (Addr×Obj)) (s:Shared) (σ:St) (H:Hp) (x:V) (xs:List V) (v:Value) (us:List Value) (Q:VK),Inv X pins σ H s→RelV x v→Vals xs us→r x xs H Q→
  wpAny (model X.prog X.w) X.A (call (.builtin id) (v::us)) (EP X pins σ Q) X.xe s
theorem Vals.one:∀{x:V}{us:List Value},Vals [x] us→∃u,us=[u]∧RelV x u
 |_,_,.cons r .nil=>⟨_,rfl,r⟩
theorem Vals.zero:∀{us:List Value},Vals [] us→us=[]
 |_,.nil=>rfl
section
variable {X:Cx}{pins:List (Addr×Obj)}{σ:St}{H:Hp}{s:Shared}{l b:Addr}{xs ys zs:List V}
theorem Inv.GR{its its':List Value}{n:Nat}{f:Array Value→Array Value}{t':Nat}(I:Inv X pins σ H s)(hH:H l=some (.lst xs))
  (e:s.heap.get? l=some { cls:=.type "list",data:=.seq its.toArray n }) (hf:f its.toArray=its'.toArray) (hv:Vals ys its') (hz:ys.length≤sizeLine):
  Inv X pins σ (upd H l (.lst ys)) { s with heap:=s.heap.update l (Obj.mapSeq f),toks:=t' }:=by
 have q:=PySem.IsL.update e f
 rw[hf]at q
 refine I.write (x:=l) (e:=l) (by rw[hH];exact trivial) (.inl rfl) (fun b' u hb hu=>(Heap.get?_update_other s.heap (Obj.mapSeq f) (Ne.symm hb)).trans hu) ⟨_,q⟩ ?_
 exact⟨hz,its',_,hv,q⟩
theorem Inv.GV{its:List Value}{t':Nat}(I:Inv X pins σ H s)(hv:Vals ys its)(hz:ys.length≤sizeLine):
  Inv X pins σ (upd H s.heap.objs.size (.lst ys)) { s with heap:=s.heap.push { cls:=.type "list",data:=.seq its.toArray },toks:=t' }:=
 I.laid (fun _ _ q=>get?_push_of_some _ q) (le_refl _) ⟨hz,its,0,hv,get?_push_size _ rfl⟩
theorem Inv.fresh(I:Inv X pins σ H s):H s.heap.objs.size=none:=I.hok.fresh (le_refl _)
theorem Inv.GZ(I:Inv X pins σ H s)(hH:H l=some (.lst xs)):xs.length≤sizeLine∧∃(its:List Value) (n:Nat),Vals xs its∧xs.length=its.length∧s.heap.get? l=some { cls:=.type "list",data:=.seq its.toArray n }:=by
 obtain⟨z,its,n,r,e⟩:=I.hok l _ hH
 exact⟨z,its,n,r,r.length,e⟩
end
section
variable {X:Cx}
inductive Gu(x:V)(vs:List V)(H:Hp)(Q:VK):Prop
 |mk(l:Addr)(xs:List V)(y:V)(hx:x=.ref l)(hv:vs=[y])(s:H l=some (.lst xs))(b:xs.length < sizeLine)(q:Q .non (upd H l (.lst (xs++[y]))))
def u5:V→List V→Hp→VK→Prop:=fun x vs H Q=>Gu x vs H Q
theorem o6:IK X "list.append" u5:=by
 intro pins s σ H x vs v us Q I rx rv h
 obtain⟨l,xs,y,rfl,rfl,hH,hz,q⟩:=h
 cases rx
 obtain⟨u,rfl,ru⟩:=rv.one
 obtain⟨z,its,n,r,hl,e⟩:=I.GZ hH
 refine call_meets F.slot_list_append ⟨_,e,rfl⟩ F.entry_list_append (F.args_list_append_2 _ _) (PySem.list_append l its.toArray n u (by rw[size_toArray];omega)) ⟨e,?_⟩
 refine⟨.non,_,I.GR (its':=its++[u]) hH e (by simp) (r.append (.cons ru .nil)) ?_,rfl,q⟩
 rw[length_append,List.length_singleton]
 omega
def Gj:V→List V→Hp→VK→Prop:=fun x vs H Q=>∃l b xs zs,x=.ref l∧vs=[.ref b]∧H l=some (.lst xs)∧H b=some (.lst zs)∧xs.length+zs.length≤sizeLine∧Q .non (upd H l (.lst (xs++zs)))
def Ji:V→List V→Hp→VK→Prop:=fun x vs H Q=>∃l xs y,x=.ref l∧vs=[]∧H l=some (.lst xs)∧xs[xs.length - 1]? =some y∧Q y (upd H l (.lst xs.dropLast))
def HF:V→List V→Hp→VK→Prop:=fun x vs H Q=>∃l xs i k y,x=.ref l∧vs=[.int i]∧H l=some (.lst xs)∧ -(2 ^ 63)≤i∧i < 2 ^ 63∧seqIndex? i xs.length=some k∧xs[k]? =some y∧Q y (upd H l (.lst (xs.eraseIdx k)))
def EO:V→List V→Hp→VK→Prop:=fun x vs H Q=>∃l xs,x=.ref l∧vs=[]∧H l=some (.lst xs)∧Q .non (upd H l (.lst xs.reverse))
def Ht:V→List V→Hp→VK→Prop:=fun x vs H Q=>∃l xs,x=.ref l∧vs=[]∧H l=some (.lst xs)∧Q .non (upd H l (.lst []))
def JJ:R2:=fun x y H Q=>∃l b xs zs,x=.ref l∧y=.ref b∧H l=some (.lst xs)∧H b=some (.lst zs)∧xs.length+zs.length≤sizeLine∧∀p,H p=none→Q (.ref p) (upd H p (.lst (xs++zs)))
def Jv:R2:=fun x y H Q=>∃l k xs,x=.ref l∧y=.int k∧H l=some (.lst xs)∧ -(2 ^ 63)≤k∧k < 2 ^ 63∧xs.length * k.toNat≤sizeLine∧
 ∀p,H p=none→Q (.ref p) (upd H p (.lst (List.replicate k.toNat xs).flatten))
end
section
variable {prog:Program}{w:World}{A:Around}{E:Value→Shared→Prop}{s:Shared}
set_option maxRecDepth 100000 in
end
section
variable {X:Cx}
end
end L2
namespace Att
open PySem PySem.W PySem.Calls PyProof.Rows
theorem lE{P:Params}{h:Heap}:∀(ns:List Int) (vs:List Value),WellAll P h vs (ns.map WData.int)→IntsAre vs ns:=by
 intro ns
 induction ns with
 |nil=>
  intro vs w
  rw[List.map_nil]at w
  cases w
  exact .nil
 |cons n ns ih=>
  intro vs w
  rw[map_cons]at w
  cases w with
  |cons a b=>
   cases a
   exact .cons _ _ (ih _ b)
theorem xq{l:OpenLaw}{n:Nat}(hn:l.most=some n){P:Params}{h:Heap}{args:List WData}{vals:List Value}
  (hpre:l.row.toRowW.claim.pre args=true)(hwl:WellAll P h vals args):
  ∃a vs ns,vals=[Value.ref a]∧args=[WData.list (ns.map WData.int)]∧h.get? a=some { cls:=.type "list",data:=.seq vs.toArray }∧IntsAre vs ns∧ns.length≤n:=by
 have hsh:WShape.hasAll [] args [.list .int]=true:=(pre_splitW hpre).1
 have hc:l.pre.holds [] { args:=args }=true:=(pre_splitW hpre).2
 obtain⟨d,r,rfl,h1,h2⟩:=hasAllW_cons hsh
 obtain rfl:=hasAllW_nil h2
 obtain⟨xs,rfl,h3⟩:=hasW_list h1
 obtain⟨ns,rfl⟩:=items_int h3
 have hlen:ns.length≤n:=by
  unfold OpenLaw.pre at hc
  have h4:(WTm.not (.lt (.lit (.int (n:Int))) (.len (.arg 0)))).holds [] { args:=[.list (ns.map .int)] }=true:=by
   have h4:=(holds_andW hc).1
   rw[hn]at h4
   exact h4
  have h5:=condW_of h4 (w_not (w_lt w_lit (w_len_list (w_arg rfl))))
  rw[length_map]at h5
  refine Nat.le_of_not_lt fun q=>?_
  have q':(n:Int) < ((ns.length:Nat):Int):=by omega
  first
   | (rw[decide_eq_true q']at h5;exact absurd h5 (by decide))
   | (simp at h5;omega)
 cases hwl with
 |cons w1 w2=>
  cases w2
  cases w1 with
  |list ho hall=>exact⟨_,_,ns,rfl,rfl,ho,lE ns _ hall,hlen⟩
theorem wK(l:OpenLaw)(args:List WData):l.row.toRowW.claim.post args (.bool true) args=true:=
 postW_of (r:=l.row.toRowW) (X:=(true == true))
  (show WShape.has [] (.bool true) .bool=true by first|rfl|decide|simp[WShape.has,WShape.arms,WShape.armsAll])
  (show(WTm.eq .res (.lit (.bool true))).value [] { args:=args,res:=some (.bool true),after:=args }=some (.bool (true == true)) from w_eq_bool (w_res rfl) w_lit) rfl
theorem rN{l:OpenLaw}{n:Nat}{q:Program}{loose:List Str}{XP:(Str→Option Value)→Heap→Prop}{YP:World→Heap→Prop}{d:DefRec}
  (hn:l.most=some n)(hdf:d.params.defaults=[])
  (call:∀(w:World)(s₀ s₁:Shared)(mg mb:Str→Option Value)(fa:Addr)(o:Obj)(pm cd doc:Value)(a:Addr)(vs:List Value)(ns:List Int),
   Ground q loose [] XP w s₀ mg mb s₁.heap→YP w s₁.heap→
   s₁.heap.get? fa=some o→o.data=.func (docDef d.name d.params d.body d.scope pm cd doc)→s₁.heap.CodeRec cd d.name→mg d.name=some (.ref fa)→
   s₁.heap.get? a=some { cls:=.type "list",data:=.seq vs.toArray }→IntsAre vs ns→ns.length≤n→s₁.gens= #[]→
   codeAny (model l.prog w) callerA (.call (.ref fa) ⟨[.ref a],[]⟩) (fun r s'=>r=.ok (.ret (.bool true))∧OldK s₁.heap s'.heap∧s'.os=s₁.os∧AllBare s'.gens) s₁):
  WalkO q loose XP YP l.row.toRowW d [] (fun f vs=>PySem.call f vs):=by
 intro w s₀ s₁ mg mb G Y fa o pm cd doc dV kV ho hd hcd hD hmg hg args vals as hpre hlay hrd hwl hlo
 obtain rfl:dV=.none:=Dflts.none hD hdf
 obtain rfl:kV=.none:=Dflts.noKw hD
 obtain⟨a,vs,ns,rfl,rfl,hobj,hints,hlen⟩:=xq hn hpre hwl
 refine enter_call (codeAny_mono (call w s₀ s₁ mg mb fa o pm cd doc a vs ns G Y ho (fd_plain hd) hcd hmg hobj hints hlen hg) fun r s' hq=>?_)
 obtain⟨rfl,h2,h3,h4⟩:=hq
 exact⟨.inl ⟨.bool true,.bool true,[],rfl,fun _=>rfl,.bool true,wK l _,fun _=>⟨List.Pairwise.nil,fun _ hm=>(nomatch hm)⟩⟩,h2,h3,h4⟩
section
variable {prog:Program}{w:World}{A:Around}{E:Value→Shared→Prop}{s:Shared}{K:Frag}
def Gs(h:Heap):Heap:={ h with objs:= #[] }
def ledger(h:Heap)(L d:Addr):List (Addr×Obj):=(List.range h.objs.size).filterMap fun a=>if a=L∨a=d then none else(h.get? a).map fun o=>(a,o)
end
end Att
namespace L2
open PySem PySem.Spec PyProof.Rows
theorem oY:∀{vs:List Value}{ns:List Int},IntsAre vs ns→Vals (ns.map V.int) vs
 |_,_,.nil=>.nil
 |_,_,.cons n t h=>.cons ⟨t,rfl⟩ (oY h)
def Ke(H:Hp):Prop:=∀b,H b=none∨∃o xs,H b=some (.frz o (.lst xs))
end L2
namespace L2
open PySem PySem.Spec PyProof.Rows
abbrev Kp{K:PySem.W.Frag}{h:Heap}(_:K.In h):PySem.W.Frag:=K
end L2
namespace L2
open PySem PySem.Spec PyProof.Rows
abbrev jC:xH:=fun _ _ _ _ _ _=>False
abbrev E0:XK:=fun _ _ _=>False
theorem ro{X:Cx}:Passes jC X E0:=fun _ _ _ _ _ _ _ h=>h.elim
structure lM(K:PySem.W.Frag)(x qual:Str)(st:Stmt)(f:Addr)(fd:FuncData):Prop where
 ex:∃(oc:Value) (od:Option Addr) (kV doc pm:Value) (an:Option Addr) (cdv ct:Value) (osl:Array (Option Value)),
  fd=fnOf x qual (cW st) (cN st) (cG st) .none kV doc pm an cdv ct∧K.lookup f=some ⟨oc,od,.func fd,osl⟩∧codeIn K cdv qual=true
 kp:keepIn K (.ref f)=true
section
variable {P:Program}{w:World}{K:PySem.W.Frag}{mg:Str→Option Value}{base:Heap}
theorem lM.ok{x qual:Str}{st:Stmt}{f:Addr}{fd:FuncData}{N ps:List Str}{k:Nat}{sp:Sp}(F:lM K x qual st f fd)(S:cJ N ps (cG st))(len:∀vs H Q E,sp vs H Q E→vs.length=ps.length)
  (hbody:∀(cdv:Value)(A:Around)(outer:List Env)(s:Shared)(H:Hp)(vs:List V)(Q:VK)(E:XK),dr k (A.deeper (envOfC qual (cG st) s.heap.objs.size f cdv))→sp vs H Q E→
   ∃t,tE (qO jC P w K mg base N qual (cG st) f cdv A outer s H E).zF (cN st) t∧t { nx:=fun _ H'=>Q .non H',rt:=Q } (start N vs) H):dY P w K mg base jC (k+1) f fd ps sp:=by
 obtain⟨oc,od,kV,doc,pm,an,cdv,ct,osl,rfl,lk,hcd⟩:=F.ex
 refine Bs lk hcd S len fun A outer s H vs Q E hr hsp=>?_
 obtain⟨t,h,q⟩:=hbody cdv A outer s H vs Q E hr hsp
 exact⟨t,h.zF,q⟩
theorem lM.binds{x qual:Str}{st:Stmt}{f:Addr}{fd:FuncData}{ps:List Str}(F:lM K x qual st f fd)
  (h:∀(kV doc pm:Value)(an:Option Addr)(cdv ct:Value)(us:List Value),us.length=ps.length→bindArgs (fnOf x qual (cW st) (cN st) (cG st) .none kV doc pm an cdv ct) ⟨us,[]⟩=pure (ps.zip us)):Binds K fd ps []:=by
 obtain⟨oc,od,kV,doc,pm,an,cdv,ct,osl,rfl,lk,hcd⟩:=F.ex
 exact .all (h kV doc pm an cdv ct)
theorem gK{x qual:Str}{st:Stmt}{f:Addr}{oc:Value}{od an:Option Addr}{osl:Array (Option Value)}{kV doc pm cdv ct:Value}(l:K.lookup f=some ⟨oc,od,.func (fnOf x qual (cW st) (cN st) (cG st) .none kV doc pm an cdv ct),osl⟩)
  (c:codeIn K cdv qual=true)(k:keepIn K (.ref f)=true):lM K x qual st f (fnOf x qual (cW st) (cN st) (cG st) .none kV doc pm an cdv ct):=⟨⟨oc,od,kV,doc,pm,an,cdv,ct,osl,rfl,l,c⟩,k⟩
end
theorem ft{A:Around}{k:Nat}(hr:dr k A):A.units+1 < cLine:=Nat.lt_of_le_of_lt (Nat.add_le_add_left (by decide:1≤64) _) hr.units
section
variable {X:Cx}
theorem pv (i:Nat){x:Str}{pos:Pos}(hN:X.N[i]? =some x:=by rfl) (hv:Ho X.env.scope x:=by first|exact Or.inl rfl|exact Or.inr (Or.inl rfl)|exact Or.inr (Or.inr rfl)) (hd:(x == ("__debug__" :Str))=false:=by decide)
  (hcd:(x == ("__classdict__" :Str))=false:=by decide):PE X (.Name x pos) (dE i):=jh hN hv hd hcd
end
theorem dt{A B:Prop}(h:B):if false=true then A else B:=by
 rw[if_neg Bool.false_ne_true]
 exact h
theorem d6{A B:Prop}(h:A):if true=true then A else B:=by
 rw[if_pos rfl]
 exact h
theorem dG{c A B:Prop} [Decidable c] (h1:c→A)(h2:¬c→B):if c then A else B:=by
 by_cases h:c
 ·rw[if_pos h]
  exact h1 h
 ·rw[if_neg h]
  exact h2 h
def cI(H H':Hp):Prop:=∀b o,H b=some o→H' b=some o
theorem cI.refl(H:Hp):cI H H:=fun _ _ h=>h
theorem cI.trans{H H1 H2:Hp}(a:cI H H1)(b:cI H1 H2):cI H H2:=fun c o h=>b c o (a c o h)
theorem cI.free{H H':Hp}(e:cI H H'){l:Addr}(h:H' l=Option.none):H l=Option.none:=by
 cases q:H l with
 |none=>rfl
 |some o=>
  rw[e l o q]at h
  cases h
theorem cI.seq{K:PySem.W.Frag}{H H':Hp}{a:Addr}{xs:List V}(e:cI H H')(h:cL K H a xs):cL K H' a xs:=by
 rcases h with (h|⟨o,h⟩)|h
 ·exact .inl (.inl (e _ _ h))
 ·exact .inl (.inr ⟨o,e _ _ h⟩)
 ·exact .inr h
end L2
namespace L2
open PySem PySem.Builtin.Str
end L2
namespace L2
open PySem PySem.Spec PyProof.Rows
theorem nA{env:Env}{scope:Scope}(h:∀y∈scope.names,y.2=.free→∃c,env.cells.lookup y.1=some c):
  ∃cl,closureFor scope env=pure cl∧(∀y c,cl.lookup y=some c→env.cells.lookup y=some c)∧(∀y∈scope.names,y.2=.free→cl.lookup y.1=env.cells.lookup y.1):=by
 have gen:∀(names:List (Str×NameKind)) (acc:List (Str×Addr)),(∀y∈names,y.2=.free→∃c,env.cells.lookup y.1=some c)→(∀y c,acc.lookup y=some c→env.cells.lookup y=some c)→
   ∃cl,(forIn (m:=Sem) names acc fun x r=>match x with
    | (name,kind)=>if(kind == NameKind.free)=true then do
      let a ←cellOf env name
      pure (ForInStep.yield ((name,a)::r))
     else pure (ForInStep.yield r))=pure cl∧(∀y c,cl.lookup y=some c→env.cells.lookup y=some c)∧(∀y c,acc.lookup y=some c→cl.lookup y=some c)∧(∀y∈names,y.2=.free→cl.lookup y.1=env.cells.lookup y.1):=by
  intro names
  induction names with
  |nil=>intro acc _ ha;exact⟨acc,rfl,ha,fun _ _ e=>e,fun y hy=>nomatch hy⟩
  |cons x r ih=>
   intro acc hn ha
   obtain⟨n,k⟩:=x
   by_cases hk:k=.free
   ·subst hk
    obtain⟨c,hc⟩:=hn (n,.free) mem_cons_self rfl
    have hc':cellOf env n=pure c:=by
     unfold cellOf
     rw[show env.cells.lookup n=some c from hc]
    have ha':∀y d,((n,c)::acc).lookup y=some d→env.cells.lookup y=some d:=fun y d e=>by
     rw[lookup_cons]at e
     cases q:y == n with
     |true=>rw[q]at e;cases e;rw[eq_of_beq q];exact hc
     |false=>rw[q]at e;exact ha y d e
    obtain⟨cl,e,h1,h2,h3⟩:=ih ((n,c)::acc) (fun y hy=>hn y (mem_cons_of_mem _ hy)) ha'
    refine⟨cl,?_,h1,fun y d q=>?_,fun y hy hf=>?_⟩
    ·rw[List.forIn_cons]
     simp only[beq_self_eq_true,if_true,hc']
     exact e
    ·cases z:y == n with
     |true=>
      have:y=n:=eq_of_beq z
      subst this
      have q1:=ha y d q
      rw[hc]at q1;cases q1
      exact h2 y c (by rw[lookup_cons,z])
     |false=>exact h2 y d (by rw[lookup_cons,z];exact q)
    ·rcases mem_cons.mp hy with rfl|hy
     ·have:=h2 n c (by rw[lookup_cons,beq_self_eq_true])
      rw[this,hc]
     ·exact h3 y hy hf
   ·have hb:(k == NameKind.free)=false:=by simpa using hk
    obtain⟨cl,e,h1,h2,h3⟩:=ih acc (fun y hy=>hn y (mem_cons_of_mem _ hy)) ha
    refine⟨cl,?_,h1,h2,fun y hy hf=>?_⟩
    ·rw[List.forIn_cons]
     simp only[hb,false_eq_true,if_false]
     exact e
    ·rcases mem_cons.mp hy with rfl|hy
     ·exact absurd hf hk
     ·exact h3 y hy hf
 obtain⟨cl,e,h1,_,h3⟩:=gen scope.names [] h (fun y c e=>by cases e)
 refine⟨cl,?_,h1,h3⟩
 simp only[closureFor]
 rw[show(forIn scope.names ([]:List (Str×Addr)) _:Sem _)=pure cl from e]
 rfl
theorem jJ{env:Env}(hk:env.scope.kind=.function):∀{names:List (Str×NameKind)}{x:Str},names.lookup x=some .free→env.kindOf x=some .cell→
  (names.map fun(n,k)=>if(k == NameKind.free && env.scope.kind == .function && env.kindOf n == some .cell) then(n,NameKind.cell) else(n,k)).lookup x=some .cell
 |[],_,h,_=>by simp at h
 | (n,k)::r,x,h,hc=>by
  have ih:=@jJ env hk r x
  show List.lookup x ((if(k == NameKind.free && env.scope.kind == .function && env.kindOf n == some .cell)=true then(n,NameKind.cell) else(n,k))::_)=_
  cases hx:x == n with
  |true=>
   simp only[lookup_cons,hx]at h
   cases h
   have e:x=n:=eq_of_beq hx
   subst e
   rw[if_pos (by simp[hk,hc])]
   simp[lookup_cons]
  |false=>
   simp only[lookup_cons,hx]at h
   by_cases hc':(k == NameKind.free && env.scope.kind == .function && env.kindOf n == some .cell)=true
   ·rw[if_pos hc'];simp only[lookup_cons,hx];exact ih h hc
   ·rw[if_neg hc'];simp only[lookup_cons,hx];exact ih h hc
theorem jV{env:Env}{scope:Scope}{y:Str}{k':NameKind}(h:(relabel scope env).names.lookup y=some k')(hk':k'=.cell∨k'=.free)(nocell:∀z∈scope.names,z.2≠.cell):(y,NameKind.free)∈scope.names:=by
 have hm:=PySem.mem_of_lookup h
 obtain⟨⟨n,k⟩,hm',e⟩:=mem_map.mp hm
 dsimp only at e
 split at e
 ·rename_i c
  cases e
  rw[and_eq_true,and_eq_true]at c
  have e2:k=.free:=by simpa using c.1.1
  subst e2
  exact hm'
 ·cases e
  rcases hk' with rfl|rfl
  ·exact absurd rfl (nocell _ hm')
  ·exact hm'
def cZ(X:Cx)(N':List Str)(scope:Scope)(cl:List (Str×Addr))(fp:List Addr)(s3:Shared)(H3:Hp)(C:Addr):Cx:=
 { X with N:=N',s₀:=s3,H₀:=H3,env:=compEnvC scope cl C X.env,outer:=X.stack,ex:=fp,fn:=fun _=>false,pn:=[],xe:=fun _ _=>False }
def dJ(is:List Nat)(σ:St):St:=is.map fun i=>(σ[i]?).join
def gH(J:It)(is:List Nat)(te:TE)(σ:St)(H1:Hp)(Q:VK):Prop:=∀D,H1 D=none→∃W:Nat→Nat→List V→Hp→Prop,(∃m,W 0 m [] (upd H1 D (.lst [])))∧
 ∀i m ys H2,W i m ys H2→H2 D=some (.lst ys)∧((J.stop i H2∧Q (.ref D) H2)∨(J.go i H2∧∀v H3,J.yld i H2 v H3→te (some v::dJ is σ) H3 fun y H4=>
  H4 D=some (.lst ys)∧ys.length < sizeLine∧∃m',m' < m∧W (i+1) m' (ys++[y]) (upd H4 D (.lst (ys++[y])))))
def Iy(wi:TI)(is:List Nat)(te:TE):TE:=fun σ H Q=>wi σ H fun J H1=>gH J is te σ H1 Q
structure EU(sc:Scope)(N:List Str)(x:Str)(scope:Scope)(is:List Nat)(ns:List Str):Prop where
 kind:scope.kind=.function:=by rfl
 nocell:∀y∈scope.names,y.2≠.cell:=by decide+kernel
 names:∀y∈scope.names,y.2=.local→scope.names.lookup y.1=some .local:=by decide+kernel
 free:∀y∈scope.names,y.2=.free→sc.names.lookup y.1=some .cell:=by decide+kernel
 hx:scope.names.lookup x=some .local:=by rfl
 cap:ns.map some=is.map fun i=>N[i]? :=by rfl
 nd:(x::ns).Nodup:=by decide+kernel
 capf:∀y∈ns,scope.names.lookup y=some .free∧sc.names.lookup y=some .cell:=by decide+kernel
section
variable {X:Cx}{x:Str}{px pos:Pos}{elt iter:Expr}{scope:Scope}{wi:TI}{te:TE}{is:List Nat}{ns:List Str}
end
end L2
namespace L2
open PySem PySem.Spec PyProof.Rows
section
variable {K:PySem.W.Frag}{is:List Nat}{te:TE}{σ:St}{H:Hp}{Q:VK}
theorem cI.upd{H:Hp}{D:Addr}{o:HO}(h:H D=none):cI H (upd H D o):=fun b u e=>by
 rw[cH (cF e h)]
 exact e
theorem yx{J:It}{xs:List V}(f:V→V)(hz:xs.length≤sizeLine)(hgo:∀i H2,cI H H2→i < xs.length→J.go i H2)(hstop:∀H2,cI H H2→J.stop xs.length H2)
  (hy:∀i H2 v H3,cI H H2→i < xs.length→J.yld i H2 v H3→H3=H2∧xs[i]? =some v)
  (he:∀v H2 Q',v∈xs→cI H H2→Q' (f v) H2→te (some v::dJ is σ) H2 Q')(q:∀D,H D=none→Q (.ref D) (upd H D (.lst (xs.map f)))):gH J is te σ H Q:=by
 intro D hD
 refine⟨fun i m ys H2=>m=xs.length - i∧i≤xs.length∧ys=(xs.take i).map f∧H2=upd H D (.lst ys),⟨_,rfl,zero_le _,by simp,rfl⟩,?_⟩
 rintro i m ys H2 ⟨rfl,hi,hys,rfl⟩
 have sm:cI H (upd H D (.lst ys)):=cI.upd hD
 refine⟨cE,?_⟩
 by_cases hlt:i < xs.length
 ·refine .inr ⟨hgo i _ sm hlt,fun v H3 y=>?_⟩
  obtain⟨rfl,hv⟩:=hy i _ v H3 sm hlt y
  refine he v _ _ (mem_of_getElem? hv) sm ⟨cE,?_,xs.length - (i+1),by omega,rfl,hlt,?_,zW⟩
  ·rw[hys,length_map,length_take]
   omega
  ·rw[hys,take_add_one,hv,map_append]
   rfl
 ·have e:i=xs.length:=by omega
  subst e
  refine .inl ⟨hstop _ sm,?_⟩
  rw[hys,take_length]
  exact q D hD
theorem cI.CK{K:PySem.W.Frag}{H H':Hp}{a:Addr}{xs:List V}(e:cI H H')(h:c8 K H a xs):c8 K H' a xs:=by
 rcases h with (h|⟨o,h⟩)|h
 ·exact .inl (.inl (e _ _ h))
 ·exact .inl (.inr ⟨o,e _ _ h⟩)
 ·exact .inr h
theorem rQ{lo:Int}{n:Nat}(f:V→V)(hz:n≤sizeLine)(he:∀(i:Nat) H2 Q',i < n→cI H H2→Q' (f (.int (lo+i))) H2→te (some (.int (lo+i))::dJ is σ) H2 Q')
  (q:∀D,H D=none→Q (.ref D) (upd H D (.lst ((List.range n).map fun(i:Nat)=>f (.int (lo+i)))))):gH (AE lo n) is te σ H Q:=by
 refine yx (xs:=(List.range n).map fun(i:Nat)=>V.int (lo+i)) f (by simpa using hz) (fun i H2 _ hi=>?_) (fun H2 _=>?_) (fun i H2 v H3 _ hi y=>?_) (fun v H2 Q' hv sm q'=>?_) (fun D hD=>?_)
 ·show i < n
  simpa using hi
 ·show n≤_
  simp
 ·obtain⟨rfl,rfl⟩:=y
  have hi':i < n:=by simpa using hi
  exact⟨rfl,by simp[hi']⟩
 ·obtain⟨i,hi,rfl⟩:=mem_map.mp hv
  exact he i H2 Q' (mem_range.mp hi) sm q'
 ·rw[map_map]
  exact q D hD
end
def signs(z:Str):List V:=z.cps.toList.map fun c=>V.str ⟨#[c]⟩
theorem signs_length(z:Str):(signs z).length=z.cps.size:=by simp[signs]
def GY(z:Str):It:=⟨fun i _=>i < z.cps.size,fun i H x H'=>H'=H∧(signs z)[i]? =some x,fun i _=>i=z.cps.size⟩
theorem x5{P:Program}{w:World}{K:PySem.W.Frag}{tg:Expr}{ty:String}{z:Str}{t:Tok}(it:Addr)(hW:∀A:Around,A.handled=none→Walks P w A it [it] [it] z.cps.size (SignAt z) (fun i h=>h.IsStrIter it ty z t i))
  (hS:∀(A:Around)(i:Nat)(s:Shared)(Q:Value→Shared→Prop)(E:Value→Shared→Prop),s.heap.IsStrIter it ty z t i→Q (.ref it) s→wpAny (model P w) A (pyIter (.ref it)) Q E s)
  (hn:["enumerate", "zip", "dict_itemiterator", "dict_reverseitemiterator", "odict_iterator", "itertools.zip_longest", "itertools.pairwise"].contains ty=false):Turn P w K tg (GY z) [it] it (fun i h=>h.IsStrIter it ty z t i) where
 mem:=by simp
 obj:=fun i h st b hb=>by
  have e:b=it:=by simpa using hb
  subst e
  obtain⟨o,e,c,d⟩:=st
  exact⟨o,e,fun v z=>by rw[d]at z;cases z⟩
 keep:=fun i h h' st k=>by
  obtain⟨o,e,r⟩:=st
  exact⟨o,k it (by simp) o e,r⟩
 item:=by
  intro X hP hw hK hc i pins s σ H E I hf st hg
  subst hP hw hK
  obtain⟨f0,f1,f2,f3,f4,f5⟩:=hf it (by simp)
  refine(hW X.A (I.ok.hd hc)).item i s _ _ hg st fun v h' tk hv st' kk=>?_
  obtain⟨c,u,hcp,rfl⟩:=hv
  have I1:Inv X pins σ H { s with heap:=h',toks:=tk }:=I.turned (fun b o hb e=>kk b o (by simpa using hb) e) f0 f1 f3 f4 f5
  obtain⟨o,e,cc,d⟩:=id st'
  refine⟨_,rfl,vx (s:={ s with heap:=h',toks:=tk }) e cc d hn ⟨.str ⟨#[c]⟩,H,I1,⟨u,rfl⟩,⟨rfl,?_⟩,st',fun b hb=>(hf b hb).1⟩⟩
  unfold signs
  rw[getElem?_map,getElem?_toList,hcp]
  rfl
 done:=by
  intro X hP hw hK hc i pins s σ H E I hf st hg
  subst hP hw hK
  obtain⟨f0,f1,f2,f3,f4,f5⟩:=hf it (by simp)
  have hg':i=z.cps.size:=hg
  subst hg'
  exact(hW X.A (I.ok.hd hc)).done s _ _ st fun h' tk kk=>⟨rfl,I.turned (fun b o hb e=>kk b o (by simpa using hb) e) f0 f1 f3 f4 f5⟩
 self:=hS
section
variable {X:Cx}{tg:Expr}
def Hy(tl:TE):TI:=fun σ H R=>tl σ H fun x H1=>∃z,x=.str z∧R (GY z) H1
theorem DR{l:Expr}{tl:TE}(hl:PE X l tl):PI X tg l (Hy tl):=by
 intro pins s σ H R I h
 refine dq (hl pins s σ H _ I h) fun v s1 hpat=>?_
 obtain⟨x,H1,I1,r1,q1⟩:=hpat
 obtain⟨z,e,q⟩:=q1
 subst e
 obtain⟨t,rfl⟩:=r1
 have fin:∀(ty:String) (hW:∀A:Around,A.handled=none→Walks X.prog X.w A s1.heap.objs.size [s1.heap.objs.size] [s1.heap.objs.size] z.cps.size (SignAt z) (fun i h=>h.IsStrIter s1.heap.objs.size ty z t i))
   (hS:∀(A:Around) (i:Nat) (s:Shared) (Q:Value→Shared→Prop) (E:Value→Shared→Prop),s.heap.IsStrIter s1.heap.objs.size ty z t i→Q (.ref s1.heap.objs.size) s→wpAny (model X.prog X.w) A (pyIter (.ref s1.heap.objs.size)) Q E s)
   (hn:["enumerate", "zip", "dict_itemiterator", "dict_reverseitemiterator", "odict_iterator", "itertools.zip_longest", "itertools.pairwise"].contains ty=false),
   Hm X pins σ tg R (.ref s1.heap.objs.size) { s1 with heap:=s1.heap.push { cls:=.type ty,data:=.fields #[.str z t,.int 0 0] } }:=fun ty hW hS hn=>by
  refine⟨s1.heap.objs.size,[s1.heap.objs.size],_,_,H1,rfl,I1.kept (t':=s1.toks) fun b o e=>get?_push_of_some _ e,x5 _ hW hS hn,⟨_,get?_push_size _ rfl,rfl,rfl⟩,fun b hb=>?_,q⟩
  have e:b=s1.heap.objs.size:=by simpa using hb
  subst e
  exact I1.vO (le_refl _) (I1.hok.fresh (le_refl _))
 cases ha:z.cps.all (· < 128)
 ·exact wpAny_pyIter_wide ha (fin "str_iterator" (fun A hA=>Walks.strWide hA _ z t) (fun A i s Q E st h=>wpAny_pyIter_striter_wide st h) (by decide))
 ·exact wpAny_pyIter_ascii ha (fin "str_ascii_iterator" (fun A hA=>Walks.strAscii hA _ z t) (fun A i s Q E st h=>wpAny_pyIter_striter_ascii st h) (by decide))
theorem CT{z:Str}{is:List Nat}{te:TE}{σ:St}{H:Hp}{Q:VK}(f:V→V)(hz:z.length≤sizeLine)(he:∀v H2 Q',v∈signs z→cI H H2→Q' (f v) H2→te (some v::dJ is σ) H2 Q')
  (q:∀D,H D=none→Q (.ref D) (upd H D (.lst ((signs z).map f)))):gH (GY z) is te σ H Q:=
 yx f (by rw[signs_length];exact hz) (fun i H2 _ hi=>by rw[signs_length]at hi;exact hi) (fun H2 _=>signs_length z) (fun i H2 v H3 _ hi y=>y) he q
theorem tj:∀bs:List Bool,((List.range bs.length).all fun i=>bs.getD i false)=bs.all id
 |[]=>rfl
 |b::r=>by
  rw[length_cons,List.range_succ_eq_map,all_cons,all_map,all_cons,←tj r]
  rfl
theorem oJ(hc:X.calm=true):d9 X (.builtin "all") (fun xs H Q=>∃(p:Addr) (bs:List Bool),xs=[.ref p]∧cL X.K H p (bs.map V.bl)∧Q (.bl (bs.all id)) H):=by
 intro pins s σ H xs us Q I r h
 obtain⟨p,bs,rfl,hq,q⟩:=h
 obtain⟨u,rfl,rx⟩:=vals1 r
 cases rx
 obtain⟨its,rv,pl,hz⟩:=I.list hq
 have hl:=rv.length
 rw[length_map]at hl
 have hlt:p < s.heap.objs.size:=by obtain⟨o,n,e,_⟩:=pl;exact lt_size e
 refine call_all_walk (wpAny_pyIter_list pl.isList ?_)
 refine⟨s.heap.objs.size,[s.heap.objs.size,p],[s.heap.objs.size],its.toArray.size,_,_,fun i=>bs.getD i false,rfl,Walks.list (show X.A.in1.handled=none from I.ok.hd hc) s.heap.objs.size p (ne_of_lt hlt) its.toArray,
  ⟨⟨_,get?_push_size _ rfl,rfl,rfl⟩,?_⟩,fun i v s' Q' E' hv hQ=>?_,fun h' tk kk=>?_⟩
 ·obtain⟨o,e,r⟩:=pl.isList
  exact⟨o,get?_push_of_some _ e,r⟩
 ·have hi:i < bs.length:=by
   have:i < its.length:=by
    have:=(Array.getElem?_eq_some_iff.mp hv).1
    simpa using this
   omega
  have hb:(bs.map V.bl)[i]? =some (V.bl bs[i]):=by simp[hi]
  obtain⟨u,hu,ru⟩:=rv.get hb
  have hv':its[i]? =some v:=by simpa using hv
  rw[hu]at hv'
  cases hv'
  obtain rfl:v=Value.bool bs[i]:=ru
  refine wpAny_truthy_bool ?_
  have e:bs.getD i false=bs[i]:=by simp[List.getD,hi]
  rw[←e]
  exact hQ
 ·refine⟨.bl (bs.all id),H,?_,?_,q⟩
  ·have I1:Inv X pins σ H { s with heap:=s.heap.push { cls:=.type "list_iterator",data:=.fields #[.ref p,.int 0 0] } }:=I.kept (t':=s.toks) fun b o e=>get?_push_of_some _ e
   have I2:Inv X pins σ H { s with heap:=h',toks:=tk }:=I.kept (t':=tk) fun b o e=>kk b o (by
    intro z
    have z':b=s.heap.objs.size:=by simpa using z
    exact absurd (lt_size e) (by rw[z'];exact lt_irrefl _)) (get?_push_of_some _ e)
   exact I2
  ·show Value.bool _=Value.bool _
   congr 1
   rw[size_toArray,←hl]
   exact tj bs
inductive ES(K:PySem.W.Frag)(xs:List V)(H:Hp)(Q:VK):Prop
 |mk(x:V)(t:Value)(n:String)(b:Bool)(e:xs=[x,.ty n])(ty:eX K H x t)(k:kitOne K t (.type n)=some b)(q:Q (.bl b) H)
theorem jR:d9 X (.builtin "isinstance") (fun xs H Q=>L2.ES X.K xs H Q):=by
 intro pins s σ H xs us Q I r h
 obtain⟨x,t,n,b,rfl,ty,e,q⟩:=h
 obtain⟨u,c,rfl,rx,rc⟩:=vals2 r
 obtain rfl:c=Value.type n:=rc
 exact vS I rx ty e fun tk=>⟨.bl b,H,I.tok _,rfl,q⟩
theorem oB:gX X (compareOp .LtE) (fun x y H Q=>∃i j,x=.str i∧y=.str j∧Q (.bl (!decide (j.cps.toList < i.cps.toList))) H):=by
 intro pins s σ H x y v u Q I rx ry h
 obtain⟨i,j,rfl,rfl,q⟩:=h
 obtain⟨t,rfl⟩:=rx
 obtain⟨t',rfl⟩:=ry
 exact PySem.P.le_str ⟨.bl _,H,I,rfl,q⟩
def lA(z:Str)(lo hi:Option Int):Str:=⟨((z.cps.toList.drop (HT.gu z.length 0 lo)).take (HT.gu z.length z.length hi - HT.gu z.length 0 lo)).toArray⟩
theorem iD(z:Str)(lo hi:Option Int):(lA z lo hi).length≤z.length:=by
 show(((z.cps.toList.drop _).take _).toArray).size≤z.cps.size
 rw[size_toArray,length_take,length_drop,length_toList]
 exact le_trans (min_le_right _ _) (Nat.sub_le _ _)
theorem BL(v:Int)(n d:Nat):max 0 (min (if v < 0 then v+(n:Int) else v) (n:Int))=((HT.gu n d (some v):Nat):Int):=by
 exact zr v n d
theorem picked_eq(z:Str)(lo hi:Option (Int×Tok)):slicePicked z lo hi none=(List.range (HT.gu z.length z.length (hi.map (·.1)) - HT.gu z.length 0 (lo.map (·.1)))).map (HT.gu z.length 0 (lo.map (·.1))+·):=by
 unfold slicePicked Builtin.Str.strSliceIndices
 simp only[Option.map_none,getD_none,show(1:Int) > 0 by decide,if_true]
 rw[←sliceRange_one]
 congr 1
 ·cases lo with
  |none=>rfl
  |some p=>exact BL p.1 z.length 0
 ·cases hi with
  |none=>rfl
  |some p=>exact BL p.1 z.length z.length
inductive GL(x:V)(lo hi:Option Int)(H:Hp)(Q:VK):Prop
 |mk(z:Str)(hx:x=.str z)(b:z.length≤sizeLine)(q:Q (.str (lA z lo hi)) H)
def Ep:V→Option Int→Option Int→Hp→VK→Prop:=fun x lo hi H Q=>GL x lo hi H Q
theorem ph:F7 X Ep:=by
 intro pins s σ H x v vl vu lo hi sl Q I rx hs pl pu h
 obtain⟨z,rfl,hz,q⟩:=h
 obtain⟨t,rfl⟩:=rx
 have part:∀{u:Value}{o:Option Int},IsPart u o→∃p:Option (Int×Tok),u=partValue p∧o=p.map (·.1):=fun {u o} p=>by
  cases p with
  |none=>exact⟨none,rfl,rfl⟩
  |int i t=>exact⟨some (i,t),rfl,rfl⟩
 obtain⟨l,rfl,rfl⟩:=part pl
 obtain⟨u,rfl,rfl⟩:=part pu
 refine⟨"str",_,slot_str_getitem.lookup,typeIs_str s z t,?_⟩
 refine wpAny_getItem_str_slice (l:=l) (u:=u) (st:=none) hs rfl ?_
 unfold sliceMade
 have ecut:(⟨((slicePicked z l u none).filterMap (z.cps[·]?)).toArray⟩:Str)=lA z (l.map (·.1)) (u.map (·.1)):=by
  rw[picked_eq]
  unfold lA
  congr 2
  exact pick_run z.cps _ _
 split
 ·rename_i c
  rw[and_eq_true]at c
  have c2:=eq_of_beq c.2
  rw[picked_eq,length_map,length_range]at c2
  have hle:HT.gu z.length z.length (u.map (·.1))≤z.length:=HT.C8 _ _ (le_refl _) _
  have whole:lA z (l.map (·.1)) (u.map (·.1))=z:=by
   unfold lA
   by_cases h0:z.length=0
   ·have hz0:z.cps.toList=[]:=by
     have:z.cps.size=0:=h0
     exact eq_nil_of_length_eq_zero (by simpa using this)
    rw[hz0]
    simp only[List.drop_nil,List.take_nil]
    obtain⟨cps⟩:=z
    congr 1
    exact(Array.toList_eq_nil_iff.mp hz0).symm
   ·have e1:HT.gu z.length 0 (l.map (·.1))=0:=by omega
    rw[c2,e1]
    rw[drop_zero,take_of_length_le (by simp[Str.length])]
  exact⟨.str _,H,I,⟨t,by rw[whole]⟩,q⟩
 ·refine⟨?_,.str _,H,I.tok _,⟨_,by rw[ecut]⟩,q⟩
  rw[ecut]
  exact le_trans (iD _ _ _) hz
end
end L2
namespace L2
open PySem PySem.Spec PyProof.Rows
theorem Inv.Hx{X:Cx}{pins:List (Addr×Obj)}{σ:St}{H:Hp}{s:Shared}(I:Inv X pins σ H s):sysModules < s.heap.objs.size:=by
 have h:mainGlobals < s.heap.objs.size:=(I.mod.glob.keeps I.bk).lt
 exact Nat.lt_trans (by decide) h
theorem Au{P:Program}{w:World}{H:Hp}(h:Heap)(hb:sysModules < h.objs.size):df P w H (h.push { cls:=.type "dict",data:=.dict #[] }) h.objs.size (.dK []):=
 ⟨zero_le _,beq_eq_false_iff_ne.mpr (Ne.symm (ne_of_lt hb)),[],.nil,Heap.DictOf.new h⟩
def Bu:TE:=fun _ H Q=>∀p,H p=none→Q (.ref p) (upd H p (.dK []))
theorem iI{X:Cx}{pos:Pos}:PE X (.Dict [] [] pos) Bu:=fun pins s σ H Q I h=>
 wpAny_Dict_empty ⟨.ref s.heap.objs.size,_,I.laid (a:=s.heap.objs.size) (o:=.dK []) (t':=s.toks) (fun _ _ q=>get?_push_of_some _ q) (le_refl _) (Au s.heap I.Hx),rfl,h _ (I.hok.fresh (le_refl _))⟩
structure Df(K:PySem.W.Frag)(mg:Str→Option Value)(x:Str)(st:Stmt)(ps:List Str)(f:Addr)(fd:FuncData):Prop where
 fn:lM K x x st f fd
 nm:mg x=some (.ref f)
 bi:Binds K fd ps []
def tys:List String:=["NoneType", "bool", "int", "str", "list", "tuple", "dict"]
def xi(T n:String):Bool:=T == n || (T == "bool" && n == "int")
theorem du {K:PySem.W.Frag}{T n:String}(hT:T∈tys) (hn:n∈["int", "bool", "str", "list", "tuple"]):kitOne K (.type T) (.type n)=some (xi T n):=by
 simp only[tys,mem_cons,not_mem_nil,or_false]at hT hn
 rcases hT with rfl|rfl|rfl|rfl|rfl|rfl|rfl<;>rcases hn with rfl|rfl|rfl|rfl|rfl<;>rfl
section
variable {K:PySem.W.Frag}{H:Hp}{x:V}{T:String}
theorem ty_int (ty:eX K H x (.type "int")):∃i,x=.int i:=by
 generalize h:Value.type "int" =t at ty
 cases ty<;>first|exact⟨_,rfl⟩| (injection h with h';exact absurd h' (by decide))|cases h
theorem ty_str (ty:eX K H x (.type "str")):∃z,x=.str z:=by
 generalize h:Value.type "str" =t at ty
 cases ty<;>first|exact⟨_,rfl⟩| (injection h with h';exact absurd h' (by decide))|cases h
theorem wF{i:Int}(ty:eX K H (.int i) (.type T)):T= "int" :=by
 generalize h:Value.type T=t at ty
 cases ty
 injection h
theorem wt{z:Str}(ty:eX K H (.str z) (.type T)):T= "str" :=by
 generalize h:Value.type T=t at ty
 cases ty
 injection h
end
theorem cY:bootBuiltins "isinstance" =some (.builtin "isinstance"):=by decide+kernel
theorem xP:bootBuiltins "int" =some (.type "int"):=by decide+kernel
theorem Bq:bootBuiltins "bool" =some (.type "bool"):=by decide+kernel
theorem tZ:bootBuiltins "str" =some (.type "str"):=by decide+kernel
theorem iz:bootBuiltins "all" =some (.builtin "all"):=by decide+kernel
theorem cV:bootBuiltins "len" =some (.builtin "len"):=by decide+kernel
theorem eY:bootBuiltins "list" =some (.type "list"):=by decide+kernel
theorem j8:bootBuiltins "tuple" =some (.type "tuple"):=by decide+kernel
end L2
namespace L2
open PySem PySem.Spec PyProof.Rows
def notStar(e:Expr):Bool:=match e with
 |.Starred _ _=>false
 |_=>true
theorem c9{e:Expr}{rest:List Expr}{env:Env}(h:notStar e=true):starEach (e::rest) env=(false,eval e env)::starEach rest env:=by
 cases e<;>first|rfl|cases h
theorem ee{env:Env}{pos:Pos}:∀{es:List Expr},es.all notStar=true→(backTo pos (starEach es env)).any (·.1)=false
 |[],_=>rfl
 |e::es,h=>by
  rw[all_cons,and_eq_true]at h
  rw[c9 h.1]
  exact ee h.2
theorem ur{X:Cx}{e:Expr}{es:List Expr}{te:TE}{t:TA}(ha:PE X e te)(hr:PA X es t)(h:notStar e=true:=by rfl):PA X (e::es) (da te t):=eK ha hr (c9 h)
def ji(e:Expr):Bool:=match e with
 |.ListComp .. =>true
 |.SetComp .. =>true
 |.DictComp .. =>true
 |_=>false
theorem jZ{e:Expr}{tg:Option Expr}{n:Nat}{env:Env}(h:ji e=false):swapsWith e tg n env=pure false:=by
 cases e<;>first|rfl|cases h
theorem Ai{X:Cx}{f:Expr}{as:List Expr}{kw:List Keyword}{p:Pos}{t:TE}(h:PE X (.Call f as kw p) t):PT X (.Call f as kw p) (tB t):=t8 h (fun _=>rfl)
theorem Fz{l r:Expr}{op:Operator}{p:Pos}:dU (.BinOp l op r p):=fun _ _=>rfl
theorem AL{x:Str}{p:Pos}:dU (.Name x p):=fun _ _=>rfl
theorem Ca{c:Const}{k:Nat}{p:Pos}:dU (.Constant c k p):=fun _ _=>rfl
theorem fu{op op':CmpOp}{b c:Expr}(h:op'≠.In:=by decide)(h2:op'≠.NotIn:=by decide):lastMarks [op,op'] [b,c]=false:=by
 have e:lastMarks [op,op'] [b,c]=behindInMarks op' c:=by rfl
 rw[e]
 exact cK c h h2
theorem Ff{X:Cx}{e:Expr}{te:TE}{p:Pos}(he:PE X e te)(h:ji e=false:=by rfl):PS X (.Expr e p) (xO te):=Bl he (jZ h)
structure Slot(X:Cx)(i:Nat)(x:Str):Prop where
 hN:X.N[i]? =some x
 lc:Loc X.env.scope x
 fn:X.fn x=true∨X.env.scope.names.lookup x=some .local
 db:(x == ("__debug__" :Str))=false
 cd:(x == ("__classdict__" :Str))=false
structure Bt(X:Cx)(x:Str):Prop where
 gl:Gl X x
 nm:X.mg x=none
 hn:x≠ "__name__"
 db:(x == ("__debug__" :Str))=false
structure AN(X:Cx)(x:Str)(sp:Sp):Prop where
 ex:∃(k:Nat) (f:Addr) (fd:FuncData) (ps:List Str),dY X.prog X.w X.K X.mg X.base jC k f fd ps sp∧dr k X.A∧X.mg x=some (.ref f)∧keepIn X.K (.ref f)=true∧Binds X.K fd ps []
 gl:Gl X x
 db:(x == ("__debug__" :Str))=false
section
variable {X:Cx}{i:Nat}{x:Str}{sp:Sp}{p pos pos':Pos}{e:Expr}{es:List Expr}{te:TE}{t:TA}
theorem Slot.rd(S:Slot X i x):PE X (.Name x p) (dE i):=jh S.hN (S.lc.elim .inl fun h=>.inr (.inl h)) S.db S.cd
theorem Slot.set(S:Slot X i x)(nd:X.N.Nodup)(he:PE X e te)(h:ji e=false:=by rfl):PS X (.Assign [.Name x pos'] e pos) (qY te (d7 i)):=Dr nd S.hN S.lc he (jZ h) S.fn
theorem Slot.tg(S:Slot X i x)(nd:X.N.Nodup):PG X (.Name x p) (d7 i):=lJ nd S.hN S.lc S.fn
theorem Bt.call{id:String}{r:List V→Hp→VK→Prop}(B:Bt X x)(hc:d9 X (.builtin id) r)(hv:bootBuiltins x=some (.builtin id))(ha:PA X (e::es) t)(h1:notStar e=true:=by rfl)
  (h2:es.all notStar=true:=by rfl):PE X (.Call (.Name x p) (e::es) [] pos) (D8 r t):=f7 hc B.gl B.nm hv ha B.hn B.db (c9 h1) (ee h2)
theorem Bt.Fs{T:String}{r:List V→Hp→VK→Prop}(B:Bt X x)(hc:d9 X (.type T) r)(hv:bootBuiltins x=some (.type T))(ha:PA X (e::es) t)(h1:notStar e=true:=by rfl)
  (h2:es.all notStar=true:=by rfl):PE X (.Call (.Name x p) (e::es) [] pos) (D8 r t):=xD hc B.gl B.nm hv ha B.hn B.db (c9 h1) (ee h2)
theorem Bt.ty{n:String}(B:Bt X x)(hv:bootBuiltins x=some (.type n)):PE X (.Name x p) (tC (.ty n)):=lP (v:=.ty n) B.gl B.nm hv rfl B.hn B.db
theorem AN.call(C:AN X x sp)(ha:PA X (e::es) t)(h1:notStar e=true:=by rfl)
  (h2:es.all notStar=true:=by rfl):PE X (.Call (.Name x p) (e::es) [] pos) (mW sp [] E0 t):=by
 obtain⟨k,f,fd,ps,G,hr,nm,kp,bi⟩:=C.ex
 exact vF G hr C.gl nm kp bi .nil ro ha C.db (c9 h1) (ee h2)
end
end L2
namespace J
open PySem PySem.Spec PyProof.Rows
open L2 (Cx V Hp St VK TE TT TA TS TG nJ TI TO R2 Sp XK E0 jC dY dr Gl Binds RelV Vals cL c8 eX)
structure JE(X:Cx)(e:Expr)(t:TE):Prop where
 out:L2.PE X e t
structure JT(X:Cx)(e:Expr)(t:TT):Prop where
 out:L2.PT X e t
structure JW(X:Cx)(e:Expr)(t:TT):Prop where
 out:L2.PW X e t
structure JA(X:Cx)(es:List Expr)(t:TA):Prop where
 out:L2.PA X es t
structure JS(X:Cx)(st:Stmt)(t:TS):Prop where
 out:L2.PS X st t
structure tF(X:Cx)(st:List Stmt)(t:TS):Prop where
 out:L2.tE X st t
structure JG(X:Cx)(tg:Expr)(g:TG):Prop where
 out:L2.PG X tg g
structure FN(X:Cx)(ts:List Expr)(g:nJ):Prop where
 out:L2.Et X ts g
structure JI(X:Cx)(tg it:Expr)(wi:TI):Prop where
 out:L2.PI X tg it wi
structure JO(X:Cx)(e:Option Expr)(t:TO):Prop where
 out:L2.PO X e t
structure JB(X:Cx)(op:Operator)(r:R2):Prop where
 out:L2.gX X (binaryOp op) r
structure JC(X:Cx)(op:CmpOp)(r:R2):Prop where
 out:L2.gX X (compareOp op) r
structure JU(X:Cx)(op:UnaryOp)(r:V→Hp→VK→Prop):Prop where
 out:L2.Ge X (unaryOp op) r
structure JF(X:Cx)(f:Value)(r:List V→Hp→VK→Prop):Prop where
 out:L2.d9 X f r
structure JX(X:Cx)(r:R2):Prop where
 out:L2.ED X r
structure JM(X:Cx)(id:String)(r:V→List V→Hp→VK→Prop):Prop where
 out:L2.F2 X id r
structure JL(X:Cx)(r:V→Option Int→Option Int→Hp→VK→Prop):Prop where
 out:L2.F7 X r
structure dU(b:Expr):Prop where
 out:L2.dU b
section
variable {X:Cx}{a b c e:Expr}{es:List Expr}{ta tb tc te:TE}{t:TA}{tA tB':TT}{pos p2:Pos}{r r':R2}{u v:TS}{st:Stmt}{sts:List Stmt}{tg:Expr}
theorem _root_.a6:JB X .Add (L2.tI fun i j=>.int (i+j)):=⟨L2.Dk⟩
theorem k6:JB X .Sub (L2.tI fun i j=>.int (i - j)):=⟨L2.k6⟩
theorem _root_.bA:JB X .Mult (L2.rI L2.A0 fun i j=>.int (i * j)):=⟨L2.BS⟩
theorem _root_.a7:JB X .FloorDiv (L2.rI L2.Ew fun i j=>.int (i / j)):=⟨L2.Aa⟩
theorem _root_.aO:JB X .Mod (L2.rI (fun _ j=>0 < j) fun i j=>.int (i % j)):=⟨L2.Cc⟩
theorem _root_.cb:JB X .Pow (L2.rI L2.Fd fun i j=>.int (i ^ j.toNat)):=⟨L2.yB⟩
theorem fj:JB X .Add (fun x y H Q=>∃i j,x=.str i∧y=.str j∧i.length+j.length≤sizeLine∧Q (.str (i++j)) H):=⟨L2.fj⟩
theorem uA:JU X .USub (L2.rU fun i=>.int (-i)):=⟨L2.uA⟩
theorem _root_.aK:JC X .Eq L2.Iv:=⟨L2.Fo⟩
theorem _root_.cv:JC X .NotEq L2.HS:=⟨L2.Eg⟩
theorem _root_.bR:JC X .Lt (L2.tI fun i j=>.bl (decide (i < j))):=⟨L2.FA⟩
theorem _root_.bH:JC X .LtE (L2.tI fun i j=>.bl (decide (i≤j))):=⟨L2.qI⟩
theorem _root_.cf:JC X .Gt (L2.tI fun i j=>.bl (decide (j < i))):=⟨L2.En⟩
theorem pV:JC X .Is (fun x y H Q=>y=.non∧Q (.bl (decide (x=.non))) H):=⟨L2.pV⟩
theorem lV:JC X .IsNot (fun x y H Q=>y=.non∧Q (.bl (!decide (x=.non))) H):=⟨L2.lV⟩
theorem iQ:JC X .In (L2.E1 X.K false):=⟨L2.iQ⟩
theorem ei:JC X .NotIn (L2.E1 X.K true):=⟨L2.ei⟩
theorem _root_.aZ:JF X (.builtin "len") (fun xs H Q=>L2.E2 X.K xs H Q):=⟨L2.pQ⟩
theorem _root_.bS:JF X (.type "list") (fun xs H Q=>∃p ys,xs=[.ref p]∧(cL X.K H p ys∨c8 X.K H p ys)∧∀l,H l=none→Q (.ref l) (L2.upd H l (.lst ys))):=⟨L2.qr⟩
theorem fO:JF X (.type "tuple") (fun xs H Q=>∃p ys,xs=[.ref p]∧((cL X.K H p ys∧∀l,H l=none→Q (.ref l) (L2.upd H l (.tup ys)))∨(c8 X.K H p ys∧Q (.ref p) H))):=⟨L2.fO⟩
theorem _root_.cq:JF X (.builtin "isinstance") (fun xs H Q=>L2.ES X.K xs H Q):=⟨L2.jR⟩
theorem _root_.bV(hc:X.calm=true):JF X (.builtin "all") (fun xs H Q=>∃(p:Addr) (bs:List Bool),xs=[.ref p]∧cL X.K H p (bs.map V.bl)∧Q (.bl (bs.all id)) H):=⟨L2.oJ hc⟩
theorem ku:JF X (.type "int") (fun xs H Q=>(∃i,xs=[.int i]∧Q (.int i) H)∨∃k,xs=[.bl k]∧Q (.int (if k then 1 else 0)) H):=⟨L2.ku⟩
theorem iS(hc:X.calm=true):JF X (.builtin "max") (fun xs H Q=>∃i j,xs=[.int i,.int j]∧Q (.int (if j > i then j else i)) H):=⟨L2.iS hc⟩
theorem kq(hc:X.calm=true):JF X (.builtin "min") (fun xs H Q=>∃i j,xs=[.int i,.int j]∧Q (.int (if j < i then j else i)) H):=⟨L2.kq hc⟩
theorem _root_.a5:JX X (L2.x6 X.K):=⟨L2.qA⟩
theorem _root_.aw:JX X (L2.A7 X.K):=⟨L2.yh⟩
theorem m8:JX X L2.C6:=⟨L2.m8⟩
theorem _root_.bN{l r:Expr}{op:Operator}{p:Pos}:dU (.BinOp l op r p):=⟨L2.Fz⟩
theorem _root_.bo{x:Str}{p:Pos}:dU (.Name x p):=⟨L2.AL⟩
theorem _root_.ao{c:Const}{k:Nat}{p:Pos}:dU (.Constant c k p):=⟨L2.Ca⟩
theorem Bp{f:Expr}{as:List Expr}{kw:List Keyword}{p:Pos}:dU (.Call f as kw p):=⟨fun _ _=>rfl⟩
theorem _root_.ck:JL X (L2.EG X.K):=⟨L2.Bo⟩
theorem ph:JL X L2.Ep:=⟨L2.ph⟩
theorem _root_.bY:JO X none L2.vp:=⟨L2.Bi⟩
theorem _root_.bM(h:JE X e te):JO X (some e) (L2.BQ te):=⟨L2.zZ h.out⟩
theorem _root_.ae{i j pos}:JE X (.Constant (.int i) j pos) (L2.tC (.int i)):=⟨L2.kJ⟩
theorem _root_.bp{b j pos}:JE X (.Constant (.bool b) j pos) (L2.tC (.bl b)):=⟨L2.Bx⟩
theorem _root_.cj{j pos}:JE X (.Constant .none j pos) (L2.tC .non):=⟨L2.C2⟩
theorem _root_.aN{x j pos}:JE X (.Constant (.str x) j pos) (L2.tC (.str x)):=⟨L2.uI⟩
theorem _root_.ah{op:Operator}(ho:JB X op r)(ha:JE X a ta)(hb:JE X b tb):JE X (.BinOp a op b pos) (L2.uZ r ta tb):=⟨L2.BK ho.out ha.out hb.out⟩
theorem yO{op:UnaryOp}{r:V→Hp→VK→Prop}(ho:JU X op r)(ha:JE X a ta):JE X (.UnaryOp op a pos) (L2.HY r ta):=⟨L2.yO ho.out ha.out⟩
theorem _root_.ag(hr:JX X r)(ha:JE X a ta)(hb:JE X b tb)(hs:dU b):JE X (.Subscript a b pos) (L2.uZ r ta tb):=⟨L2.EK hr.out ha.out hb.out hs.out⟩
theorem _root_.bQ{r:V→Option Int→Option Int→Hp→VK→Prop}{lo hi:Option Expr}{tl th:TO}(hr:JL X r)(he:JE X e te)(hl:JO X lo tl)(hu:JO X hi th):JE X (.Subscript e (.Slice lo hi none p2) pos) (L2.Ii r te tl th):=⟨L2.yr hr.out he.out hl.out hu.out⟩
theorem _root_.aU{op:CmpOp}(ho:JC X op r)(ha:JE X a ta)(hb:JE X b tb)(hm:behindInMarks op b=false):JE X (.Compare a [op] [b] pos) (L2.uZ r ta tb):=⟨L2.uS ho.out ha.out hb.out hm⟩
theorem _root_.aF{op:CmpOp}(ho:JC X op r)(ha:JE X a ta)(hb:JE X b tb)(hm:behindInMarks op b=false):JT X (.Compare a [op] [b] pos) (L2.oG (L2.uZ r ta tb)):=⟨L2.Ag ho.out ha.out hb.out hm⟩
theorem fg{op op':CmpOp}(ho:JC X op r)(ho':JC X op' r')(ha:JE X a ta)(hb:JE X b tb)(hc:JE X c tc)(hm:lastMarks [op,op'] [b,c]=false):JE X (.Compare a [op,op'] [b,c] pos) (L2.qp r r' ta tb tc):=⟨L2.fg ho.out ho'.out ha.out hb.out hc.out hm⟩
theorem iq{op op':CmpOp}(ho:JC X op r)(ho':JC X op' r')(ha:JE X a ta)(hb:JE X b tb)(hc:JE X c tc)(hm:lastMarks [op,op'] [b,c]=false):JT X (.Compare a [op,op'] [b,c] pos) (L2.oG (L2.qp r r' ta tb tc)):=⟨L2.iq ho.out ho'.out ha.out hb.out hc.out hm⟩
theorem _root_.b9{op:CmpOp}{x:Str}{p:Pos}:behindInMarks op (.Name x p)=false:=rfl
theorem yc{op:CmpOp}{es:List Expr}{k:Nat}{p:Pos}:behindInMarks op (.Tuple es k p)=false:=rfl
theorem _root_.aY{op}(h:JE X a te):JE X (.BoolOp op [a] pos) te:=⟨L2.qw h.out⟩
theorem _root_.aT(ha:JE X a ta)(hb:JE X (.BoolOp .And (b::es) pos) tb):JE X (.BoolOp .And (a::b::es) pos) (L2.xJ ta tb):=⟨L2.qx ha.out hb.out⟩
theorem o9(ha:JE X a ta)(hb:JE X (.BoolOp .Or (b::es) pos) tb):JE X (.BoolOp .Or (a::b::es) pos) (L2.zO ta tb):=⟨L2.o9 ha.out hb.out⟩
theorem mv(ha:JE X a ta):JE X (.UnaryOp .Not a pos) (L2.Bw ta):=⟨L2.mv ha.out⟩
theorem _root_.bu(ha:JT X a tA):JW X (.BoolOp .And [a] pos) tA:=⟨L2.Aj ha.out⟩
theorem _root_.cm(ha:JT X a tA):JW X (.BoolOp .Or [a] pos) tA:=⟨L2.zt ha.out⟩
theorem _root_.br(ha:JT X a tA)(hb:JW X (.BoolOp .And (b::es) pos) tB'):JW X (.BoolOp .And (a::b::es) pos) (L2.xh tA tB'):=⟨L2.CZ ha.out hb.out⟩
theorem _root_.bZ(ha:JT X a tA)(hb:JW X (.BoolOp .Or (b::es) pos) tB'):JW X (.BoolOp .Or (a::b::es) pos) (L2.Ij tA tB'):=⟨L2.BE ha.out hb.out⟩
theorem _root_.bf(h:JW X e tA):JT X e tA:=⟨h.out.pt⟩
theorem _root_.ba(ha:JT X a tA):JT X (.UnaryOp .Not a pos) (L2.Fx tA):=⟨L2.uC ha.out⟩
theorem _root_.bj{f:Expr}{as:List Expr}{kw:List Keyword}{p:Pos}(h:JE X (.Call f as kw p) te):JT X (.Call f as kw p) (L2.tB te):=⟨L2.Ai h.out⟩
theorem _root_.bz:JA X [] L2.jl:=⟨L2.jw⟩
theorem ur(ha:JE X e te)(hr:JA X es t)(h:L2.notStar e=true:=by rfl):JA X (e::es) (L2.da te t):=⟨L2.ur ha.out hr.out h⟩
theorem _root_.ak(a:JE X e te)(i:L2.notStar e=true:=by rfl):JA X [e] (L2.da te L2.jl):=ur a bz i
theorem _root_.aD{e₁:Expr}{t₁:TE}(a0:JE X e te)(a1:JE X e₁ t₁)(i0:L2.notStar e=true:=by rfl)(i1:L2.notStar e₁=true:=by rfl):JA X [e,e₁] (L2.da te (L2.da t₁ L2.jl)):=ur a0 (ak a1 i1) i0
theorem _root_.aQ{e₁ e₂:Expr}{t₁ t₂:TE}(a0:JE X e te)(a1:JE X e₁ t₁)(a2:JE X e₂ t₂)(i0:L2.notStar e=true:=by rfl)(i1:L2.notStar e₁=true:=by rfl)(i2:L2.notStar e₂=true:=by rfl):JA X [e,e₁,e₂] (L2.da te (L2.da t₁ (L2.da t₂ L2.jl))):=ur a0 (aD a1 a2 i1 i2) i0
theorem _root_.bI{e₁ e₂ e₃:Expr}{t₁ t₂ t₃:TE}(a0:JE X e te)(a1:JE X e₁ t₁)(a2:JE X e₂ t₂)(a3:JE X e₃ t₃)(i0:L2.notStar e=true:=by rfl)(i1:L2.notStar e₁=true:=by rfl)(i2:L2.notStar e₂=true:=by rfl)(i3:L2.notStar e₃=true:=by rfl):JA X [e,e₁,e₂,e₃] (L2.da te (L2.da t₁ (L2.da t₂ (L2.da t₃ L2.jl)))):=ur a0 (aQ a1 a2 a3 i1 i2 i3) i0
theorem Jf{e₁ e₂ e₃ e₄:Expr}{t₁ t₂ t₃ t₄:TE}(a0:JE X e te)(a1:JE X e₁ t₁)(a2:JE X e₂ t₂)(a3:JE X e₃ t₃)(a4:JE X e₄ t₄)(i0:L2.notStar e=true:=by rfl)(i1:L2.notStar e₁=true:=by rfl)(i2:L2.notStar e₂=true:=by rfl)(i3:L2.notStar e₃=true:=by rfl)(i4:L2.notStar e₄=true:=by rfl):JA X [e,e₁,e₂,e₃,e₄] (L2.da te (L2.da t₁ (L2.da t₂ (L2.da t₃ (L2.da t₄ L2.jl))))):=ur a0 (bI a1 a2 a3 a4 i1 i2 i3 i4) i0
theorem _root_.bg(h:JA X es t):JE X (.List es pos) (L2.FQ t):=⟨L2.DJ h.out⟩
theorem _root_.aR{k}(h:JA X es t):JE X (.Tuple es k pos) (L2.Bc t):=⟨L2.C9 h.out⟩
theorem iI:JE X (.Dict [] [] pos) L2.Bu:=⟨L2.iI⟩
theorem l6 {x:Str}{v:V}{u:Value}(hg:Gl X x) (hm:X.mg x=some u) (r:RelV v u) (hd:(x == ("__debug__" :Str))=false):JE X (.Name x pos) (L2.tC v):=⟨L2.l6 hg hm r hd⟩
theorem _root_.aV(h:JE X e te):JI X tg e (L2.Br X.K te):=⟨L2.AX h.out⟩
theorem ud(h:JE X e te):JI X tg e (L2.E4 X.K te):=⟨L2.ud h.out⟩
theorem _root_.aM:tF X [] L2.sR:=⟨L2.vB⟩
theorem _root_.af(h1:JS X st u)(h2:tF X sts v):tF X (st::sts) (L2.AB u v):=⟨L2.sI h1.out h2.out⟩
theorem _root_.aj(h1:JS X st u):tF X [st] u:=⟨L2.jM h1.out⟩
theorem _root_.cD:tF X sts L2.yX:=⟨L2.wR⟩
theorem _root_.au(h:JE X e te):JS X (.Return (some e) pos) (L2.EM te):=⟨L2.mF h.out⟩
theorem _root_.bL(h:JE X e te)(hc:L2.ji e=false:=by rfl):JS X (.Expr e pos) (L2.xO te):=⟨L2.Ff h.out hc⟩
theorem _root_.aJ{c:Expr}{x y:List Stmt}{tc:TT}(hc:JT X c tc)(ha:tF X x u)(hb:tF X y v):JS X (.If c x y pos) (L2.xU tc u v):=⟨L2.Bz hc.out ha.out hb.out⟩
theorem _root_.bq{it:Expr}{body:List Stmt}{wi:TI}{g:TG}{tb:TS}(hp:PassesOwn (model X.prog X.w) X.A X.env X.xe)(hc:X.calm=true)(hi:JI X tg it wi)(hg:JG X tg g)(hb:tF X body tb)
  (hs:∀x,foldedSetIterable it X.env x=pure x:=by intro _;rfl):JS X (.For tg it body [] pos) (L2.Ek wi g tb):=⟨L2.C4 hp hc hi.out hg.out hb.out hs⟩
end
section
variable {X:Cx}{i:Nat}{x:Str}{sp:Sp}{p pos pos':Pos}{e:Expr}{es:List Expr}{te:TE}{t:TA}{tg:Expr}
theorem _root_.aa(S:L2.Slot X i x):JE X (.Name x p) (L2.dE i):=⟨S.rd⟩
theorem _root_.aB(S:L2.Slot X i x)(nd:X.N.Nodup)(he:JE X e te)(h:L2.ji e=false:=by rfl):JS X (.Assign [.Name x pos'] e pos) (L2.qY te (L2.d7 i)):=⟨S.set nd he.out h⟩
theorem _root_.aP(S:L2.Slot X i x)(nd:X.N.Nodup):JG X (.Name x p) (L2.d7 i):=⟨S.tg nd⟩
theorem _root_.aE{id:String}{r:List V→Hp→VK→Prop}(B:L2.Bt X x)(hc:JF X (.builtin id) r)(hv:bootBuiltins x=some (.builtin id))(ha:JA X (e::es) t)(h1:L2.notStar e=true:=by rfl)(h2:es.all L2.notStar=true:=by rfl):
  JE X (.Call (.Name x p) (e::es) [] pos) (L2.D8 r t):=⟨B.call hc.out hv ha.out h1 h2⟩
theorem _root_.bG{T:String}{r:List V→Hp→VK→Prop}(B:L2.Bt X x)(hc:JF X (.type T) r)(hv:bootBuiltins x=some (.type T))(ha:JA X (e::es) t)(h1:L2.notStar e=true:=by rfl)(h2:es.all L2.notStar=true:=by rfl):
  JE X (.Call (.Name x p) (e::es) [] pos) (L2.D8 r t):=⟨B.Fs hc.out hv ha.out h1 h2⟩
theorem ty{n:String}(B:L2.Bt X x)(hv:bootBuiltins x=some (.type n)):JE X (.Name x p) (L2.tC (.ty n)):=⟨B.ty hv⟩
theorem _root_.av(C:L2.AN X x sp)(ha:JA X (e::es) t)(h1:L2.notStar e=true:=by rfl)(h2:es.all L2.notStar=true:=by rfl):JE X (.Call (.Name x p) (e::es) [] pos) (L2.mW sp [] E0 t):=⟨C.call ha.out h1 h2⟩
theorem e9 (B:L2.Bt X "range") (ha:JA X [e] t) (h:L2.notStar e=true:=by rfl):JI X tg (.Call (.Name "range" p) [e] [] pos) (L2.BH t):=⟨L2.e9 B.gl B.nm ha.out (L2.c9 h)⟩
end
theorem E3{P:Program}{w:World}{K:PySem.W.Frag}{mg:Str→Option Value}{base:Heap}{x qual:Str}{st:Stmt}{f:Addr}{fd:FuncData}{N ps:List Str}{k:Nat}{sp:Sp}(F:L2.lM K x qual st f fd)(S:L2.cJ N ps (L2.cG st))(len:∀vs H Q E,sp vs H Q E→vs.length=ps.length)
  (hbody:∀(X:Cx)(cdv:Value)(A:Around)(outer:List Env)(s:Shared)(H:Hp)(vs:List V)(Q:VK)(E:XK),X=(L2.qO jC P w K mg base N qual (L2.cG st) f cdv A outer s H E).zF→dr k X.A→sp vs H Q E→
   ∃t,tF X (L2.cN st) t∧t { nx:=fun _ H'=>Q .non H',rt:=Q } (L2.start N vs) H):dY P w K mg base jC (k+1) f fd ps sp:=by
 refine F.ok S len (fun cdv A outer s H vs Q E hr h=>?_)
 obtain⟨t,h1,h2⟩:=hbody _ cdv A outer s H vs Q E rfl hr h
 exact⟨t,h1.out,h2⟩
end J
namespace Z
open PySem PySem.Spec PyProof.Rows
section
variable {prog:Program}{w:World}{A:Around}{E:Value→Shared→Prop}{s:Shared}
end
structure Ap(z TI TO i1 i2:Addr)(fp1 fp2:List Addr):Prop where
 TIz:TI≠z
 TOz:TO≠z
 TITO:TI≠TO
 TI1:TI≠i1
 TI2:TI≠i2
 z1:z ∉ fp1
 z2:z ∉ fp2
 o1:TO ∉ fp1
 o2:TO ∉ fp2
 m1:i1∈fp1
 m2:i2∈fp2
 x12:i1 ∉ fp2
 x21:i2 ∉ fp1
section
variable {prog:Program}{w:World}{A:Around}{E:Value→Shared→Prop}{s:Shared}{z TI TO i1 i2:Addr}{fp1 fp2:List Addr}{n1 n2:Nat}{P1 P2:Nat→Value→Prop}{S1 S2:Nat→Heap→Prop}
end
end Z
namespace L2
open PySem PySem.Spec PyProof.Rows
theorem Inv.wW{X:Cx}{pins:List (Addr×Obj)}{σ:St}{H:Hp}{s:Shared}{g:Heap}{t':Nat}{fp:List Addr}{T:Addr}{o:HO}(I:Inv X pins σ H s)(hf:∀b∈fp,iu X pins H b)
  (k:∀b u,b ∉ fp→s.heap.get? b=some u→g.get? b=some u)(hT:s.heap.objs.size≤T)(nf:∀b∈fp,∃u,s.heap.get? b=some u)(new:df X.prog X.w (upd H T o) g T o):Inv X pins σ (upd H T o) { s with heap:=g,toks:=t' }:=by
 have hn:H T=none:=I.hok.fresh hT
 have zE:∀b u,H b=some u→b ∉ fp:=fun b u e z=>by rw[(hf b z).1]at e;cases e
 refine I.step (g':=s.gens) (d':=s.drawn) (ch:=fp) (fun b hb=>⟨(hf b hb).2.2.2.1,(hf b hb).2.1,(hf b hb).2.2.2.2.1,(hf b hb).2.2.2.2.2⟩) (fun b u _ _ hc e _=>k b u hc e) (fun b u _ _ hc e _=>⟨u.slots,k b u hc e⟩) (fun b u _ e n=>?_)
  (fun b u hc e=>⟨u,k b u hc e⟩) (fun b xs e=>?_) (fun b u xs e=>?_) (fun b ps e=>⟨#[],?_⟩) (fun m hm=>?_) (fun b u e=>?_) I.bare
 ·rw[cH (ne_of_lt (lt_of_lt_of_le (lt_size e) hT))]
  exact n
 ·rw[cH (cF e hn)]
  exact e
 ·rw[cH (cF e hn)]
  exact e
 ·rw[cH (cF e hn),e]
  simp
 ·obtain⟨ob,es,ep,ho,r⟩:=hm
  exact⟨ob,es,ep,k _ ob (fun z=>(hf _ z).2.1 rfl) ho,r⟩
 ·by_cases hb:b=T
  ·subst hb
   rw[cE]at e
   cases e
   exact new
  ·rw[cH hb]at e
   refine(I.hok b u e).nG (fun c v hc q=>k c v ?_ q) (fun c q=>by rw[cH (cF q hn)];exact q) fun c xs q=>by rw[cH (cF q hn)];exact q
   rcases hc with rfl|hc
   ·exact zE c u e
   ·exact zE c _ hc
theorem Inv.kB{X:Cx}{pins:List (Addr×Obj)}{σ:St}{H:Hp}{s:Shared}{g:Heap}{t':Nat}{fp:List Addr}(I:Inv X pins σ H s)(hf:∀b∈fp,iu X pins H b)
  (k:∀b u,b ∉ fp→s.heap.get? b=some u→g.get? b=some u):Inv X pins σ H { s with heap:=g,toks:=t' }:=by
 have zE:∀b u,H b=some u→b ∉ fp:=fun b u e z=>by rw[(hf b z).1]at e;cases e
 refine I.step (g':=s.gens) (d':=s.drawn) (ch:=fp) (fun b hb=>⟨(hf b hb).2.2.2.1,(hf b hb).2.1,(hf b hb).2.2.2.2.1,(hf b hb).2.2.2.2.2⟩) (fun b u _ _ hc e _=>k b u hc e) (fun b u _ _ hc e _=>⟨u.slots,k b u hc e⟩) (fun _ _ _ _ n=>n)
  (fun b u hc e=>⟨u,k b u hc e⟩) (fun _ _ e=>e) (fun _ _ _ e=>e) (fun b ps e=>⟨#[],by rw[e];simp⟩) (fun m hm=>?_) (fun b u e=>?_) I.bare
 ·obtain⟨ob,es,ep,ho,r⟩:=hm
  exact⟨ob,es,ep,k _ ob (fun z=>(hf _ z).2.1 rfl) ho,r⟩
 ·refine(I.hok b u e).nG (fun c v hc q=>k c v ?_ q) (fun _ q=>q) fun _ _ q=>q
  rcases hc with rfl|hc
  ·exact zE c u e
  ·exact zE c _ hc
def rV(q:Bool)(K:PySem.W.Frag)(H:Hp)(a:Addr)(xs:List V):Prop:=match q with
 |true=>cL K H a xs
 |false=>c8 K H a xs
def Dt(q:Bool)(h:Heap)(it a:Addr)(i:Nat):Prop:=match q with
 |true=>h.IsListIter it a i
 |false=>h.IsTupleIter it a i
def isAt(q:Bool)(h:Heap)(a:Addr)(its:Array Value):Prop:=match q with
 |true=>h.IsList a its
 |false=>h.IsTuple a its
def Cw(q:Bool):String:=match q with
 |true=> "list_iterator"
 |false=> "tuple_iterator"
theorem rH{q:Bool}{h:Heap}{it a:Addr}{i:Nat}(p:Dt q h it a i):∃o,h.get? it=some o∧∀v,o.data≠.cell v:=by
 cases q with
 |true=>obtain⟨o,e,c,d⟩:=p;exact⟨o,e,fun v z=>by rw[d]at z;cases z⟩
 |false=>obtain⟨o,e,c,d⟩:=p;exact⟨o,e,fun v z=>by rw[d]at z;cases z⟩
theorem v8{q:Bool}{h g:Heap}{it a:Addr}{i:Nat}(p:Dt q h it a i)(k:∀o,h.get? it=some o→g.get? it=some o):Dt q g it a i:=by
 cases q with
 |true=>obtain⟨o,e,r⟩:=p;exact⟨o,k o e,r⟩
 |false=>obtain⟨o,e,r⟩:=p;exact⟨o,k o e,r⟩
def IM(K:PySem.W.Frag)(q1 q2:Bool)(a1 a2:Addr):It:=
 ⟨fun i H=>∃xs ys x y,rV q1 K H a1 xs∧rV q2 K H a2 ys∧xs[i]? =some x∧ys[i]? =some y,
  fun i H v H'=>∃p x y,H p=none∧v=.ref p∧H'=upd H p (.tup [x,y])∧(∀xs,rV q1 K H a1 xs→xs[i]? =some x)∧(∀ys,rV q2 K H a2 ys→ys[i]? =some y),
  fun i H=>∃xs,rV q1 K H a1 xs∧xs.length=i⟩
end L2
namespace L2
open PySem PySem.Spec PyProof.Rows
abbrev EE(q:Bool)(h:Heap)(a:Addr):Heap:=h.push { cls:=.type (Cw q),data:=.fields #[.ref a,.int 0 0] }
abbrev IA(q1 q2:Bool)(h:Heap)(a b:Addr):Heap:=(EE q2 (EE q1 h a) b).push { cls:=.type "tuple",data:=.seq #[.ref h.objs.size,.ref (EE q1 h a).objs.size] }
abbrev Kg(q1 q2:Bool)(h:Heap)(a b:Addr):Heap:=(IA q1 q2 h a b).push { cls:=.type "tuple",data:=.seq #[.none,.none] }
abbrev Kx(q1 q2:Bool)(h:Heap)(a b:Addr):Heap:=(Kg q1 q2 h a b).push { cls:=.type "zip",data:=.fields #[.none,.bool false,.bool false,.ref (EE q2 (EE q1 h a) b).objs.size,.ref (IA q1 q2 h a b).objs.size] }
theorem Gz(n b:Nat)(h:b∈[n+1,n]):n≤b:=by
 simp only[mem_cons,not_mem_nil,or_false]at h
 omega
theorem qi:bootBuiltins "enumerate" =some (.type "enumerate"):=by decide+kernel
def J9(K:PySem.W.Frag)(ta:TA):TI:=fun σ H R=>ta σ H fun vs H1=>∃q a1 a2,vs=[.ref a1,.ref a2]∧(∃xs,rV q K H1 a1 xs)∧(∃ys,rV q K H1 a2 ys)∧R (IM K q q a1 a2) H1
theorem AY{X:Cx}{pins:List (Addr×Obj)}{σ:St}{H:Hp}{s:Shared}{q:Bool}{a:Addr}{xs:List V}(I:Inv X pins σ H s)(h:rV q X.K H a xs):a < s.heap.objs.size:=by
 cases q with
 |true=>obtain⟨its,r,⟨o,n,e,_⟩,z⟩:=I.list h;exact lt_size e
 |false=>obtain⟨its,r,⟨o,e,_⟩,z⟩:=I.tuple h;exact lt_size e
section
variable {X:Cx}
end
def D4(K:PySem.W.Frag)(a:Addr):It:=
 ⟨fun i H=>∃xs x,cL K H a xs∧xs[i]? =some x,fun i H v H'=>∃p x,H p=none∧v=.ref p∧H'=upd H p (.tup [.int i,x])∧∀xs,cL K H a xs→xs[i]? =some x,fun i H=>∃xs,cL K H a xs∧xs.length=i⟩
theorem xF{P:Program}{w:World}{K:PySem.W.Frag}{es:List Expr}{kk:Nat}{tp:Pos}{a:Addr}(e it:Addr)(ne:e≠it)(n1:a≠e)(n2:a≠it):
  Turn P w K (.Tuple es kk tp) (D4 K a) [e,it] e (fun i h=>(∃old,IsEnum h e it i old)∧h.IsListIter it a i):=by
 refine⟨by simp,fun i h st b hb=>?_,fun i h g st k=>?_,?_,?_,fun A i s Q E st h=>?_⟩
 ·obtain⟨⟨old,ce⟩,c1⟩:=st
  simp only[mem_cons,not_mem_nil,or_false]at hb
  rcases hb with rfl|rfl
  ·exact⟨_,ce,fun v e=>by cases e⟩
  ·exact rH (q:=true) c1
 ·obtain⟨⟨old,ce⟩,c1⟩:=st
  exact⟨⟨old,k _ (by simp) _ ce⟩,v8 (q:=true) c1 fun o e=>k _ (by simp) o e⟩
 ·intro X hP hw hK hc i pins s σ H E I hf st hg
  subst hP hw hK
  obtain⟨⟨old,ce⟩,c1⟩:=st
  obtain⟨xs,x,hx,ex⟩:=hg
  obtain⟨its,r,p,l⟩:=I.list hx
  obtain⟨u,eu,ru⟩:=r.get ex
  have W:=WalksT.enumerate (prog:=X.prog) (w:=X.w) (A:=X.A) (I.ok.hd hc) e it a ne n1 n2 its.toArray
  have hi:i < its.toArray.size:=by
   have:=(List.getElem?_eq_some_iff.mp eu).1
   simpa using this
  refine W.item i s _ _ hi ⟨⟨old,ce⟩,c1,p.isList⟩ fun T vals g tk hP hT hTup hM kp=>?_
  obtain⟨t,v,hv,rfl⟩:=hP
  have hvu:v=u:=by
   have:its[i]? =some v:=by simpa using hv
   rw[eu]at this
   exact(Option.some.inj this).symm
  subst hvu
  have hTw:T ∉ [e,it]:=W.apart i T g hM
  refine⟨_,rfl,W.go es kk tp i T { s with heap:=g,toks:=tk } _ _ hM fun g2 st2 kp2=>?_⟩
  have hn:H T=none:=I.hok.fresh hT
  have kk2:∀b u,b ∉ [e,it]→s.heap.get? b=some u→g2.get? b=some u:=fun b u hb q=>kp2 b u hb (kp b u hb q)
  have I2:Inv X pins σ (upd H T (.tup [.int i,x])) { s with heap:=g2,toks:=tk }:=by
   refine I.wW hf kk2 hT (fun b hb=>?_) ⟨by show 2≤sizeLine;decide,[.int i t,v],.cons ⟨t,rfl⟩ (.cons ru .nil),?_⟩
   ·simp only[mem_cons,not_mem_nil,or_false]at hb
    rcases hb with rfl|rfl
    ·exact⟨_,ce⟩
    ·obtain⟨o,q,_⟩:=rH (q:=true) c1;exact⟨o,q⟩
   ·obtain⟨o,q,rest⟩:=hTup
    exact⟨o,kp2 T o hTw q,rest⟩
  refine⟨.ref T,_,I2,rfl,⟨T,x,hn,rfl,rfl,fun zs hz=>by rw[I.rG hz hx];exact ex⟩,⟨by simpa using st2.1,st2.2.1⟩,fun b hb=>?_⟩
  have hbT:b≠T:=by
   rintro rfl
   exact hTw hb
  rw[cH hbT]
  exact(hf b hb).1
 ·intro X hP hw hK hc i pins s σ H E I hf st hg
  subst hP hw hK
  obtain⟨⟨old,ce⟩,c1⟩:=st
  obtain⟨xs,hx,rfl⟩:=hg
  obtain⟨its,r,p,l⟩:=I.list hx
  have W:=WalksT.enumerate (prog:=X.prog) (w:=X.w) (A:=X.A) (I.ok.hd hc) e it a ne n1 n2 its.toArray
  have e1:xs.length=its.toArray.size:=by rw[size_toArray];exact r.length
  rw[e1]at ce c1
  exact W.done s _ _ ⟨⟨old,ce⟩,c1,p.isList⟩ fun g tk kp=>⟨rfl,I.kB hf kp⟩
 ·obtain⟨⟨old,ce⟩,c1⟩:=st
  exact wpAny_pyIter_enum ce h
def Bv(K:PySem.W.Frag)(ta:TA):TI:=fun σ H R=>ta σ H fun vs H1=>∃a,vs=[.ref a]∧(∃xs,cL K H1 a xs)∧R (D4 K a) H1
section
variable {X:Cx}
theorem Bn {e1:Expr}{es:List Expr}{kk:Nat}{tp p pos:Pos}{ta:TA}(B:Bt X "enumerate") (ha:PA X [e1] ta) (h1:notStar e1=true:=by rfl):PI X (.Tuple es kk tp) (.Call (.Name "enumerate" p) [e1] [] pos) (Bv X.K ta):=by
 intro pins s σ H R I h
 refine wpAny_Call_Name_kw (nE I B.gl B.nm qi ?_ B.hn B.db)
 refine PyProof.Rows.callWith_type1 (dq (ha pos pins s σ H _ I h) fun us s1 hpat=>?_) (c9 h1) (ee rfl)
 obtain⟨vs,H1,I1,r1,a,e,⟨xs,m1⟩,q⟩:=hpat
 subst e
 obtain⟨u1,rfl,rx⟩:=vals1 r1
 cases rx
 obtain⟨its,v1,p1,l1⟩:=I1.list m1
 have b1:a < s1.heap.objs.size:=AY (q:=true) I1 m1
 refine call_enumerate_list p1.isList fun g ge gi _ kp=>?_
 refine wpAny_pyIter_enum ge ?_
 refine⟨_,_,_,_,H1,rfl,I1.kept (t':=s1.toks) kp,xF (a:=a) (s1.heap.objs.size+1) s1.heap.objs.size (ne_of_gt (lt_succ_self _)) (ne_of_lt (lt_succ_of_lt b1)) (ne_of_lt b1),⟨⟨_,ge⟩,gi⟩,fun b hb=>?_,q⟩
 have hle:s1.heap.objs.size≤b:=Gz _ _ hb
 exact I1.vO hle (I1.hok.fresh hle)
end
theorem hJ{K:PySem.W.Frag}{a:Addr}{xs:List V}{g:TG}{tb:TS}{D:Ends}{σ:St}{H:Hp}(Pv:Nat→St→Hp→Prop)(h0:Pv 0 σ H)(hq:∀i σ H,Pv i σ H→cL K H a xs)
  (hs:∀(i:Nat) x p σ H,xs[i]? =some x→H p=none→Pv i σ H→g (.ref p) σ (upd H p (.tup [.int i,x])) fun σ2 H2=>tb { D with nx:=Pv (i+1),ct:=Pv (i+1),bk:=D.nx } σ2 H2)(hd:∀σ H,Pv xs.length σ H→D.nx σ H):
  ∃W:Nat→Nat→St→Hp→Prop,(∃m,W 0 m σ H)∧∀i m σ H,W i m σ H→
   ((D4 K a).stop i H∧D.nx σ H)∨((D4 K a).go i H∧∃N:St→Hp→Prop,(∀σ' H',N σ' H'→∃m',m' < m∧W (i+1) m' σ' H')∧∀x H',(D4 K a).yld i H x H'→g x σ H' fun σ2 H2=>tb { D with nx:=N,ct:=N,bk:=D.nx } σ2 H2):=by
 refine⟨fun i m σ H=>m=xs.length - i∧i≤xs.length∧Pv i σ H,⟨xs.length,by simp,zero_le _,h0⟩,?_⟩
 rintro i m σ H ⟨rfl,hi,p⟩
 have m1:=hq i σ H p
 by_cases hlt:i < xs.length
 ·refine .inr ⟨⟨xs,xs[i],m1,by simp[hlt]⟩,Pv (i+1),fun σ' H' p'=>⟨xs.length - (i+1),by omega,rfl,hlt,p'⟩,fun v H' y=>?_⟩
  obtain⟨pp,x,hn,rfl,rfl,e1⟩:=y
  exact hs i x pp σ H (e1 xs m1) hn p
 ·have e:i=xs.length:=by omega
  subst e
  exact .inl ⟨⟨xs,m1,rfl⟩,hd σ H p⟩
theorem mU:∀{zs:List Str}{us:List Value},Vals (zs.map V.str) us→StrsAre us zs
 |[],_,r=>by cases r;exact .nil
 |z::zs,_,r=>by
  cases r with
  |cons r1 r2=>
   obtain⟨t,rfl⟩:=r1
   exact .cons z t (mU r2)
theorem pF{X:Cx}:F2 X "str.join" (fun x vs H Q=>∃(sep:Str) (p:Addr) (zs:List Str),x=.str sep∧vs=[.ref p]∧cL X.K H p (zs.map V.str)∧(zs.map (·.length)).sum+zs.length * sep.length≤16777216∧Q (.str (Txt.join sep zs)) H):=by
 intro pins s σ H x xs v us Q I rx rs h
 obtain⟨sep,p,zs,rfl,rfl,hq,hz,q⟩:=h
 obtain⟨t,rfl⟩:=rx
 obtain⟨u,rfl,ru⟩:=vals1 rs
 cases ru
 obtain⟨its,r,pl,_⟩:=I.list hq
 exact join_list pl.isList (by simpa using mU r) hz fun t' k=>⟨.str _,H,I.tok _,⟨_,rfl⟩,q⟩
end L2
namespace L2
open PySem PySem.Spec PyProof.Rows
local instance keyBEq:BEq Key:=instBEqOfDecidableEq
local instance keyLBEq:@LawfulBEq Key keyBEq:=inferInstanceAs (@LawfulBEq Key instBEqOfDecidableEq)
theorem j5{prog:Program}{w:World}{h:Heap}{a:Addr}{S S':Key→Bool}{n n':Nat}(hS:h.SetOf (cO prog w) a S n)(e:∀k,S k=S' k)(en:n=n'):h.SetOf (cO prog w) a S' n':=by
 have:S=S':=funext e
 subst this
 subst en
 exact hS
section
variable {prog:Program}{w:World}{A:Around}{R:Result→Shared→Prop}{I:Addr}{fp wr:List Addr}{G:Array GenState→Array GenState→Prop}{n:Nat}{P:Nat→Value→Prop}{St:Nat→Shared→Prop}
theorem setLoop(W:WalksS prog w A.in1 I fp wr G n P St)(S:Addr)(hSf:S ∉ fp)(key:Nat→Key)(hval:∀i v,P i v→iG (key i) v=true∧v.scannable=true)
  (hnd:∀i j,i < j→j < n→key i≠key j)(hb:n+1 < scanBound):∀(k i:Nat) (s:Shared),n - i=k→i≤n→St i s→s.heap.SetOf (cO prog w) S (fun c=>(List.range i).any fun j=>decide (c=key j)) i→
   (∀s',Moved (S::wr) G s s'→s'.heap.SetOf (cO prog w) S (fun c=>(List.range n).any fun j=>decide (c=key j)) n→R (.ok (.ret .none)) s')→
   codeAny (model prog w) A (.builtin "set.update.loop" ⟨[.ref S,.ref I],[]⟩) R s:=by
 have hSw:S ∉ wr:=fun h=>hSf (W.sub _ h)
 have hsub:∀b∈wr,b∈S::wr:=fun b hb=>mem_cons_of_mem _ hb
 have nG:∀{s s':Shared}{T:Key→Bool}{m:Nat},Moved wr G s s'→s.heap.SetOf (cO prog w) S T m→s'.heap.SetOf (cO prog w) S T m:=fun hm ⟨o,es,ep,tb,ho,rest⟩=>⟨o,es,ep,tb,hm.heap S _ hSw ho,rest⟩
 intro k
 induction k with
 |zero=>
  intro i s hk hi hst hS hR
  obtain rfl:i=n:=by omega
  refine codeAny_builtin PyProof.Rows.F.entry_set_update_loop ?_
  rw[Around.under_plainId PyProof.Rows.F.plain_set_update_loop _]
  show wpAny _ A.in1 (pyNext (.ref I) >>= _) _ _ s
  refine wpAny_bind (W.done s _ _ hst fun s' hm=>?_)
  show wpAny _ A.in1 (ret Value.none) _ _ s'
  exact wpAny_pure (hR s' (hm.mono hsub) (nG hm hS))
 |succ k ih=>
  intro i s hk hi hst hS hR
  have hlt:i < n:=by omega
  refine codeAny_builtin PyProof.Rows.F.entry_set_update_loop ?_
  rw[Around.under_plainId PyProof.Rows.F.plain_set_update_loop _]
  show wpAny _ A.in1 (pyNext (.ref I) >>= _) _ _ s
  refine wpAny_bind (W.item i s _ _ hlt hst fun v s' hP hst' hm=>?_)
  obtain⟨hkv,hsc⟩:=hval i v hP
  have hS1:=nG hm hS
  show wpAny _ A.in1 (holding [v] (setAdd S v) >>= _) _ _ s'
  refine wpAny_bind (wpAny_holding ?_)
  unfold setAdd
  refine wpAny_holding ?_
  refine wpAny_bind ((cO prog w).pyHash (k:=key i) hkv ?_)
  refine wpAny_setAddHashed_of (knd:=cO prog w) (s:={ s' with toks:=s'.toks+1 }) hkv hsc hS1 (by omega) fun g hsb hS2=>?_
  have hno:((List.range i).any fun j=>decide (key i=key j))=false:=by
   rw[any_eq_false]
   intro j hj
   have hj':=mem_range.mp hj
   simp only[decide_eq_true_eq]
   exact fun e=>hnd j i hj' hlt e.symm
  have hS3:g.SetOf (cO prog w) S (fun c=>(List.range (i+1)).any fun j=>decide (c=key j)) (i+1):=by
   refine j5 hS2 (fun c=>?_) (by rw[hno];rfl)
   rw[List.range_succ,List.any_append]
   simp
  refine wpAny_pure ⟨plainId_quiet PyProof.Rows.F.plain_set_update_loop _,ih (i+1) _ (by omega) hlt (W.frame _ s' _ _ hst' (le_succ _) fun b hb o e=>?_) hS3 fun s'' hm'' hS''=>?_⟩
  ·rw[hsb.2 b (by rintro rfl;exact hSf hb)]
   exact e
  ·refine hR s'' (Moved.trans W.gtrans ((hm.mono hsub).then_heap (le_succ _) fun b o hb e=>?_) hm'') hS''
   rw[hsb.2 b (by rintro rfl;exact hb mem_cons_self)]
   exact e
end
section
variable {prog:Program}{w:World}{A:Around}{E:Value→Shared→Prop}{s:Shared}
theorem xw{l:Addr}{items:Array Value}{key:Nat→Key}{Q:Value→Shared→Prop}(hh:A.handled=none)(hl:s.heap.IsList l items)(hv:∀i v,items[i]? =some v→iG (key i) v=true∧v.scannable=true)
  (hnd:∀i j,i < j→j < items.size→key i≠key j)(hb:items.size+1 < scanBound)
  (h:∀(g:Heap)(tk:Nat)(T:Key→Bool),g.SetOf (cO prog w) s.heap.objs.size T items.size→(∀b o,b < s.heap.objs.size→s.heap.get? b=some o→g.get? b=some o)→Q (.ref s.heap.objs.size) { s with heap:=g,toks:=tk }):
  wpAny (model prog w) A (call (.type "set") [.ref l]) Q E s:=by
 obtain⟨c,tl,hmro⟩:=called_set.mro
 have hmade:=called_set.made
 have hsub:=called_set.sub
 refine wpAny_call (codeAny_of_tree ?_)
 show wpAny _ _ (callAny (.type "set") _) _ _ _
 refine wpAny_pure ⟨Code.quiet_builtin _ (by decide+kernel),codeAny_builtin PySem.F.entry_type_call ?_⟩
 rw[Around.under_plain (weight_type_call_type "set" [.ref l] []) rfl]
 have f1:=called_set.notType
 have f2:=called_set.canCreate
 have f3:=PySem.F.typeCall_set_1 (.ref l)
 repeat (any_goals (first|assumption|wp_step))
 refine codeAny_mono (code_set_new_1 (.ref l) (E:=E) (Q₁:=fun obj u=>∃led:Bool,obj=.ref s.heap.objs.size∧u={ s with heap:=s.heap.push { cls:=.type "set",dict:=none,data:=.set #[] 0 (.fresh 0 0 led) } }) fun led=>⟨led,rfl,rfl⟩) fun r u hr=>?_
 cases r with
 |error e=>exact hr
 |ok fl=>
  cases fl with
  |ret obj=>
   obtain⟨led,rfl,rfl⟩:=hr
   have hS:(s.heap.push { cls:=.type "set",dict:=none,data:=.set #[] 0 (.fresh 0 0 led) }).get? s.heap.objs.size=some { cls:=.type "set",dict:=none,data:=.set #[] 0 (.fresh 0 0 led) }:=get?_push_size _ rfl
   have hT:Shared.TypeIs { s with heap:=s.heap.push { cls:=.type "set",dict:=none,data:=.set #[] 0 (.fresh 0 0 led) } } (.ref s.heap.objs.size) "set" :=⟨_,hS,rfl⟩
   have hli:=called_set.init.lookup
   have hbi:=called_set.init.bind (.ref s.heap.objs.size)
   repeat (any_goals (first|assumption|wp_step))
   refine codeAny_mono (codeAny_call_builtin (R:=wants (fun r u=>r=.none∧∃g tk T,u={ s with heap:=g,toks:=tk }∧g.SetOf (cO prog w) s.heap.objs.size T items.size∧(∀b o,b < s.heap.objs.size→s.heap.get? b=some o→g.get? b=some o)) E)
    called_set.init.plain PySem.F.entry_set_init (check_set_init_1 hT ?_)) fun r2 u hr2=>?_
   ·obtain⟨⟨ocls,odict,odata,oslots⟩,hol,hcl,nl,hdl⟩:=hl
    simp only at hcl hdl
    subst hcl
    subst hdl
    have hol':(s.heap.push { cls:=.type "set",dict:=none,data:=.set #[] 0 (.fresh 0 0 led) }).get? l=some { cls:=.type "list",dict:=odict,data:=.seq items nl,slots:=oslots }:=get?_push_of_some _ hol
    have k1:=PySem.F.sub_list_set
    have k2:=PySem.F.sub_list_frozenset
    have k3:(Value.type "list" == Value.type "dict")=false:=by decide
    have hl1:(s.heap.push { cls:=.type "set",dict:=none,data:=.set #[] 0 (.fresh 0 0 led) }).IsList l items:=⟨_,hol',rfl,nl,rfl⟩
    unfold Builtin.«set.__init__» noKeywords Builtin.Frozenset.updateFrom
    generalize hPI:pyIter=PI
    wp_walk
    subst hPI
    refine wpAny_pyIter_list hl1 ?_
    refine wpAny_bind (wpAny_runValue ?_)
    have hlS:l < s.heap.objs.size:=lt_size hol
    have hneI:l≠(s.heap.push { cls:=.type "set",dict:=none,data:=.set #[] 0 (.fresh 0 0 led) }).objs.size:=by
     rw[size_push]
     exact ne_of_lt (lt_succ_of_lt hlS)
    have hSf:s.heap.objs.size ∉ [(s.heap.push { cls:=.type "set",dict:=none,data:=.set #[] 0 (.fresh 0 0 led) }).objs.size,l]:=by
     rw[size_push]
     simp only[mem_cons,not_mem_nil,or_false,not_or]
     exact⟨ne_of_lt (lt_succ_self _),ne_of_gt hlS⟩
    refine setLoop ((Walks.list (show A.in1.in1.in1.handled=none by simp[hh]) _ l hneI items).toS) s.heap.objs.size hSf key hv hnd hb (items.size - 0) 0 _ (by omega) (zero_le _) ⟨⟨_,get?_push_size _ rfl,rfl,rfl⟩,(hl1.push _)⟩ ?_ ?_
    ·refine j5 ((PyProof.Rows.setObjOf_fresh (knd:=cO prog w) led).setOf (get?_push_of_some _ hS) (by unfold scanBound;omega)) (fun _=>rfl) rfl
    ·intro s' hm hS'
     obtain⟨g,g',d',tk',os'⟩:=s'
     have eg:g'=s.gens:=hm.gens
     have ed:d'=s.drawn:=hm.drawn
     have eo:os'=s.os:=hm.os
     subst eg ed eo
     show wpAny _ _ _ _ _ _
     refine wpAny_pure ?_
     show wpAny _ _ (ret Value.none) _ _ _
     refine wpAny_pure ⟨rfl,g,tk',_,rfl,hS',fun b o hb e=>?_⟩
     have hb2:b≠(s.heap.push { cls:=.type "set",dict:=none,data:=.set #[] 0 (.fresh 0 0 led) }).objs.size:=by
      rw[size_push]
      exact ne_of_lt (lt_succ_of_lt hb)
     exact hm.heap b o (by simp only[mem_cons,not_mem_nil,or_false,not_or];exact⟨ne_of_lt hb,hb2⟩) (get?_push_of_some _ (get?_push_of_some _ e))
   ·cases r2 with
    |error e=>exact hr2
    |ok fl2=>
     cases fl2 with
     |ret r=>
      obtain⟨rfl,g,tk,T,rfl,hS',hk'⟩:=hr2
      repeat (any_goals (first|assumption|wp_step))
      exact h _ _ _ hS' hk'
     |_=>exact hr2.elim
  |_=>exact hr.elim
end
def setM(P:Program)(w:World)(a:Addr)(n:Nat):HO:=.ext fun h=>∃T,h.SetOf (cO P w) a T n
theorem kR{X:Cx}(hc:X.calm=true):d9 X (.type "set") (fun xs H Q=>∃(p:Addr) (zs:List Str),xs=[.ref p]∧cL X.K H p (zs.map V.str)∧zs.Nodup∧zs.length < 1000∧∀q,H q=none→Q (.ref q) (upd H q (setM X.prog X.w q zs.length))):=by
 intro pins s σ H xs us Q I r h
 obtain⟨p,zs,rfl,hq,nd,hz,q⟩:=h
 obtain⟨u,rfl,rx⟩:=vals1 r
 cases rx
 obtain⟨its,rv,pl,_⟩:=I.list hq
 have hl:=rv.length
 rw[length_map]at hl
 refine xw (key:=fun i=>Sum.inr (zs.getD i "")) (I.ok.hd hc) pl.isList (fun i v e=>?_) (fun i j hij hj=>?_) (by rw[size_toArray,←hl];unfold scanBound;omega) fun g tk T hS kp=>?_
 ·have e':its[i]? =some v:=by simpa using e
  have hi:i < zs.length:=by
   have:=(List.getElem?_eq_some_iff.mp e').1
   omega
  obtain⟨u,eu,t,rfl⟩:=rv.get (show(zs.map V.str)[i]? =some (V.str zs[i]) by simp[hi])
  rw[eu]at e'
  cases e'
  have e2:zs.getD i "" =zs[i]:=by simp[List.getD,hi]
  show iG (Sum.inr (zs.getD i "")) _=true∧_
  rw[e2]
  exact⟨oM _ _,rfl⟩
 ·have hj':j < zs.length:=by
   rw[size_toArray,←hl]at hj
   exact hj
  have hi':i < zs.length:=by omega
  intro e
  have e1:zs.getD i "" =zs.getD j "" :=Sum.inr.inj e
  have e2:zs[i]=zs[j]:=by simpa [List.getD,hi',hj'] using e1
  exact absurd ((getElem_inj nd).mp e2) (by omega)
 ·have hn:H s.heap.objs.size=none:=I.hok.fresh (le_refl _)
  have e3:its.toArray.size=zs.length:=by rw[size_toArray,hl]
  rw[e3]at hS
  refine⟨.ref s.heap.objs.size,_,I.laid (t':=tk) (o:=setM X.prog X.w s.heap.objs.size zs.length) (fun b o e=>kp b o (lt_size e) e) (le_refl _) ⟨⟨T,hS⟩,?_,fun h1 h2 p k=>?_⟩,rfl,q _ hn⟩
  ·obtain⟨o,_,_,_,e,_⟩:=hS
   exact⟨o,e⟩
  ·obtain⟨T,o,es,ep,t,e,rest⟩:=p
   exact⟨T,o,es,ep,t,k o e,rest⟩
theorem fR{X:Cx}:d9 X (.builtin "len") (fun xs H Q=>∃(p:Addr) (n:Nat),xs=[.ref p]∧H p=some (setM X.prog X.w p n)∧Q (.int n) H):=by
 intro pins s σ H xs us Q I r h
 obtain⟨p,n,rfl,hp,q⟩:=h
 obtain⟨u,rfl,rx⟩:=vals1 r
 cases rx
 obtain⟨⟨T,o,es,ep,t,e,ex,d,_,_,hsz,hf,rfl⟩,_⟩:=I.hok p _ hp
 have hb:es.size < 4096:=hsz
 exact call_len_set e ex d hf (by omega) ⟨.int es.size,H,I.tok _,⟨_,rfl⟩,q⟩
end L2
namespace L2
open PySem PySem.Spec PyProof.Rows
section
variable {K:PySem.W.Frag}{is:List Nat}{te:TE}{σ:St}{H:Hp}{Q:VK}
theorem Dh{J:It}{n:Nat}(Pv:Addr→Nat→List V→Hp→Prop)(hz:n≤sizeLine)(h0:∀D,H D=none→Pv D 0 [] (upd H D (.lst [])))
  (hD:∀D i ys H2,Pv D i ys H2→H2 D=some (.lst ys)∧ys.length=i)(hgo:∀D i ys H2,Pv D i ys H2→i < n→J.go i H2)(hstop:∀D ys H2,Pv D n ys H2→J.stop n H2)
  (he:∀D i ys H2 v H3 (Q':VK),Pv D i ys H2→i < n→J.yld i H2 v H3→(∀y H4,H4 D=some (.lst ys)→Pv D (i+1) (ys++[y]) (upd H4 D (.lst (ys++[y])))→Q' y H4)→te (some v::dJ is σ) H3 Q')
  (q:∀D ys H2,H D=none→Pv D n ys H2→Q (.ref D) H2):gH J is te σ H Q:=by
 intro D hDn
 refine⟨fun i m ys H2=>m=n - i∧i≤n∧Pv D i ys H2,⟨_,rfl,zero_le _,h0 D hDn⟩,?_⟩
 rintro i m ys H2 ⟨rfl,hi,p⟩
 obtain⟨d1,d2⟩:=hD D i ys H2 p
 refine⟨d1,?_⟩
 by_cases hlt:i < n
 ·refine .inr ⟨hgo D i ys H2 p hlt,fun v H3 y=>?_⟩
  refine he D i ys H2 v H3 _ p hlt y fun y' H4 e4 p4=>⟨e4,by omega,n - (i+1),by omega,rfl,hlt,p4⟩
 ·have e:i=n:=by omega
  subst e
  exact .inl ⟨hstop D ys H2 p,q D ys H2 hDn p⟩
theorem vg{J:It}{xs:List V}(f:V→V)(hz:xs.length≤sizeLine)(hgo:∀i H2,cI H H2→i < xs.length→J.go i H2)(hstop:∀H2,cI H H2→J.stop xs.length H2)
  (hy:∀i H2 v H3,cI H H2→i < xs.length→J.yld i H2 v H3→H3=H2∧xs[i]? =some v)
  (he:∀v H2 (Q':VK),v∈xs→cI H H2→(∀H3,cI H2 H3→Q' (f v) H3)→te (some v::dJ is σ) H2 Q')
  (q:∀D H',H D=none→cI H H'→H' D=some (.lst (xs.map f))→Q (.ref D) H'):gH J is te σ H Q:=by
 refine Dh (n:=xs.length) (fun D i ys H2=>H D=none∧cI H H2∧H2 D=some (.lst ys)∧i≤xs.length∧ys=(xs.take i).map f) hz (fun D hD=>⟨hD,cI.upd hD,cE,zero_le _,by simp⟩)
  (fun D i ys H2 p=>⟨p.2.2.1,by rw[p.2.2.2.2,length_map,length_take];have:=p.2.2.2.1;omega⟩) (fun D i ys H2 p hi=>hgo i H2 p.2.1 hi) (fun D ys H2 p=>hstop H2 p.2.1) ?_ ?_
 ·rintro D i ys H2 v H3 Q' ⟨hD,sm,hl,hi,hys⟩ hlt y k
  obtain⟨rfl,hv⟩:=hy i H2 v H3 sm hlt y
  refine he v _ _ (mem_of_getElem? hv) sm fun H4 s4=>?_
  refine k _ _ (s4 _ _ hl) ⟨hD,fun b o e=>?_,cE,hlt,?_⟩
  ·rw[cH (cF e hD)]
   exact s4 _ _ (sm _ _ e)
  ·rw[hys,take_add_one,hv,map_append]
   rfl
 ·rintro D ys H2 hD ⟨_,sm,hl,_,hys⟩
  rw[take_length]at hys
  rw[hys]at hl
  exact q D H2 hD sm hl
theorem jD{a:Addr}{xs:List V}(f:V→V)(hq:cL K H a xs)(hz:xs.length≤sizeLine)(he:∀v H2 (Q':VK),v∈xs→cI H H2→(∀H3,cI H2 H3→Q' (f v) H3)→te (some v::dJ is σ) H2 Q')
  (q:∀D H',H D=none→cI H H'→H' D=some (.lst (xs.map f))→Q (.ref D) H'):gH (BA K a) is te σ H Q:=
 vg f hz (fun i H2 sm hi=>⟨xs,xs[i],sm.seq hq,by simp[hi]⟩) (fun H2 sm=>⟨xs,sm.seq hq,le_refl _⟩) (fun i H2 v H3 sm hi y=>⟨y.1,y.2 xs (sm.seq hq)⟩) he q
theorem AI{a:Addr}{xs:List V}(f:V→V)(hq:c8 K H a xs)(hz:xs.length≤sizeLine)(he:∀v H2 (Q':VK),v∈xs→cI H H2→(∀H3,cI H2 H3→Q' (f v) H3)→te (some v::dJ is σ) H2 Q')
  (q:∀D H',H D=none→cI H H'→H' D=some (.lst (xs.map f))→Q (.ref D) H'):gH (Gq K a) is te σ H Q:=
 vg f hz (fun i H2 sm hi=>⟨xs,xs[i],sm.CK hq,by simp[hi]⟩) (fun H2 sm=>⟨xs,sm.CK hq,le_refl _⟩) (fun i H2 v H3 sm hi y=>⟨y.1,y.2 xs (sm.CK hq)⟩) he q
end
theorem gD{env:Env}{k:NameKind}(hk:k≠.free):∀{names:List (Str×NameKind)}{x:Str},names.lookup x=some k→
  (names.map fun(n,k)=>if(k == NameKind.free && env.scope.kind == .function && env.kindOf n == some .cell) then(n,NameKind.cell) else(n,k)).lookup x=some k
 |[],_,h=>by simp at h
 | (n,j)::r,x,h=>by
  have ih:=@gD env k hk r x
  show List.lookup x ((if(j == NameKind.free && env.scope.kind == .function && env.kindOf n == some .cell)=true then(n,NameKind.cell) else(n,j))::_)=_
  cases hx:x == n with
  |true=>
   simp only[lookup_cons,hx]at h
   cases h
   rw[if_neg (by simp[hk])]
   simp only[lookup_cons,hx]
  |false=>
   simp only[lookup_cons,hx]at h
   by_cases hc':(j == NameKind.free && env.scope.kind == .function && env.kindOf n == some .cell)=true
   ·rw[if_pos hc'];simp only[lookup_cons,hx];exact ih h
   ·rw[if_neg hc'];simp only[lookup_cons,hx];exact ih h
theorem iA{env:Env}:∀{names:List (Str×NameKind)}{x:Str},names.lookup x=some .free→
  (names.map fun(n,k)=>if(k == NameKind.free && env.scope.kind == .function && env.kindOf n == some .cell) then(n,NameKind.cell) else(n,k)).lookup x=some .cell∨
  (names.map fun(n,k)=>if(k == NameKind.free && env.scope.kind == .function && env.kindOf n == some .cell) then(n,NameKind.cell) else(n,k)).lookup x=some .free
 |[],_,h=>by simp at h
 | (n,j)::r,x,h=>by
  have ih:=@iA env r x
  show List.lookup x ((if(j == NameKind.free && env.scope.kind == .function && env.kindOf n == some .cell)=true then(n,NameKind.cell) else(n,j))::_)=_∨List.lookup x ((if(j == NameKind.free && env.scope.kind == .function && env.kindOf n == some .cell)=true then(n,NameKind.cell) else(n,j))::_)=_
  cases hx:x == n with
  |true=>
   simp only[lookup_cons,hx]at h
   cases h
   by_cases hc':(NameKind.free == NameKind.free && env.scope.kind == .function && env.kindOf n == some .cell)=true
   ·rw[if_pos hc'];simp only[lookup_cons,hx];first|exact .inl rfl|exact .inl trivial
   ·rw[if_neg hc'];simp only[lookup_cons,hx];first|exact .inr rfl|exact .inr trivial
  |false=>
   simp only[lookup_cons,hx]at h
   by_cases hc':(j == NameKind.free && env.scope.kind == .function && env.kindOf n == some .cell)=true
   ·rw[if_pos hc'];simp only[lookup_cons,hx];exact ih h
   ·rw[if_neg hc'];simp only[lookup_cons,hx];exact ih h
section
variable {X:Cx}{x y:Str}{ns:List Str}{scope:Scope}{cl:List (Str×Addr)}{fp:List Addr}{s3:Shared}{H3:Hp}{C:Addr}{sp:Sp}
structure wz(X:Cx)(x:Str)(sp:Sp):Prop where
 ex:∃(k:Nat) (f:Addr) (fd:FuncData) (ps:List Str),dY X.prog X.w X.K X.mg X.base jC k f fd ps sp∧dr k X.A∧X.mg x=some (.ref f)∧keepIn X.K (.ref f)=true∧Binds X.K fd ps []
 db:(x == ("__debug__" :Str))=false
structure KC(X:Cx)(x:Str):Prop where
 nm:X.mg x=none
 hn:x≠ "__name__"
 db:(x == ("__debug__" :Str))=false
theorem wz.lc(B:wz X y sp)(h:scope.names.lookup y=some .globalImplicit):AN (cZ X (x::ns) scope cl fp s3 H3 C) y sp:=⟨B.ex,gD (by decide) h,B.db⟩
end
structure Gd(P:Program)(w:World)(K:PySem.W.Frag)(mg:Str→Option Value)(base:Heap)(k:Nat)(x:Str)(sp:Sp):Prop where
 ex:∃(f:Addr) (fd:FuncData) (ps:List Str),dY P w K mg base jC k f fd ps sp∧mg x=some (.ref f)∧keepIn K (.ref f)=true∧Binds K fd ps []
structure Md(P:Program)(w:World)(K:PySem.W.Frag)(mg:Str→Option Value)(base:Heap)(k:Nat)(C:Addr)(m:Str)(sp:Sp):Prop where
 ex:∃(f:Addr) (fd:FuncData) (ps:List Str),dY P w K mg base jC k f fd ps sp∧Meth K C m f∧Binds K fd ps []
 cl:qJ K C
structure Kd(P:Program)(w:World)(K:PySem.W.Frag)(mg:Str→Option Value)(base:Heap)(k:Nat)(x:Str)(C:Addr)(sp:Sp):Prop where
 ex:∃(f:Addr) (fd:FuncData) (ps:List Str),dY P w K mg base jC k f fd ps sp∧Mk K C f∧Binds K fd ps []
 nm:mg x=some (.ref C)
structure HA(X:Cx)(x:Str)(C:Addr)(sp:Sp):Prop where
 ex:∃(k:Nat) (f:Addr) (fd:FuncData) (ps:List Str),dY X.prog X.w X.K X.mg X.base jC k f fd ps sp∧dr (k+1) X.A∧Mk X.K C f∧Binds X.K fd ps []
 nm:X.mg x=some (.ref C)
 gl:Gl X x
 db:(x == ("__debug__" :Str))=false
structure Met(X:Cx)(C:Addr)(m:Str)(sp:Sp):Prop where
 ex:∃(k:Nat) (f:Addr) (fd:FuncData) (ps:List Str),dY X.prog X.w X.K X.mg X.base jC k f fd ps sp∧dr k X.A∧Meth X.K C m f∧Binds X.K fd ps []
 cl:qJ X.K C
structure Here(X:Cx)(P:Program)(w:World)(K:PySem.W.Frag)(mg:Str→Option Value)(base:Heap)(sc:Scope)(N:List Str)(k:Nat):Prop where
 pr:X.prog=P
 wd:X.w=w
 fK:X.K=K
 gm:X.mg=mg
 bs:X.base=base
 calm:X.calm=true
 own:PassesOwn (model X.prog X.w) X.A X.env X.xe
 hsc:X.env.scope=sc
 hN:X.N=N
 nd:X.N.Nodup
 room:dr k X.A
 fn:∀x,X.fn x=true
section
variable {X:Cx}{P:Program}{w:World}{K:PySem.W.Frag}{mg:Str→Option Value}{base:Heap}{sc:Scope}{N:List Str}{k j:Nat}{x m:Str}{sp:Sp}{C:Addr}
theorem Here.slot (h:Here X P w K mg base sc N k) (i:Nat) (hN:N[i]? =some x) (lc:Loc sc x) (db:(x == ("__debug__" :Str))=false) (cd:(x == ("__classdict__" :Str))=false):Slot X i x:=
 ⟨by rw[h.hN];exact hN,by rw[h.hsc];exact lc,.inl (h.fn x),db,cd⟩
theorem Here.sl (h:Here X P w K mg base sc N k) (i:Nat) (x:Str) (hN:N[i]? =some x:=by rfl) (lc:Loc sc x:=by first|exact .inl rfl|exact .inr rfl) (db:(x == ("__debug__" :Str))=false:=by decide) (cd:(x == ("__classdict__" :Str))=false:=by decide):Slot X i x:=h.slot i hN lc db cd
def GK(X:Cx):List Nat→List Str→Prop
 |i::is,x::r=>Slot X i x∧GK X is r
 |_,_=>True
theorem Here.Eo(h:Here X P w K mg base sc N k):∀(is:List Nat) (r:List Str),(∀(j i:Nat) x,is[j]? =some i→r[j]? =some x→N[i]? =some x)→(∀x∈r,(sc.names.lookup x=some .local∨sc.names.lookup x=some .cell)∧(x == ("__debug__" :Str))=false∧(x == ("__classdict__" :Str))=false)→GK X is r
 |[],_,_,_=>trivial
 |_::_,[],_,_=>trivial
 |i::is,x::r,e,c=>⟨h.slot i (e 0 i x rfl rfl) (c x mem_cons_self).1 (c x mem_cons_self).2.1 (c x mem_cons_self).2.2,Here.Eo h is r (fun j i x a b=>e (j+1) i x a b) fun y hy=>c y (mem_cons_of_mem _ hy)⟩
theorem Here.eE (h:Here X P w K mg base sc N k) (is:List Nat) (e:is=List.range N.length:=by rfl) (c:∀x∈N,(sc.names.lookup x=some .local∨sc.names.lookup x=some .cell)∧(x == ("__debug__" :Str))=false∧(x == ("__classdict__" :Str))=false:=by decide+kernel):GK X is N:=h.Eo is N (fun j i x a b=>by
 subst e
 obtain⟨h1,h2⟩:=List.getElem?_eq_some_iff.mp a
 rw[List.getElem_range]at h2
 exact h2 ▸ b) c
theorem Here.gl(h:Here X P w K mg base sc N k)(hg:sc.names.lookup x=some .globalImplicit):Gl X x:=by
 show X.env.scope.names.lookup x=_
 rw[h.hsc]
 exact hg
theorem Here.bt (h:Here X P w K mg base sc N k) (hm:mg x=none) (hg:sc.names.lookup x=some .globalImplicit) (hn:x≠ "__name__") (db:(x == ("__debug__" :Str))=false):Bt X x:=⟨h.gl hg,by rw[h.gm];exact hm,hn,db⟩
theorem Here.b (h:Here X P w K mg base sc N k) (hm:mg x=none) (hg:sc.names.lookup x=some .globalImplicit:=by rfl) (hn:x≠ "__name__" :=by decide) (db:(x == ("__debug__" :Str))=false:=by decide):Bt X x:=h.bt hm hg hn db
theorem Here.Gn (h:Here X P w K mg base sc N k) (G:Gd P w K mg base j x sp) (hg:sc.names.lookup x=some .globalImplicit) (hj:j≤k) (db:(x == ("__debug__" :Str))=false):AN X x sp:=by
 obtain⟨f,fd,ps,h1,h2,h3,h4⟩:=G.ex
 obtain⟨rfl,rfl,rfl,rfl,rfl⟩:=And.intro h.pr (And.intro h.wd (And.intro h.fK (And.intro h.gm h.bs)))
 exact⟨⟨j,f,fd,ps,h1,h.room.mono hj,h2,h3,h4⟩,h.gl hg,db⟩
theorem Here.c (h:Here X P w K mg base sc N k) (G:Gd P w K mg base j x sp) (hg:sc.names.lookup x=some .globalImplicit:=by rfl) (hj:j≤k:=by first|decide|exact le_refl _) (db:(x == ("__debug__" :Str))=false:=by decide):AN X x sp:=h.Gn G hg hj db
theorem Here.Hs (h:Here X P w K mg base sc N k) (G:Gd P w K mg base j x sp) (hj:j≤k) (db:(x == ("__debug__" :Str))=false):wz X x sp:=by
 obtain⟨f,fd,ps,h1,h2,h3,h4⟩:=G.ex
 obtain⟨rfl,rfl,rfl,rfl,rfl⟩:=And.intro h.pr (And.intro h.wd (And.intro h.fK (And.intro h.gm h.bs)))
 exact⟨⟨j,f,fd,ps,h1,h.room.mono hj,h2,h3,h4⟩,db⟩
theorem Here.ci (h:Here X P w K mg base sc N k) (G:Gd P w K mg base j x sp) (hj:j≤k:=by first|decide|exact le_refl _) (db:(x == ("__debug__" :Str))=false:=by decide):wz X x sp:=h.Hs G hj db
theorem Here.Eu (h:Here X P w K mg base sc N k) (G:Kd P w K mg base j x C sp) (hg:sc.names.lookup x=some .globalImplicit) (hj:j+1≤k) (db:(x == ("__debug__" :Str))=false):HA X x C sp:=by
 obtain⟨f,fd,ps,h1,h2,h3⟩:=G.ex
 have nm:=G.nm
 obtain⟨rfl,rfl,rfl,rfl,rfl⟩:=And.intro h.pr (And.intro h.wd (And.intro h.fK (And.intro h.gm h.bs)))
 exact⟨⟨j,f,fd,ps,h1,h.room.mono hj,h2,h3⟩,nm,h.gl hg,db⟩
theorem Here.met(h:Here X P w K mg base sc N k)(G:Md P w K mg base j C m sp)(hj:j≤k):Met X C m sp:=by
 obtain⟨f,fd,ps,h1,h2,h3⟩:=G.ex
 have c:=G.cl
 obtain⟨rfl,rfl,rfl,rfl,rfl⟩:=And.intro h.pr (And.intro h.wd (And.intro h.fK (And.intro h.gm h.bs)))
 exact⟨⟨j,f,fd,ps,h1,h.room.mono hj,h2,h3⟩,c⟩
end
section
variable {X:Cx}{x y:Str}{ns:List Str}{scope:Scope}{cl:List (Str×Addr)}{fp:List Addr}{s3:Shared}{H3:Hp}{C D:Addr}{sp:Sp}{m:Str}
end
theorem Cr:bootBuiltins "set" =some (.type "set"):=by decide+kernel
theorem CS:bootBuiltins "min" =some (.builtin "min"):=by decide+kernel
theorem y8:bootBuiltins "max" =some (.builtin "max"):=by decide+kernel
theorem fD{c A B:Prop} [Decidable c] (hc:c)(h:A):if c then A else B:=by
 rw[if_pos hc]
 exact h
theorem gW{c A B:Prop} [Decidable c] (hc:¬c)(h:B):if c then A else B:=by
 rw[if_neg hc]
 exact h
inductive G0(K:PySem.W.Frag)(x y:V)(H:Hp)(Q:VK):Prop
 |mk(l b:Addr)(xs zs:List V)(hx:x=.ref l)(hy:y=.ref b)(s:cL K H l xs)(t:cL K H b zs)(e:xs.length+zs.length≤sizeLine)(q:∀p,H p=none→Q (.ref p) (upd H p (.lst (xs++zs))))
def BF(K:PySem.W.Frag):R2:=fun x y H Q=>G0 K x y H Q
theorem iY{X:Cx}:gX X (binaryOp .Add) (BF X.K):=by
 intro pins s σ H x y v u Q I rx ry h
 obtain⟨l,b,xs,zs,rfl,rfl,hH,hB,hz,q⟩:=h
 cases rx
 cases ry
 obtain⟨its,r,pl,z⟩:=I.list hH
 obtain⟨its2,r2,pl2,z2⟩:=I.list hB
 have hl:=r.length
 have hl2:=r2.length
 obtain⟨⟨cls,dd,data,sl⟩,ho,hc,n,hd⟩:=pl.isList
 obtain⟨⟨cls2,dd2,data2,sl2⟩,ho2,hc2,n2,hd2⟩:=pl2.isList
 simp only at hc hd hc2 hd2
 subst hc hd hc2 hd2
 have e:its.toArray++its2.toArray=(its++its2).toArray:=by simp
 refine concat_meets ⟨_,ho,rfl⟩ ⟨_,ho2,rfl⟩ noFill_list_add seq_list_add PySem.F.slot_list_add PySem.F.entry_list_add (PySem.F.args_list_add_2 _ _) (list_addW l b its.toArray its2.toArray n n2 dd dd2 sl sl2 (by simp only[size_toArray];omega)) ⟨ho,ho2,?_⟩
 rw[e]
 exact⟨.ref _,_,I.GV (t':=s.toks) (r.append r2) (by rw[length_append];omega),rfl,q _ I.fresh⟩
end L2
namespace J
open PySem PySem.Spec PyProof.Rows
open L2 (Cx V Hp St VK TE TT TA TS TG nJ TI TO R2 Sp XK E0 jC dY dr Gl Binds RelV Vals cL c8 eX Here Gd Md Kd HA Met Df lM cJ Meth Mk qJ)
structure GN(X:Cx)(id:String)(r:V→List V→Hp→VK→Prop):Prop where
 out:L2.F2 X id r
section
variable {X:Cx}{x y:Str}{ns:List Str}{scope:Scope}{cl:List (Str×Addr)}{fp:List Addr}{s3:Shared}{H3:Hp}{C:Addr}{sp:Sp}{p pos apos pos':Pos}{e o value:Expr}{es:List Expr}{ta te tv:TE}{t:TA}{m f:Str}{tg:Expr}
theorem _root_.bP (h:scope.names.lookup x=some .local) (db:(x == ("__debug__" :Str))=false) (cd:(x == ("__classdict__" :Str))=false):JE (L2.cZ X (x::ns) scope cl fp s3 H3 C) (.Name x p) (L2.dE 0):=
 ⟨L2.jh (i:=0) rfl (.inl (PySem.lookup_relabel_local h)) db cd⟩
theorem _root_.bU {i:Nat}(h:scope.names.lookup y=some .free) (hi:ns[i]? =some y) (db:(y == ("__debug__" :Str))=false) (cd:(y == ("__classdict__" :Str))=false):JE (L2.cZ X (x::ns) scope cl fp s3 H3 C) (.Name y p) (L2.dE (i+1)):=
 ⟨L2.jh (i:=i+1) hi (.inr (L2.iA h)) db cd⟩
theorem Eu(M:HA X x C sp)(ha:JA X (e::es) t)(h1:L2.notStar e=true:=by rfl)(h2:es.all L2.notStar=true:=by rfl):JE X (.Call (.Name x p) (e::es) [] pos) (L2.BP C sp [] E0 t):=by
 obtain⟨k,f,fd,ps,F,hr,mk,bi⟩:=M.ex
 exact⟨L2.Am mk F hr M.gl M.nm bi .nil L2.ro ha.out M.db (L2.c9 h1) (L2.ee h2)⟩
theorem _root_.bJ{pl:Sem Bool}(M:Met X C m sp)(he:JE X o ta)(ht:eval (.Call (.Attribute o m apos) [] [] pos) X.env=(do
   let ov ←eval o X.env
   standAt apos.atName
   let (f,first) ←holding [ov] (getMethod ov m pl)
   callWith pos f first (backTo pos (starEach [] X.env)) (backToKw pos (keywordEach [] X.env)))):JE X (.Call (.Attribute o m apos) [] [] pos) (L2.u9 C m sp [] E0 ta L2.jl):=by
 obtain⟨k,f,fd,ps,F,hr,me,bi⟩:=M.ex
 exact⟨L2.xW he.out M.cl me F hr bi .nil L2.ro ht⟩
theorem met{pl:Sem Bool}(M:Met X C m sp)(he:JE X o ta)(ha:JA X (e::es) t)(ht:eval (.Call (.Attribute o m apos) (e::es) [] pos) X.env=(do
   let ov ←eval o X.env
   standAt apos.atName
   let (f,first) ←holding [ov] (getMethod ov m pl)
   callWith pos f first (backTo pos (starEach (e::es) X.env)) (backToKw pos (keywordEach [] X.env)))) (h1:L2.notStar e=true:=by rfl) (h2:es.all L2.notStar=true:=by rfl):JE X (.Call (.Attribute o m apos) (e::es) [] pos) (L2.u9 C m sp [] E0 ta t):=by
 obtain⟨k,f,fd,ps,F,hr,me,bi⟩:=M.ex
 exact⟨L2.AV he.out M.cl me F hr bi .nil L2.ro ha.out (L2.c9 h1) (L2.ee h2) ht⟩
theorem _root_.bD(he:JE X (.Name x p) ta):JE X (.Attribute (.Name x p) f pos) (L2.Ft X.K ta f):=⟨L2.CY he.out rfl⟩
theorem ki(ha:JE X o ta)(hv:JE X value tv)(h:L2.ji value=false:=by rfl):JS X (.Assign [.Attribute o f pos'] value pos) (L2.FE X.K ta tv f):=⟨L2.ki ha.out hv.out (L2.jZ h)⟩
theorem _root_.bK:GN X "list.append" L2.u5:=⟨L2.o6⟩
theorem pF:GN X "str.join" (fun x vs H Q=>∃(sep:Str) (p:Addr) (zs:List Str),x=.str sep∧vs=[.ref p]∧cL X.K H p (zs.map V.str)∧(zs.map (·.length)).sum+zs.length * sep.length≤16777216∧Q (.str (Txt.join sep zs)) H):=⟨L2.pF⟩
def zC(o:Expr):Bool:=match o with
 |.Call .. =>false
 |_=>true
theorem qZ{o:Expr}{name:Str}{env:Env}{v:Sem Value}(h:zC o=true):attributeBase o name env v=v:=by
 cases o<;>first|rfl|cases h
theorem GH{cpos:Pos}{env:Env}(h1:L2.notStar e=true):((backTo cpos (starEach [e] env)).all (fun x=> !x.1) && (backToKw cpos (keywordEach [] env)).all (fun x=>x.1.isSome)
   && decide ([e].length+([]:List Keyword).length+(if([]:List Keyword).isEmpty then 0 else 1) < 30))=true:=by
 rw[L2.c9 h1]
 rfl
theorem _root_.bF {T id:String}{r:V→List V→Hp→VK→Prop}{name:Str}(pa:PlainAttrs T) (slot:Slot T name id) (hty:typeOf (.builtin id)=pure (.type "method_descriptor")) (hm:GN X id r) (ho:JE X o te) (ha:JA X [e] t)
  (h:zC o=true:=by rfl)(h1:L2.notStar e=true:=by rfl)(hline:(apos.endLine == pos.line)=true:=by rfl):JE X (.Call (.Attribute o name apos) [e] [] pos) (L2.HQ X.K T r te t):=
 ⟨L2.Ez pa slot hty hm.out ho.out ha.out (qZ h) (GH h1) hline (L2.c9 h1) rfl⟩
theorem _root_.bX {e1:Expr}{kk:Nat}{tp:Pos}(B:L2.Bt X "enumerate") (ha:JA X [e1] t) (h1:L2.notStar e1=true:=by rfl):JI X (.Tuple es kk tp) (.Call (.Name "enumerate" p) [e1] [] pos) (L2.Bv X.K t):=⟨L2.Bn B ha.out h1⟩
theorem kR(hc:X.calm=true):JF X (.type "set") (fun xs H Q=>∃(p:Addr) (zs:List Str),xs=[.ref p]∧cL X.K H p (zs.map V.str)∧zs.Nodup∧zs.length < 1000∧∀q,H q=none→Q (.ref q) (L2.upd H q (L2.setM X.prog X.w q zs.length))):=⟨L2.kR hc⟩
theorem fR:JF X (.builtin "len") (fun xs H Q=>∃(p:Addr) (n:Nat),xs=[.ref p]∧H p=some (L2.setM X.prog X.w p n)∧Q (.int n) H):=⟨L2.fR⟩
theorem _root_.bh:FN X [] L2.zX:=⟨L2.zY⟩
theorem _root_.aG{g:TG}{u:nJ}(S:JG X (.Name x p) g)(h:FN X es u):FN X (.Name x p::es) (L2.oW g u):=⟨L2.ze S.out h.out rfl⟩
theorem _root_.bC{k n:Nat}{u:nJ}(hc:X.calm=true)(h:FN X es u)(hn:(assignEach es X.env).length=n:=by rfl)(hst:(assignEach es X.env).findIdx? (·.1)=none:=by rfl):JG X (.Tuple es k pos) (L2.yF X.K n u):=⟨L2.xY hc h.out hn hst⟩
theorem asg{g:TG}(he:JE X e te)(hg:JG X tg g)(hs:swapsWithSole [tg] e pos.line X.env=pure false:=by rfl)(hw:swappedStores [tg] e X.env=pure none:=by rfl)
  (h1:(assignEach [tg] X.env).map (·.2)=[assign tg X.env]:=by rfl):JS X (.Assign [tg] e pos) (L2.qY te g):=⟨L2.CU he.out hg.out hs hw h1⟩
theorem yn:JX (L2.cZ X (x::ns) scope cl fp s3 H3 C) (L2.x6 X.K):=⟨L2.qA⟩
theorem iY:JB X .Add (L2.BF X.K):=⟨L2.iY⟩
theorem p9(h:JE X (.Name x p) te):JT X (.Name x p) (L2.tB te):=⟨L2.t8 h.out (fun _=>rfl)⟩
theorem _root_.cy{a b:Expr}:dU (.Subscript a b p):=⟨fun _ _=>rfl⟩
theorem _root_.cu{P:Program}{w:World}{K:PySem.W.Frag}{mg:Str→Option Value}{base:Heap}{sc:Scope}{N:List Str}{k:Nat}{v:V}(hh:Here X P w K mg base sc N k)(hm:∃u,mg x=some u∧RelV v u)(hg:sc.names.lookup x=some .globalImplicit)
  (db:(x == ("__debug__" :Str))=false):JE X (.Name x p) (L2.tC v):=by
 obtain⟨u,h1,h2⟩:=hm
 exact J.l6 (hh.gl hg) (by rw[hh.gm];exact h1) h2 db
end
section
variable {P:Program}{w:World}{K:PySem.W.Frag}{mg:Str→Option Value}{base:Heap}{x qual m:Str}{st:Stmt}{f C:Addr}{fd:FuncData}{N ps:List Str}{k:Nat}{sp:Sp}
theorem l4(F:lM K x qual st f fd)(S:cJ N ps (L2.cG st))(len:∀vs H Q E,sp vs H Q E→vs.length=ps.length)
  (hbody:∀(X:Cx)(H:Hp)(vs:List V)(Q:VK)(E:XK),Here X P w K mg base (L2.cG st) N k→sp vs H Q E→∃t,tF X (L2.cN st) t∧t { nx:=fun _ H'=>Q .non H',rt:=Q } (L2.start N vs) H):dY P w K mg base jC (k+1) f fd ps sp:=by
 refine E3 F S len fun X cdv A outer s H vs Q E hX hr h=>?_
 subst hX
 exact hbody _ H vs Q E ⟨rfl,rfl,rfl,rfl,rfl,rfl,PassesOwn.never,rfl,rfl,S.nd,hr,fun _=>rfl⟩ h
theorem Ce(D:Df K mg x st ps f fd)(S:cJ N ps (L2.cG st))(len:∀vs H Q E,sp vs H Q E→vs.length=ps.length)
  (hbody:∀(X:Cx)(H:Hp)(vs:List V)(Q:VK)(E:XK),Here X P w K mg base (L2.cG st) N k→sp vs H Q E→∃t,tF X (L2.cN st) t∧t { nx:=fun _ H'=>Q .non H',rt:=Q } (L2.start N vs) H):Gd P w K mg base (k+1) x sp:=
 ⟨f,fd,ps,l4 D.fn S len hbody,D.nm,D.fn.kp,D.bi⟩
theorem _root_.aH(D:Df K mg x st ps f fd)(S:cJ N ps (L2.cG st))
  (hbody:∀(X:Cx)(H:Hp)(vs:List V)(Q:VK)(E:XK),Here X P w K mg base (L2.cG st) N k→sp vs H Q E→∃t,tF X (L2.cN st) t∧t { nx:=fun _ H'=>Q .non H',rt:=Q } (L2.start N vs) H)(len:∀vs H Q E,sp vs H Q E→vs.length=ps.length:=by intro _ _ _ _ h;first| (obtain⟨⟩:=h;subst_vars;rfl)| ((repeat (obtain⟨_,h⟩:=h));subst_vars;rfl)):Gd P w K mg base (k+1) x sp:=Ce D S len hbody
theorem _root_.b8(F:lM K m qual st f fd)(me:Meth K C m f)(bi:Binds K fd ps [])(cl:qJ K C)(S:cJ N ps (L2.cG st))(len:∀vs H Q E,sp vs H Q E→vs.length=ps.length)
  (hbody:∀(X:Cx)(H:Hp)(vs:List V)(Q:VK)(E:XK),Here X P w K mg base (L2.cG st) N k→sp vs H Q E→∃t,tF X (L2.cN st) t∧t { nx:=fun _ H'=>Q .non H',rt:=Q } (L2.start N vs) H):Md P w K mg base (k+1) C m sp:=
 ⟨⟨f,fd,ps,l4 F S len hbody,me,bi⟩,cl⟩
theorem A8{y:Str}(F:lM K m qual st f fd)(mk:Mk K C f)(bi:Binds K fd ps [])(nm:mg y=some (.ref C))(S:cJ N ps (L2.cG st))(len:∀vs H Q E,sp vs H Q E→vs.length=ps.length)
  (hbody:∀(X:Cx)(H:Hp)(vs:List V)(Q:VK)(E:XK),Here X P w K mg base (L2.cG st) N k→sp vs H Q E→∃t,tF X (L2.cN st) t∧t { nx:=fun _ H'=>Q .non H',rt:=Q } (L2.start N vs) H):Kd P w K mg base (k+1) y C sp:=
 ⟨⟨f,fd,ps,l4 F S len hbody,mk,bi⟩,nm⟩
end
end J
namespace L2
open PySem PySem.Spec PyProof.Rows
def Jo(K:PySem.W.Frag):R2:=fun x y H Q=>∃a b xs ys,x=.ref a∧y=.ref b∧cL K H a xs∧cL K H b ys∧xs.length=ys.length∧
 (∀(i:Nat) u v,xs[i]? =some u→ys[i]? =some v→∃p q zs,u=.ref p∧v=.ref q∧p≠q∧cL K H p zs∧cL K H q zs∧∀z∈zs,(∃t,z=V.str t)∨∃c,z=V.ref c)∧Q (.bl false) H
end L2
namespace J
open PySem PySem.Spec PyProof.Rows
end J
namespace L2
open PySem PySem.Spec PyProof.Rows
section
variable {X:Cx}{x:Str}{px pos:Pos}{elt iter:Expr}{scope:Scope}{wi:TI}{te:TE}{is:List Nat}{ns:List Str}
end
theorem wu{elt:Expr}{gs:List Comprehension}{scope:Scope}{pos py:Pos}{y:Str}{n:Nat}{env:Env}{sc:Scope}(hsc:env.scope=sc)
  (h:((if sc.kind.isAnnotationScope then ScopeKind.function else sc.kind) == .function && sc.names.lookup y == some .local && py.line == pos.line && !(scope.names.any fun(n,k)=>n == y && (k == .local || k == .cell)))=true):
  swapsWith (.ListComp elt gs scope pos) (some (.Name y py)) n env=pure true:=by
 subst hsc
 show(pure _:Sem Bool)=pure true
 exact congrArg pure h
end L2
namespace J
open PySem PySem.Spec PyProof.Rows
open L2 (Cx V Hp St VK TE TT TA TS TG nJ TI TO)
end J
namespace L2
open PySem PySem.Spec PyProof.Rows
def Bh(J:It)(is:List Nat)(tc:TT)(te:TE)(σ:St)(H1:Hp)(Q:VK):Prop:=∀D,H1 D=none→∃W:Nat→Nat→List V→Hp→Prop,(∃m,W 0 m [] (upd H1 D (.lst [])))∧
 ∀i m ys H2,W i m ys H2→H2 D=some (.lst ys)∧((J.stop i H2∧Q (.ref D) H2)∨(J.go i H2∧∀v H3,J.yld i H2 v H3→tc (some v::dJ is σ) H3 fun b H4=>if b=true then te (some v::dJ is σ) H4 (fun y H5=>
  H5 D=some (.lst ys)∧ys.length < sizeLine∧∃m',m' < m∧W (i+1) m' (ys++[y]) (upd H5 D (.lst (ys++[y])))) else ∃m',m' < m∧W (i+1) m' ys H4))
def IB(wi:TI)(is:List Nat)(tc:TT)(te:TE):TE:=fun σ H Q=>wi σ H fun J H1=>Bh J is tc te σ H1 Q
section
variable {X:Cx}{x:Str}{px pos:Pos}{elt iter ct:Expr}{scope:Scope}{wi:TI}{te:TE}{tc:TT}{is:List Nat}{ns:List Str}
end
end L2
namespace J
open PySem PySem.Spec PyProof.Rows
open L2 (Cx V Hp St VK TE TT TA TS TG nJ TI TO)
end J
namespace L2
open PySem PySem.Spec PyProof.Rows
section
variable {X:Cx}{pins:List (Addr×Obj)}{σ:St}{H:Hp}{s:Shared}{p:Addr}{ns:List Int}
def je:V→V→Option Bool
 |.ref a,.ref b=>if a=b then some true else none
 |x,y=>if de x=true∧de y=true then some (qE x y) else none
theorem oE{A:Around}{s:Shared}{x y:V}{u v:Value}{b:Bool}(ru:RelV x u)(rv:RelV y v)(h:je x y=some b):SeqAt.EqAt A s u v b:=by
 have flat:(if de x=true∧de y=true then some (qE x y) else none)=some b→SeqAt.EqAt A s u v b:=fun h=>by
  by_cases c:de x=true∧de y=true
  ·rw[if_pos c]at h
   cases h
   exact tN ru rv c.1 c.2
  ·rw[if_neg c]at h
   cases h
 cases x with
 |ref a=>
  cases y with
  |ref c=>
   have h':(if a=c then some true else none)=some b:=h
   by_cases e:a=c
   ·rw[if_pos e]at h'
    cases h'
    cases ru
    cases rv
    rw[e]
    exact SeqAt.EqAt.same _
   ·rw[if_neg e]at h'
    cases h'
  |_=>exact flat h
 |_=>exact flat h
def Ga(bs:List Bool):Bool:=(List.range bs.length).all fun i=>bs.getD i false
def GF(K:PySem.W.Frag):R2:=fun x y H Q=>∃a b xs ys bs,x=.ref a∧y=.ref b∧cL K H a xs∧cL K H b ys∧xs.length=bs.length∧ys.length=bs.length∧(∀(i:Nat) u v c,xs[i]? =some u→ys[i]? =some v→bs[i]? =some c→je u v=some c)∧Q (.bl (Ga bs)) H
theorem gw{its:List Value}{xs:List V}{j:Nat}(r:Vals xs its)(h:j < its.length):∃x,xs[j]? =some x∧RelV x its[j]:=by
 have hl:=r.length
 have e:xs[j]? =some xs[j]:=getElem?_eq_getElem (by omega)
 obtain⟨u,eu,ru⟩:=r.get e
 rw[getElem?_eq_getElem h]at eu
 cases eu
 exact⟨_,e,ru⟩
theorem Du(hu:X.A.units+1 < cLine):gX X (compareOp .Eq) (GF X.K):=by
 intro pins s σ H x y v u Q I rx ry h
 obtain⟨a,b,xs,ys,bs,rfl,rfl,ha,hb,l1,l2,he,q⟩:=h
 cases rx
 cases ry
 obtain⟨its,r,pl,_⟩:=I.list ha
 obtain⟨its2,r2,pl2,_⟩:=I.list hb
 have m1:=r.length
 have m2:=r2.length
 refine SeqAt.eq_listAt (e:=fun i=>bs.getD i false) pl.isList pl2.isList (by simp only[size_toArray];omega) (by omega) (fun j h1 h2=>?_) ?_
 ·simp only[size_toArray]at h1 h2
  obtain⟨x1,e1,r1⟩:=gw r h1
  obtain⟨x2,e2,r2'⟩:=gw r2 h2
  have hj:j < bs.length:=by omega
  have e3:bs[j]? =some bs[j]:=getElem?_eq_getElem hj
  have e4:bs.getD j false=bs[j]:=by rw[getD_eq_getElem?_getD,e3];rfl
  show SeqAt.EqAt X.A.in1 s its.toArray[j] its2.toArray[j] (bs.getD j false)
  rw[e4]
  simp only[List.getElem_toArray]
  exact oE r1 r2' (he j x1 x2 _ e1 e2 e3)
 ·have hz:its.toArray.size=bs.length:=by simp only[size_toArray];omega
  rw[hz]
  exact⟨.bl _,H,I,rfl,q⟩
end
end L2
namespace J
open PySem PySem.Spec PyProof.Rows
open L2 (Cx V cL)
end J
namespace L2
open PySem PySem.Spec PyProof.Rows
section
variable {X:Cx}
inductive Ee(vs:List V)(H:Hp)(Q:VK):Prop
 |mk(j:Int)(e:vs=[.int j])(lo: -(2 ^ 62)≤j)(hi:j≤sizeLine)(q:∀l,H l=none→Q (.ref l) (upd H l (.lst ((List.range j.toNat).map fun(i:Nat)=>V.int (i:Int)))))
def Im(ta:TA):TE:=fun σ H Q=>ta σ H fun vs H1=>Ee vs H1 Q
inductive DY(K:PySem.W.Frag)(x y:V)(H:Hp)(Q:VK):Prop
 |mk(a b:Addr)(xs ys:List V)(hx:x=.ref a)(hy:y=.ref b)(s:cL K H a xs)(t:cL K H b ys)(n:xs.length≠ys.length)(q:Q (.bl false) H)
theorem wG(hu:X.A.units+1 < cLine):gX X (compareOp .Eq) (fun x y H Q=>DY X.K x y H Q):=by
 intro pins s σ H x y v u Q I rx ry h
 obtain⟨a,b,xs,ys,rfl,rfl,ha,hb,n,q⟩:=h
 cases rx
 cases ry
 obtain⟨its,r,pl,_⟩:=I.list ha
 obtain⟨its2,r2,pl2,_⟩:=I.list hb
 have m1:=r.length
 have m2:=r2.length
 refine SeqAt.eq_list_lengthsAt pl.isList pl2.isList ?_ (by omega) ⟨.bl _,H,I,rfl,q⟩
 rw[bne_iff_ne]
 simp only[size_toArray]
 omega
inductive Jj(K:PySem.W.Frag)(x y:V)(H:Hp)(Q:VK):Prop
 |mk(a b:Addr)(xs ys:List V)(bs:List Bool)(hx:x=.ref a)(hy:y=.ref b)(s:c8 K H a xs)(t:c8 K H b ys)(l1:xs.length=bs.length)(l2:ys.length=bs.length)
   (e:∀(i:Nat) u v c,xs[i]? =some u→ys[i]? =some v→bs[i]? =some c→je u v=some c)(q:Q (.bl (Ga bs)) H)
end
end L2
namespace J
open PySem PySem.Spec PyProof.Rows
open L2 (Cx V cL c8)
end J
namespace L2
open PySem PySem.Spec PyProof.Rows
theorem mX{prog:Program}{w:World}{A:Around}{R:Result→Shared→Prop}{s:Shared}{elt target iter:Expr}{cts:List Expr}{scope:Scope}{pos:Pos}{it acc:Value}{env:Env}(I:Nat→Shared→Prop)
  (turn:∀n s,I n s→wpAny (model prog w) A (pyNext it) (fun r s₁=>match r with
   |none=>R (.ok .next) s₁
   |some v=>wpAny (model prog w) A (letOwnedTupleGo target it v) (fun _ s₁'=>wpAny (model prog w) A (assign target env v) (fun _ s₂=>wpAny (model prog w) A (forIn cts true fun c r=>if r=true then do let ok ←isTrue c env (eval c env);pure (ForInStep.yield ok) else pure (ForInStep.yield r)) (fun ok s₂'=>if ok=true then wpAny (model prog w) A (eval elt env) (fun x s₃=>
     wpAny (model prog w) A (call (.builtin "list.append") [acc,x]) (fun _ s₄=>∃m,m < n∧I m s₄) (notedBy (model prog w) A env fun e s'=>R (.error e) s') s₃)
     (notedBy (model prog w) A env fun e s'=>R (.error e) s') s₂' else ∃m,m < n∧I m s₂') (notedBy (model prog w) A env fun e s'=>R (.error e) s') s₂) (notedBy (model prog w) A env fun e s'=>R (.error e) s') s₁') (notedBy (model prog w) A env fun e s'=>R (.error e) s') s₁) (notedBy (model prog w) A env fun e s'=>R (.error e) s') s)
  (n:Nat) (h:I n s):
  codeAny (model prog w) A (.compLoop (.ListComp elt [⟨target,iter,cts,0⟩] scope pos) 0 it acc env) R s:=by
 refine codeAny_loop rfl I (fun n s hI=>?_) n h
 show wpAny _ _ ((compTurn (.ListComp elt [⟨target,iter,cts,0⟩] scope pos) 0 it acc env).onRaise (fun x=>do noteFrame x env;theTreesLotGoes x)) _ _ s
 refine wpAny_noted ?_
 rw[compTurn_list]
 refine wpAny_bind (wpAny_standAt (wpAny_bind (wpAny_mono (turn n s hI) (fun r s₁ h₁=>?_) fun _ _ h'=>h')))
 cases r with
 |none=>exact wpAny_pure h₁
 |some v=>
  refine wpAny_bind (wpAny_mono h₁ (fun _ s₁' h₁'=>?_) fun _ _ h'=>h')
  refine wpAny_bind (wpAny_mono h₁' (fun _ s₂ h₂=>wpAny_bind (wpAny_mono h₂ (fun ok s₃ h₃=>?_) fun _ _ h'=>h')) fun _ _ h'=>h')
  cases ok with
  |false=>exact wpAny_pure ⟨rfl,h₃⟩
  |true=>
   exact wpAny_bind (wpAny_bind (wpAny_mono h₃ (fun x s₄ h₄=>wpAny_bind (wpAny_mono h₄ (fun _ s₅ h₅=>wpAny_pure (wpAny_pure ⟨rfl,h₅⟩)) fun _ _ h'=>h')) fun _ _ h'=>h'))
def BW(X:Cx)(cts:List Expr)(t:TT):Prop:=
 ∀(pins:List (Addr×Obj)) (s:Shared) (σ:St) (H:Hp) (Q:Bool→Hp→Prop),Inv X pins σ H s→t σ H Q→wpAny (model X.prog X.w) X.A (forIn cts true fun c r=>if r=true then do let ok ←isTrue c X.env (eval c X.env);pure (ForInStep.yield ok) else pure (ForInStep.yield r)) (TP X pins σ Q) X.xe s
def xx:TT:=fun _ H Q=>Q true H
theorem vb{X:Cx}:BW X [] xx:=fun _ _ _ H _ I h=>wpAny_tests_nil ⟨H,I,h⟩
theorem AZ{X:Cx}{ct:Expr}{t:TT}(h:PT X ct t):BW X [ct] t:=fun pins s σ H Q I q=>wpAny_tests_one (h pins s σ H Q I q)
inductive Fq(J:It)(n:Nat)(is:List Nat)(g:TG)(tc:TT)(te:TE)(σ:St)(W:Nat→Nat→List V→Hp→Prop)(D:Addr)(i m:Nat)(ys:List V)(H2:Hp):Prop
 |mk(go:J.go i H2)(nx:∀(os:St) v H3,os.length=n→J.yld i H2 v H3→g v (os++dJ is σ) H3 fun σ' H4=>(∃os':St,os'.length=n∧σ'=os'++dJ is σ)∧tc σ' H4 fun b H5=>if b=true then te σ' H5 (fun y H6=>
  H6 D=some (.lst ys)∧ys.length < sizeLine∧∃m',m' < m∧W (i+1) m' (ys++[y]) (upd H6 D (.lst (ys++[y])))) else ∃m',m' < m∧W (i+1) m' ys H5)
def eI(J:It)(n:Nat)(is:List Nat)(g:TG)(tc:TT)(te:TE)(σ:St)(H1:Hp)(Q:VK):Prop:=∀D,H1 D=none→∃W:Nat→Nat→List V→Hp→Prop,(∃m,W 0 m [] (upd H1 D (.lst [])))∧
 ∀i m ys H2,W i m ys H2→H2 D=some (.lst ys)∧((J.stop i H2∧Q (.ref D) H2)∨Fq J n is g tc te σ W D i m ys H2)
def Aw(wi:TI)(n:Nat)(is:List Nat)(g:TG)(tc:TT)(te:TE):TE:=fun σ H Q=>wi σ H fun J H1=>eI J n is g tc te σ H1 Q
structure mq(sc:Scope)(N:List Str)(xs:List Str)(scope:Scope)(is:List Nat)(ns:List Str):Prop where
 kind:scope.kind=.function:=by rfl
 nocell:∀y∈scope.names,y.2≠.cell:=by decide+kernel
 names:∀y∈scope.names,y.2=.local→scope.names.lookup y.1=some .local:=by decide+kernel
 free:∀y∈scope.names,y.2=.free→sc.names.lookup y.1=some .cell:=by decide+kernel
 cap:ns.map some=is.map fun i=>N[i]? :=by rfl
 capf:∀y∈ns,scope.names.lookup y=some .free∧sc.names.lookup y=some .cell:=by decide+kernel
section
variable {X:Cx}{xs:List Str}{tg:Expr}{pos:Pos}{elt iter:Expr}{cts:List Expr}{scope:Scope}{wi:TI}{g:TG}{tc:TT}{te:TE}{is:List Nat}{ns:List Str}
def ya(X:Cx)(pins:List (Addr×Obj))(σ:St)(Qs:VK)(use:Option (Value→Sem Unit))(Qv:Value→Shared→Prop):Prop:=
 ∀(D C:Addr) (H5:Hp) (s6:Shared) (m:Str→Option Value),Qs (.ref D) H5→Inv X pins σ H5 s6→iu X pins H5 C→s6.heap.Ns C m→compPost (model X.prog X.w) X.A X.xe use Qv (.ref D) C (.ok .next) s6
theorem iV{sc:Scope}{N:List Str}{use:Option (Value→Sem Unit)}{Qv:Value→Shared→Prop}{Gf:It→Hp→Prop}{Qs:VK}{cp:Pos}{pins:List (Addr×Obj)}{s:Shared}{σ:St}{H:Hp}(I:Inv X pins σ H s)(h:wi σ H Gf)(hG:∀J H1,Gf J H1→eI J xs.length is g tc te σ H1 Qs)
  (fin:ya X pins σ Qs use Qv)(hc:X.calm=true)(hi:PI X tg iter wi)(L:mq sc N xs scope is ns)(hg:∀cl fp s3 H3 C,PG (cZ X (xs++ns) scope cl fp s3 H3 C) tg g)(hct:∀cl fp s3 H3 C,BW (cZ X (xs++ns) scope cl fp s3 H3 C) cts tc)(he:∀cl fp s3 H3 C,Inv X pins σ H3 s3→(∀b∈fp,iu X pins H3 b)→PE (cZ X (xs++ns) scope cl fp s3 H3 C) elt te)
  (hsc:X.env.scope=sc)(hN:X.N=N)(hs:∀x,foldedSetIterable iter X.env x=pure x):
  wpAny (model X.prog X.w) X.A (comprehension (.ListComp elt [⟨tg,iter,cts,0⟩] scope pos) scope X.env cp (newList []) false (eval iter X.env) use) Qv X.xe s:=by
 subst hsc hN
 obtain⟨cl,hcl,cl1,cl2⟩:=nA (env:=X.env) (scope:=scope) (fun y hy hf=>I.ok.has y.1 (.inl (L.free y hy hf)))
 refine wpAny_comprehension_free rfl hs hcl L.kind L.names (dq (hi pins s σ H _ I h) fun v s1 h1=>dq h1 fun itv s2 h2=>?_)
 obtain⟨it,fp,tn,J,H2,e,I2,T,st2,f2,h2⟩:=h2
 subst e
 refine wpAny_newObj_type (wpAny_newFunctionEnv L.nocell (by intro y hy;simp at hy) (fun h₁ hns₁ hsb₁=>?_) L.kind)
 have hD:H2 s2.heap.objs.size=none:=I2.hok.fresh (le_refl _)
 have I3:Inv X pins σ (upd H2 s2.heap.objs.size (.lst [])) { s2 with heap:=s2.heap.push { cls:=.type "list",dict:=none,data:=.seq ([]:List Value).toArray } }:=
  I2.laid (t':=s2.toks) (fun b u e=>get?_push_of_some _ e) (le_refl _) ⟨zero_le _,[],0,.nil,get?_push_size _ rfl⟩
 have kp23:∀b u,s2.heap.get? b=some u→(s2.heap.push { cls:=.type "list",dict:=none,data:=.seq ([]:List Value).toArray }).get? b=some u:=fun b u e=>get?_push_of_some _ e
 obtain⟨W,⟨m0,w0⟩,turn⟩:=hG J H2 h2 s2.heap.objs.size hD
 dsimp only at hns₁ hsb₁ ⊢
 generalize hD0:s2.heap.objs.size=D at *
 generalize hp3:s2.heap.push { cls:=.type "list",dict:=none,data:=.seq ([]:List Value).toArray }=p3 at *
 generalize hH3:upd H2 D (.lst [])=H3 at *
 have fpD:∀b∈fp,b≠D:=fun b hb=>by
  obtain⟨o,e,_⟩:=T.obj 0 s2.heap st2 b hb
  rw[←hD0]
  exact ne_of_lt (lt_size e)
 have fp3:∀b∈fp,iu X pins H3 b:=fun b hb=>⟨by rw[←hH3,cH (fpD b hb)];exact(f2 b hb).1,(f2 b hb).2⟩
 have st3:tn 0 p3:=T.keep 0 s2.heap p3 st2 fun b _ o e=>kp23 b o e
 have fplt:∀b∈fp,b < p3.objs.size:=fun b hb=>by
  obtain⟨o,e,_⟩:=T.obj 0 p3 st3 b hb
  exact lt_size e
 have old:∀b u,p3.get? b=some u→h₁.get? b=some u:=fun b u e=>hsb₁.extBut b u (ne_of_lt (lt_size e)) (get?_push_of_some _ e)
 generalize hC:p3.objs.size=C at *
 have hfree:∀b∈fp,H3 b=none:=fun b hb=>(fp3 b hb).1
 have okX:(cZ X (xs++ns) scope cl fp { s2 with heap:=p3 } H3 C).Ok:=by
  refine⟨I.ok.mod,L.kind,I.ok.glob,I.ok.blt,le_of_eq hC,fun y z c e1 e2=>I.ok.inj y z c (cl1 y c e1) (cl1 z c e2),fun y hy=>?_,fun _ _ z=>(by cases z),I.ok.hd,I.ok.frames,.inl rfl,fun b hb=>⟨ne_of_lt (fplt b hb),fun y c e=>(fp3 b hb).2.2.2.2.1 y c (cl1 y c e)⟩,I3.bs,le_trans I3.ok.bsz I3.sz,fun b o e hb=>?_,fun b hb z=>?_,I3.stack,I3.vh⟩
  ·have hm:(y,NameKind.free)∈scope.names:=by
    rcases hy with hy|hy
    ·exact jV hy (.inl rfl) L.nocell
    ·exact jV hy (.inr rfl) L.nocell
   obtain⟨c,hc'⟩:=I.ok.has y (.inl (L.free _ hm rfl))
   exact⟨c,(cl2 _ hm rfl).trans hc'⟩
  ·rcases (fp3 b hb).2.2.2.1 with z|z
   ·exact I.ok.noex b o e z
   ·exact absurd (lt_of_lt_of_le (lt_size e) (le_trans I.ok.bsz z)) (lt_irrefl _)
  ·exact(mem_cons.mp (I3.uH b z)).elim (fp3 b hb).2.1 (fp3 b hb).2.2.1
 have hlen:(dJ is σ).length=ns.length:=by
  have:=congrArg List.length L.cap
  rw[length_map,length_map]at this
  rw[dJ,length_map]
  exact this.symm
 have rl:(List.replicate xs.length (none:Option V)).length=xs.length:=length_replicate ..
 have I4:Inv (cZ X (xs++ns) scope cl fp { s2 with heap:=p3 } H3 C) [] (List.replicate xs.length none++dJ is σ) H3 { s2 with heap:=h₁,toks:=s2.toks+0 }:=by
  refine⟨okX,rfl,I3.bare,Un.kept old,⟨_,hns₁,fun i y v e1 e2 e3=>?_⟩,fun y c e=>?_,?_,fun y c e=>I3.freeC y c (cl1 y c e),fun p hp=>absurd (show p∈([]:List (Addr×Obj)) from hp) (by simp),I3.hok.kept old,by show(List.replicate xs.length none++dJ is σ).length=(xs++ns).length;rw[length_append,length_append,hlen,rl]⟩
  ·have e1:(xs++ns)[i]? =some y:=e1
   by_cases hi:i < xs.length
   ·rw[getElem?_append_left (by rw[rl];exact hi),List.getElem?_replicate,if_pos hi]at e2
    cases e2
   ·rw[getElem?_append_right (by rw[rl];omega),rl]at e2
    rw[getElem?_append_right (by omega)]at e1
    generalize i - xs.length=j at e1 e2
    have e1':ns[j]? =some y:=e1
    have e2':(dJ is σ)[j]? =some (some v):=e2
    have hy:=L.capf y (mem_of_getElem? e1')
    have hcap:(ns.map some)[j]? =(is.map fun i=>X.N[i]?)[j]? :=by rw[L.cap]
    rw[getElem?_map,getElem?_map,e1']at hcap
    rw[dJ,getElem?_map]at e2'
    cases hk:is[j]? with
    |none=>rw[hk]at e2';cases e2'
    |some k=>
     rw[hk]at hcap e2'
     have hN:X.N[k]? =some y:=(Option.some.inj hcap).symm
     have hσ:σ[k]? =some (some v):=by
      have q:(σ[k]?).join=some v:=Option.some.inj e2'
      cases z:σ[k]? with
      |none=>rw[z]at q;cases q
      |some o=>rw[z]at q;exact congrArg some q
     obtain⟨m,hn,hl⟩:=I3.loc
     obtain⟨u,r,l⟩:=hl k y v hN hσ (.inr (.inl hy.2))
     refine⟨u,r,?_⟩
     rcases l with ⟨hk',_⟩|⟨hk',c,ec,o,ho,hd⟩
     ·have hk2:X.env.scope.names.lookup y=some .local:=hk'
      rw[hy.2]at hk2;cases hk2
     ·exact .inr ⟨.inl (jJ I.ok.kind hy.1 hy.2),c,(cl2 _ (PySem.mem_of_lookup hy.1) rfl).trans ec,o,old c o ho,hd⟩
  ·obtain⟨v,o,ho,hd⟩:=I3.cell y c (cl1 y c e)
   exact⟨v,o,old c o ho,hd⟩
  ·show H3 C=none
   rw[←hC]
   exact I3.hok.fresh (le_refl _)
 have st4:tn 0 h₁:=T.keep 0 p3 h₁ st3 fun b _ o e=>old b o e
 have stat:∀{H':Hp},(∀b∈fp,H' b=none)→∀b∈fp,iu (cZ X (xs++ns) scope cl fp { s2 with heap:=p3 } H3 C) [] H' b:=fun {H'} hn b hb=>
  ⟨hn b hb,ne_of_lt (fplt b hb),okX.exfs b hb,.inl hb,fun y c e=>(fp3 b hb).2.2.2.2.1 y c (cl1 y c e),fun p hp=>absurd (show p∈([]:List (Addr×Obj)) from hp) (by simp)⟩
 have loop:codeAny (model X.prog X.w) X.A (.compLoop (.ListComp elt [⟨tg,iter,cts,0⟩] scope pos) 0 (.ref it) (.ref D) (compEnvC scope cl C X.env))
   (compPost (model X.prog X.w) X.A X.xe use Qv (.ref D) C) { s2 with heap:=h₁,toks:=s2.toks+0 }:=by
  refine mX (fun n s'=>∃i os ys H',os.length=xs.length∧Inv (cZ X (xs++ns) scope cl fp { s2 with heap:=p3 } H3 C) [] (os++dJ is σ) H' s'∧tn i s'.heap∧(∀b∈fp,H' b=none)∧W i n ys H') ?_ m0 ⟨0,List.replicate xs.length none,[],H3,rl,I4,st4,hfree,w0⟩
  rintro n s5 ⟨i,os,ys,H5,hos,I5,st5,fr5,w5⟩
  obtain⟨hD5,⟨stop,q⟩|⟨go,step⟩⟩:=turn i n ys H5 w5
  ·refine dq (T.done (cZ X (xs++ns) scope cl fp { s2 with heap:=p3 } H3 C) rfl rfl rfl hc i [] s5 _ H5 _ I5 (stat fr5) st5 stop) fun r s6 ⟨hr,I6⟩=>?_
   subst hr
   obtain⟨m,hn,_⟩:=id I6.loc
   have neC:∀b o,p3.get? b=some o→b≠C:=fun b o e=>by rw[←hC];exact ne_of_lt (lt_size e)
   have fC:H5 C=none:=I6.free
   have I6X:Inv X pins σ H5 s6:=by
    refine I3.EL (s':=s6) (ch:=fp) I6.os ⟨fun b o e nn hb hx=>?_,fun b o e nn hb hx=>?_,I6.base.free,fun b o e hx=>?_,I6.base.tups,I6.base.frzs,I6.base.tbls⟩ (fun b ob e=>I6.hok b ob e) I6.bare fun b hb=>⟨(fp3 b hb).2.2.2.1,(fp3 b hb).2.1,(fp3 b hb).2.2.2.2.1,(fp3 b hb).2.2.2.2.2⟩
    ·exact I6.base.keep b o e nn hb hx
    ·exact I6.base.slot b o e nn hb hx
    ·exact I6.base.there b o e hx
   exact fin D C H5 s6 m q I6X (I3.vO (le_of_eq hC) fC) hn
  ·refine dq (T.item (cZ X (xs++ns) scope cl fp { s2 with heap:=p3 } H3 C) rfl rfl rfl hc i [] s5 _ H5 _ I5 (stat fr5) st5 go) fun r s6 ⟨u,hr,h6⟩=>?_
   subst hr
   refine dq h6 fun _ s7 hpat=>?_
   obtain⟨v,H7,I7,r7,y7,st7,fr7⟩:=hpat
   have I7':=I7.pinned (stat fr7) (T.obj _ _ st7)
   refine wpAny_mono (hg cl fp { s2 with heap:=p3 } H3 C _ s7 (os++dJ is σ) H7 v u _ I7' r7 (step os v H7 hos y7)) (fun _ s8 ⟨σ8,H8,I8,⟨os',hos',e8⟩,q8⟩=>?_) fun _ _ z=>False.elim z
   subst e8
   refine wpAny_mono (hct cl fp { s2 with heap:=p3 } H3 C _ s8 _ H8 _ I8 q8) (fun bb sb ⟨Hb,Ib,qb⟩=>?_) fun _ _ z=>False.elim z
   cases bb with
   |false=>
    rw[if_neg Bool.false_ne_true]at qb
    rw[if_neg Bool.false_ne_true]
    obtain⟨m',hm',w9⟩:=qb
    refine⟨m',hm',i+1,os',ys,_,hos',Ib.gq,T.keep _ _ _ st7 fun b hb o e=>(Ib.pin (b,o) (mem_append_right _ (mem_append_right _ (d4 hb e)))).1,fun b hb=>?_,w9⟩
    obtain⟨o',e,d⟩:=T.obj _ _ st7 b hb
    exact(Ib.pin (b,o') (mem_append_right _ (mem_append_right _ (d4 hb e)))).2.1
   |true=>
    rw[if_pos rfl]at qb
    rw[if_pos rfl]
    refine wpAny_mono (he cl fp { s2 with heap:=p3 } H3 C I3 fp3 _ sb _ Hb _ Ib qb) (fun uy s9 ⟨y,H9,I9,r9,hD9,hl9,m',hm',w9⟩=>?_) fun _ _ z=>False.elim z
    refine wpAny_mono (o6 (X:=cZ X (xs++ns) scope cl fp { s2 with heap:=p3 } H3 C) _ s9 _ H9 (.ref D) [y] (.ref D) [uy] (fun _ H'=>H'=upd H9 D (.lst (ys++[y]))) I9 rfl (.cons r9 .nil) ⟨D,ys,y,rfl,rfl,hD9,hl9,rfl⟩) (fun _ s10 ⟨_,H10,I10,_,e10⟩=>?_) fun _ _ z=>False.elim z
    subst e10
    refine⟨m',hm',i+1,os',ys++[y],_,hos',I10.gq,T.keep _ _ _ st7 fun b hb o e=>(I10.pin (b,o) (mem_append_right _ (mem_append_right _ (d4 hb e)))).1,fun b hb=>?_,w9⟩
    obtain⟨o',e,d⟩:=T.obj _ _ st7 b hb
    exact(I10.pin (b,o') (mem_append_right _ (mem_append_right _ (d4 hb e)))).2.1
 exact codeAny_compStart_list loop (T.self X.A 0 _ _ _ st4 loop)
theorem kA{pins:List (Addr×Obj)}{σ:St}{Q:VK}:ya X pins σ Q none (EP X pins σ Q):=by
 intro D C H5 s6 m q I6 fC hn
 refine⟨m,hn,fun h' sb=>⟨.ref D,H5,I6.kB (t':=s6.toks) (fp:=[C]) (fun b hb=>?_) (fun b u nb e=>(sb.2 b (fun z=>nb (mem_singleton.mpr z))).trans e),rfl,q⟩⟩
 rw[mem_singleton]at hb
 subst hb
 exact fC
theorem v7{pins:List (Addr×Obj)}{σ:St}{Dn:Ends}{y:Str}{py:Pos}{iy:Nat}(hnd:X.N.Nodup)(hiy:X.N[iy]? =some y)(hly:Loc X.env.scope y)(hfy:X.fn y=true∨X.env.scope.names.lookup y=some .local):
  ya X pins σ (fun v H'=>Dn.nx (σ.set iy (some v)) H') (some (assign (.Name y py) X.env)) (fun _ s'=>SP X pins Dn .next s'):=by
 intro D C H5 s6 m q I6X fC hn
 have fpC:∀b∈[C],iu X pins H5 b:=fun b hb=>by
  rw[mem_singleton]at hb
  subst hb
  exact fC
 obtain⟨oC,esC,epC,hoC,rC⟩:=id hn
 have obC:∀b∈[C],∃o,s6.heap.get? b=some o∧∀v,o.data≠.cell v:=fun b hb=>by
  rw[mem_singleton]at hb
  subst hb
  exact⟨oC,hoC,fun v z=>by rw[z]at rC;exact absurd rC.1 (fun w=>nomatch w)⟩
 have IP:=I6X.pinned fpC obC
 have hgy:PG X (.Name y py) (d7 iy):=lJ hnd hiy hly hfy
 show wpAny _ _ (assign (.Name y py) X.env (.ref D)) _ _ s6
 refine dq (hgy _ s6 σ H5 (.ref D) (.ref D) (fun σ' H'=>σ'=σ.set iy (some (.ref D))∧H'=H5) IP rfl ⟨rfl,rfl⟩) fun _ s7 hpat=>?_
 obtain⟨σ7,H7,I7,e1,e2⟩:=hpat
 subst e1
 subst e2
 have hC7:s7.heap.get? C=some oC:=(I7.pin (C,oC) (mem_append_right _ (mem_append_right _ (d4 (mem_singleton.mpr rfl) hoC)))).1
 exact⟨m,⟨oC,esC,epC,hC7,rC⟩,fun h' sb=>⟨_,H7,I7.gq.kB (t':=s7.toks) (fp:=[C]) fpC (fun b u nb e=>(sb.2 b (fun z=>nb (mem_singleton.mpr z))).trans e),q⟩⟩
theorem B7{sc:Scope}{N:List Str}(hc:X.calm=true)(hi:PI X tg iter wi)(L:mq sc N xs scope is ns)(hg:∀cl fp s3 H3 C,PG (cZ X (xs++ns) scope cl fp s3 H3 C) tg g)(hct:∀cl fp s3 H3 C,BW (cZ X (xs++ns) scope cl fp s3 H3 C) cts tc)(he:∀cl fp s3 H3 C,PE (cZ X (xs++ns) scope cl fp s3 H3 C) elt te)
  (hsc:X.env.scope=sc)(hN:X.N=N)(hs:∀x,foldedSetIterable iter X.env x=pure x):PE X (.ListComp elt [⟨tg,iter,cts,0⟩] scope pos) (Aw wi xs.length is g tc te):=by
 intro pins s σ H Q I h
 rw[eval_ListComp]
 exact iV I h (fun _ _ z=>z) kA hc hi L hg hct (fun cl fp s3 H3 C _ _=>he cl fp s3 H3 C) hsc hN hs
theorem xf{sc:Scope}{N:List Str}{y:Str}{py spos:Pos}{iy:Nat}(hnd:X.N.Nodup)(hiy:X.N[iy]? =some y)(hly:Loc X.env.scope y)(hfy:X.fn y=true∨X.env.scope.names.lookup y=some .local)(hsw:swapsWith (.ListComp elt [⟨tg,iter,cts,0⟩] scope pos) (some (.Name y py)) spos.line X.env=pure true)
  (hc:X.calm=true)(hi:PI X tg iter wi)(L:mq sc N xs scope is ns)(hg:∀cl fp s3 H3 C,PG (cZ X (xs++ns) scope cl fp s3 H3 C) tg g)(hct:∀cl fp s3 H3 C,BW (cZ X (xs++ns) scope cl fp s3 H3 C) cts tc)(he:∀cl fp s3 H3 C,PE (cZ X (xs++ns) scope cl fp s3 H3 C) elt te)
  (hsc:X.env.scope=sc)(hN:X.N=N)(hs:∀x,foldedSetIterable iter X.env x=pure x):PS X (.Assign [.Name y py] (.ListComp elt [⟨tg,iter,cts,0⟩] scope pos) spos) (qY (Aw wi xs.length is g tc te) (d7 iy)):=by
 intro pins s σ H Dn I h
 rw[exec_Assign_Name_used _ _ _ _ hsw]
 refine wpAny_bind (wpAny_standAt (wpAny_bind ?_))
 show wpAny _ X.A (do let _ ←comprehension (.ListComp elt [⟨tg,iter,cts,0⟩] scope pos) scope X.env _ (newList []) false (eval iter X.env) (some (assign (.Name y py) X.env))) _ _ s
 exact wpAny_bind (dq (Q:=fun _ s'=>SP X pins Dn .next s') (iV I h (fun _ _ z=>z) (v7 hnd hiy hly hfy) hc hi L hg hct (fun cl fp s3 H3 C _ _=>he cl fp s3 H3 C) hsc hN hs) fun _ s' hq=>wpAny_pure (wpAny_pure hq))
theorem D9{J:It}{te:TE}{is:List Nat}{σ:St}{H1:Hp}{Q:VK}(h:gH J is te σ H1 Q):eI J 1 is (d7 0) xx te σ H1 Q:=by
 intro D hD
 obtain⟨W,w0,k⟩:=h D hD
 refine⟨W,w0,fun i m ys H2 w=>?_⟩
 obtain⟨e,z|⟨go,nx⟩⟩:=k i m ys H2 w
 ·exact⟨e,.inl z⟩
 ·refine⟨e,.inr ⟨go,fun os v H3 hos y=>?_⟩⟩
  match os,hos with
  |[o],_=>exact⟨⟨[some v],rfl,rfl⟩,d6 (B:=∃m',m' < m∧W (i+1) m' ys H3) (nx v H3 y)⟩
theorem yW{sc:Scope}{N:List Str}{x:Str}{px:Pos}(hc:X.calm=true)(hi:PI X (.Name x px) iter wi)(L:EU sc N x scope is ns)(he:∀cl fp s3 H3 C,PE (cZ X (x::ns) scope cl fp s3 H3 C) elt te)
  (hsc:X.env.scope=sc:=by rfl)(hN:X.N=N:=by rfl)(hs:∀x,foldedSetIterable iter X.env x=pure x:=by intro _;rfl):PE X (.ListComp elt [⟨.Name x px,iter,[],0⟩] scope pos) (Iy wi is te):=by
 intro pins s σ H Q I h
 rw[eval_ListComp]
 exact iV (xs:=[x]) (g:=d7 0) (tc:=xx) I h (fun _ _ z=>D9 z) kA hc hi ⟨L.kind,L.nocell,L.names,L.free,L.cap,L.capf⟩ (fun _ _ _ _ _=>lJ (i:=0) L.nd rfl (.inl (lookup_relabel_local L.hx)) (.inr (lookup_relabel_local L.hx))) (fun _ _ _ _ _=>vb) (fun cl fp s3 H3 C _ _=>he cl fp s3 H3 C) hsc hN hs
end
section
variable {K:PySem.W.Frag}{n:Nat}{is:List Nat}{g:TG}{tc:TT}{te:TE}{σ:St}{H:Hp}{Q:VK}
theorem fG(p:Nat→Bool)(f:Nat→V)(i:Nat):((List.range (i+1)).filter p).map f=((List.range i).filter p).map f++if p i=true then [f i] else []:=by
 rw[List.range_succ,filter_append,map_append]
 cases h:p i<;>simp[List.filter,h]
theorem uB{J:It}{N:Nat}(p:Nat→Bool)(f:Nat→V)(hz:N≤sizeLine)(hgo:∀i H2,cI H H2→i < N→J.go i H2)(hstop:∀H2,cI H H2→J.stop N H2)
  (he:∀(i:Nat)(os:St) v H2 H3 (K1:VK)(K2:Hp→Prop),i < N→os.length=n→cI H H2→J.yld i H2 v H3→(p i=true→∀H6,cI H2 H6→K1 (f i) H6)→(p i=false→∀H5,cI H2 H5→K2 H5)→
   g v (os++dJ is σ) H3 fun σ' H4=>(∃os':St,os'.length=n∧σ'=os'++dJ is σ)∧tc σ' H4 fun b H5=>if b=true then te σ' H5 K1 else K2 H5)
  (q:∀D H',H D=none→cI H H'→H' D=some (.lst (((List.range N).filter p).map f))→Q (.ref D) H'):eI J n is g tc te σ H Q:=by
 intro D hDn
 refine⟨fun i m ys H2=>m=N - i∧i≤N∧cI H H2∧H2 D=some (.lst ys)∧ys=((List.range i).filter p).map f,⟨_,rfl,zero_le _,cI.upd hDn,cE,rfl⟩,?_⟩
 rintro i m ys H2 ⟨rfl,hi,sm,hd,rfl⟩
 refine⟨hd,?_⟩
 by_cases hlt:i < N
 ·refine .inr ⟨hgo i H2 sm hlt,fun os v H3 hos y=>?_⟩
  have hl:(((List.range i).filter p).map f).length≤i:=by
   rw[length_map]
   have:=length_filter_le p (List.range i)
   rw[length_range]at this
   exact this
  refine he i os v H2 H3 _ _ hlt hos sm y (fun hp H6 s6=>⟨s6 _ _ hd,by omega,N - (i+1),by omega,rfl,hlt,fun b o e=>?_,cE,?_⟩) (fun hp H5 s5=>⟨N - (i+1),by omega,rfl,hlt,sm.trans s5,s5 _ _ hd,?_⟩)
  ·rw[cH (cF e hDn)]
   exact s6 _ _ (sm _ _ e)
  ·rw[fG,if_pos hp]
  ·rw[fG,if_neg (by rw[hp];exact Bool.false_ne_true),append_nil]
 ·have e:i=N:=by omega
  subst e
  exact .inl ⟨hstop H2 sm,q D H2 hDn sm hd⟩
theorem dM{a:Addr}{xs:List V}(p:Nat→Bool)(f:Nat→V)(hq:cL K H a xs)(hz:xs.length≤sizeLine)
  (he:∀(i:Nat)(os:St) v H2 (K1:VK)(K2:Hp→Prop),xs[i]? =some v→os.length=n→cI H H2→(p i=true→∀H6,cI H2 H6→K1 (f i) H6)→(p i=false→∀H5,cI H2 H5→K2 H5)→
   g v (os++dJ is σ) H2 fun σ' H4=>(∃os':St,os'.length=n∧σ'=os'++dJ is σ)∧tc σ' H4 fun b H5=>if b=true then te σ' H5 K1 else K2 H5)
  (q:∀D H',H D=none→cI H H'→H' D=some (.lst (((List.range xs.length).filter p).map f))→Q (.ref D) H'):eI (BA K a) n is g tc te σ H Q:=
 uB p f hz (fun i H2 sm hi=>⟨xs,xs[i],sm.seq hq,by simp[hi]⟩) (fun H2 sm=>⟨xs,sm.seq hq,le_refl _⟩) (fun i os v H2 H3 K1 K2 hi hos sm y k1 k2=>by
  obtain⟨rfl,y⟩:=y
  exact he i os v _ K1 K2 (y xs (sm.seq hq)) hos sm k1 k2) q
theorem xl{lo:Int}{N:Nat}(p:Nat→Bool)(f:Nat→V)(hz:N≤sizeLine)
  (he:∀(i:Nat)(os:St) H2 (K1:VK)(K2:Hp→Prop),i < N→os.length=n→cI H H2→(p i=true→∀H6,cI H2 H6→K1 (f i) H6)→(p i=false→∀H5,cI H2 H5→K2 H5)→
   g (.int (lo+i)) (os++dJ is σ) H2 fun σ' H4=>(∃os':St,os'.length=n∧σ'=os'++dJ is σ)∧tc σ' H4 fun b H5=>if b=true then te σ' H5 K1 else K2 H5)
  (q:∀D H',H D=none→cI H H'→H' D=some (.lst (((List.range N).filter p).map f))→Q (.ref D) H'):eI (AE lo N) n is g tc te σ H Q:=
 uB p f hz (fun i H2 _ hi=>hi) (fun H2 _=>le_refl N) (fun i os v H2 H3 K1 K2 hi hos sm y k1 k2=>by
  obtain⟨rfl,rfl⟩:=y
  exact he i os _ K1 K2 hi hos sm k1 k2) q
theorem rW{a:Addr}{xs:List V}(p:Nat→Bool)(f:Nat→V)(hq:cL K H a xs)(hz:xs.length≤sizeLine)
  (he:∀(i:Nat)(os:St) v (t:Addr) H2 (K1:VK)(K2:Hp→Prop),xs[i]? =some v→os.length=n→cI H H2→H2 t=none→(p i=true→∀H6,cI H2 H6→K1 (f i) H6)→(p i=false→∀H5,cI H2 H5→K2 H5)→
   g (.ref t) (os++dJ is σ) (upd H2 t (.tup [.int i,v])) fun σ' H4=>(∃os':St,os'.length=n∧σ'=os'++dJ is σ)∧tc σ' H4 fun b H5=>if b=true then te σ' H5 K1 else K2 H5)
  (q:∀D H',H D=none→cI H H'→H' D=some (.lst (((List.range xs.length).filter p).map f))→Q (.ref D) H'):eI (D4 K a) n is g tc te σ H Q:=
 uB p f hz (fun i H2 sm hi=>⟨xs,xs[i],sm.seq hq,by simp[hi]⟩) (fun H2 sm=>⟨xs,sm.seq hq,rfl⟩) (fun i os v H2 H3 K1 K2 hi hos sm y k1 k2=>by
  obtain⟨t,x,ht,rfl,rfl,y⟩:=y
  exact he i os x t _ K1 K2 (y xs (sm.seq hq)) hos sm ht k1 k2) q
end
section
variable {X:Cx}
theorem su:∀bs:List Bool,((List.range bs.length).any fun i=>bs.getD i false)=bs.any id
 |[]=>rfl
 |b::r=>by
  rw[length_cons,List.range_succ_eq_map,any_cons,any_map,any_cons,←su r]
  rfl
theorem f6(hc:X.calm=true):d9 X (.builtin "any") (fun xs H Q=>∃(p:Addr) (bs:List Bool),xs=[.ref p]∧cL X.K H p (bs.map V.bl)∧Q (.bl (bs.any id)) H):=by
 intro pins s σ H xs us Q I r h
 obtain⟨p,bs,rfl,hq,q⟩:=h
 obtain⟨u,rfl,rx⟩:=vals1 r
 cases rx
 obtain⟨its,rv,pl,hz⟩:=I.list hq
 have hl:=rv.length
 rw[length_map]at hl
 have hlt:p < s.heap.objs.size:=by obtain⟨o,n,e,_⟩:=pl;exact lt_size e
 refine call_any_walk (wpAny_pyIter_list pl.isList ?_)
 refine⟨s.heap.objs.size,[s.heap.objs.size,p],[s.heap.objs.size],its.toArray.size,_,_,fun i=>bs.getD i false,rfl,Walks.list (show X.A.in1.handled=none from I.ok.hd hc) s.heap.objs.size p (ne_of_lt hlt) its.toArray,
  ⟨⟨_,get?_push_size _ rfl,rfl,rfl⟩,?_⟩,fun i v s' Q' E' hv hQ=>?_,fun h' tk kk=>?_⟩
 ·obtain⟨o,e,r⟩:=pl.isList
  exact⟨o,get?_push_of_some _ e,r⟩
 ·have hi:i < bs.length:=by
   have:i < its.length:=by
    have:=(Array.getElem?_eq_some_iff.mp hv).1
    simpa using this
   omega
  have hb:(bs.map V.bl)[i]? =some (V.bl bs[i]):=by simp[hi]
  obtain⟨u,hu,ru⟩:=rv.get hb
  have hv':its[i]? =some v:=by simpa using hv
  rw[hu]at hv'
  cases hv'
  obtain rfl:v=Value.bool bs[i]:=ru
  refine wpAny_truthy_bool ?_
  have e:bs.getD i false=bs[i]:=by simp[List.getD,hi]
  rw[←e]
  exact hQ
 ·refine⟨.bl (bs.any id),H,?_,?_,q⟩
  ·have I1:Inv X pins σ H { s with heap:=s.heap.push { cls:=.type "list_iterator",data:=.fields #[.ref p,.int 0 0] } }:=I.kept (t':=s.toks) fun b o e=>get?_push_of_some _ e
   have I2:Inv X pins σ H { s with heap:=h',toks:=tk }:=I.kept (t':=tk) fun b o e=>kk b o (by
    intro z
    have z':b=s.heap.objs.size:=by simpa using z
    exact absurd (lt_size e) (by rw[z'];exact lt_irrefl _)) (get?_push_of_some _ e)
   exact I2
  ·show Value.bool _=Value.bool _
   congr 1
   rw[size_toArray,←hl]
   exact su bs
end
end L2
namespace J
open PySem PySem.Spec PyProof.Rows
open L2 (Cx V Hp St VK TE TT TA TS TG nJ TI TO cL)
structure Fn(X:Cx)(cts:List Expr)(t:TT):Prop where
 out:L2.BW X cts t
section
variable {X:Cx}{x y:Str}{xs ns:List Str}{scope:Scope}{cl:List (Str×Addr)}{fp:List Addr}{s3:Shared}{H3:Hp}{C:Addr}{p pos spos py:Pos}{ct tg it elt:Expr}{cts:List Expr}{tc:TT}{te:TE}{wi:TI}{g:TG}{is:List Nat}{sc:Scope}{N:List Str}{iy:Nat}
theorem _root_.bW{x:Str}{px:Pos}(hc:X.calm=true)(hi:JI X (.Name x px) it wi)(L:L2.EU sc N x scope is ns)(he:∀cl fp s3 H3 C,JE (L2.cZ X (x::ns) scope cl fp s3 H3 C) elt te)(hsc:X.env.scope=sc)(hN:X.N=N)(hs:∀x,foldedSetIterable it X.env x=pure x:=by intro _;rfl):
  JE X (.ListComp elt [⟨.Name x px,it,[],0⟩] scope pos) (L2.Iy wi is te):=⟨L2.yW hc hi.out L (fun cl fp s3 H3 C=>(he cl fp s3 H3 C).out) hsc hN hs⟩
theorem _root_.bE:Fn X [] L2.xx:=⟨L2.vb⟩
theorem _root_.bT(h:JT X ct tc):Fn X [ct] tc:=⟨L2.AZ h.out⟩
theorem _root_.aI {i:Nat}(h:scope.names.lookup y=some .local) (hi:xs[i]? =some y) (db:(y == ("__debug__" :Str))=false) (cd:(y == ("__classdict__" :Str))=false):JE (L2.cZ X xs scope cl fp s3 H3 C) (.Name y p) (L2.dE i):=
 ⟨L2.jh (i:=i) hi (.inl (PySem.lookup_relabel_local h)) db cd⟩
theorem _root_.a8 {i:Nat}(h:scope.names.lookup y=some .free) (hi:xs[i]? =some y) (db:(y == ("__debug__" :Str))=false) (cd:(y == ("__classdict__" :Str))=false):JE (L2.cZ X xs scope cl fp s3 H3 C) (.Name y p) (L2.dE i):=
 ⟨L2.jh (i:=i) hi (.inr (L2.iA h)) db cd⟩
theorem _root_.aX{i:Nat}(nd:xs.Nodup)(h:scope.names.lookup y=some .local)(hi:xs[i]? =some y):JG (L2.cZ X xs scope cl fp s3 H3 C) (.Name y p) (L2.d7 i):=
 ⟨L2.lJ (i:=i) nd hi (.inl (PySem.lookup_relabel_local h)) (.inr (PySem.lookup_relabel_local h))⟩
theorem _root_.bw(hc:X.calm=true)(hi:JI X tg it wi)(L:L2.mq sc N xs scope is ns)(hg:∀cl fp s3 H3 C,JG (L2.cZ X (xs++ns) scope cl fp s3 H3 C) tg g)(hct:∀cl fp s3 H3 C,Fn (L2.cZ X (xs++ns) scope cl fp s3 H3 C) cts tc)(he:∀cl fp s3 H3 C,JE (L2.cZ X (xs++ns) scope cl fp s3 H3 C) elt te)
  (hsc:X.env.scope=sc)(hN:X.N=N)(hs:∀x,foldedSetIterable it X.env x=pure x:=by intro _;rfl):JE X (.ListComp elt [⟨tg,it,cts,0⟩] scope pos) (L2.Aw wi xs.length is g tc te):=
 ⟨L2.B7 hc hi.out L (fun cl fp s3 H3 C=>(hg cl fp s3 H3 C).out) (fun cl fp s3 H3 C=>(hct cl fp s3 H3 C).out) (fun cl fp s3 H3 C=>(he cl fp s3 H3 C).out) hsc hN hs⟩
theorem _root_.cw(S:L2.Slot X iy y)(hnd:X.N.Nodup)(hc:X.calm=true)(hi:JI X tg it wi)(L:L2.mq sc N xs scope is ns)(hg:∀cl fp s3 H3 C,JG (L2.cZ X (xs++ns) scope cl fp s3 H3 C) tg g)(hct:∀cl fp s3 H3 C,Fn (L2.cZ X (xs++ns) scope cl fp s3 H3 C) cts tc)(he:∀cl fp s3 H3 C,JE (L2.cZ X (xs++ns) scope cl fp s3 H3 C) elt te)
  (hsc:X.env.scope=sc)(hN:X.N=N)
  (hw:((if sc.kind.isAnnotationScope then ScopeKind.function else sc.kind) == .function && sc.names.lookup y == some .local && py.line == pos.line && !(scope.names.any fun(n,k)=>n == y && (k == .local || k == .cell)))=true)
  (hs:∀x,foldedSetIterable it X.env x=pure x:=by intro _;rfl):
  JS X (.Assign [.Name y py] (.ListComp elt [⟨tg,it,cts,0⟩] scope pos) spos) (L2.qY (L2.Aw wi xs.length is g tc te) (L2.d7 iy)):=
 ⟨L2.xf hnd S.hN S.lc S.fn (L2.wu hsc hw) hc hi.out L (fun cl fp s3 H3 C=>(hg cl fp s3 H3 C).out) (fun cl fp s3 H3 C=>(hct cl fp s3 H3 C).out) (fun cl fp s3 H3 C=>(he cl fp s3 H3 C).out) hsc hN hs⟩
theorem f6(hc:X.calm=true):JF X (.builtin "any") (fun xs H Q=>∃(p:Addr) (bs:List Bool),xs=[.ref p]∧cL X.K H p (bs.map V.bl)∧Q (.bl (bs.any id)) H):=⟨L2.f6 hc⟩
end
end J
namespace L2
open PySem PySem.Spec PyProof.Rows
section
variable {κ:Type} [DecidableEq κ]
def dD(kvs:List (κ×V))(k:κ):Option V:=(kvs.find? fun kv=>decide (kv.1=k)).map (·.2)
def putK(kvs:List (κ×V))(k:κ)(v:V):List (κ×V):=
 if(kvs.any fun kv=>decide (kv.1=k))=true then kvs.map (fun kv=>if kv.1=k then(kv.1,v) else kv) else kvs++[(k,v)]
def yI(kvs:List (κ×V))(k:κ):List (κ×V):=kvs.filter fun kv=>decide (kv.1≠k)
theorem dN{p:κ×V}{r:List (κ×V)}{k:κ}(e:p.1=k):dD (p::r) k=some p.2:=by simp[dD,find?_cons,e]
theorem dQ{p:κ×V}{r:List (κ×V)}{k:κ}(e:¬p.1=k):dD (p::r) k=dD r k:=by simp[dD,find?_cons,e]
theorem jO(k:κ):∀kvs:List (κ×V),(kvs.any fun kv=>decide (kv.1=k))=(dD kvs k).isSome
 |[]=>rfl
 |p::r=>by
  rw[any_cons]
  by_cases e:p.1=k
  ·simp only[dN e,decide_eq_true e,Bool.true_or,Option.isSome_some]
  ·rw[dQ e,decide_eq_false e,Bool.false_or];exact jO k r
theorem rA(k j:κ)(y:V):∀kvs:List (κ×V),dD (kvs.map fun kv=>if kv.1=k then(kv.1,y) else kv) j=(dD kvs j).map fun x=>if j=k then y else x
 |[]=>rfl
 |p::r=>by
  have ih:=rA k j y r
  rw[map_cons]
  by_cases h:p.1=k
  ·rw[if_pos h]
   by_cases e:p.1=j
   ·rw[dN (p:=(p.1,y)) e,dN e,map_some,if_pos (e.symm.trans h)]
   ·rw[dQ (p:=(p.1,y)) e,dQ e,ih]
  ·rw[if_neg h]
   by_cases e:p.1=j
   ·rw[dN (p:=p) e,dN e,map_some,if_neg (fun z=>h (e.trans z))]
   ·rw[dQ (p:=p) e,dQ e,ih]
theorem oO(k j:κ)(y:V):∀kvs:List (κ×V),dD kvs k=none→dD (kvs++[(k,y)]) j=if j=k then some y else dD kvs j
 |[],_=>by
  by_cases e:k=j
  ·rw[if_pos e.symm];exact dN (p:=(k,y)) e
  ·rw[if_neg (fun z=>e z.symm)];exact dQ (p:=(k,y)) e
 |p::r,hn=>by
  rw[List.cons_append]
  have hk:¬p.1=k:=fun z=>by rw[dN z]at hn;cases hn
  rw[dQ hk]at hn
  have ih:=oO k j y r hn
  by_cases e:p.1=j
  ·rw[dN e,dN e,if_neg (fun z=>hk (e.trans z))]
  ·rw[dQ e,dQ e,ih]
theorem rR(kvs:List (κ×V))(k j:κ)(y:V):dD (putK kvs k y) j=if j=k then some y else dD kvs j:=by
 unfold putK
 by_cases a:(kvs.any fun kv=>decide (kv.1=k))=true
 ·rw[if_pos a,rA]
  rw[jO]at a
  by_cases e:j=k
  ·obtain⟨x,hx⟩:=Option.isSome_iff_exists.mp a
   rw[if_pos e,e,hx,map_some,if_pos rfl]
  ·rw[if_neg e]
   cases dD kvs j with
   |none=>rfl
   |some x=>rw[map_some,if_neg e]
 ·rw[if_neg a]
  refine oO k j y kvs ?_
  rw[jO]at a
  cases q:dD kvs k with
  |none=>rfl
  |some x=>rw[q]at a;exact(a rfl).elim
theorem fF(kvs:List (κ×V))(k:κ)(v:V):(putK kvs k v).length≤kvs.length+1:=by
 unfold putK
 split
 ·rw[length_map];omega
 ·rw[length_append,length_cons,List.length_nil];omega
theorem i8.gr{o:Option V}{u:Option Value}(r:i8 o u):o.isSome=u.isSome:=by
 cases o with
 |none=>cases u with
  |none=>rfl
  |some _=>exact(show False from r).elim
 |some _=>cases u with
  |none=>exact(show False from r).elim
  |some _=>rfl
theorem KV.val{kvs:List (κ×V)}{vs:List (κ×Value)}(r:KV kvs vs)(k:κ):i8 (dD kvs k) (valueAt vs k):=by
 unfold KV at r
 induction r with
 |nil=>exact True.intro
 | @cons p q ps qs h t ih=>
  obtain⟨h1,h2⟩:=h
  by_cases e:p.1=k
  ·have e':q.1=k:=h1.symm.trans e
   have b:valueAt (q::qs) k=some q.2:=by simp[valueAt,find?_cons,e']
   rw[dN e,b];exact h2
  ·have e':¬q.1=k:=fun z=>e (h1.trans z)
   have b:valueAt (q::qs) k=valueAt qs k:=by simp[valueAt,find?_cons,e']
   rw[dQ e,b];exact ih
theorem KV.any{kvs:List (κ×V)}{vs:List (κ×Value)}(r:KV kvs vs)(k:κ):(kvs.any fun kv=>decide (kv.1=k))=vs.any fun kv=>decide (kv.1=k):=by
 unfold KV at r
 induction r with
 |nil=>rfl
 |cons h t ih=>rw[any_cons,any_cons,ih,h.1]
theorem KV.CV{kvs:List (κ×V)}{vs:List (κ×Value)}(r:KV kvs vs)(k:κ){y:V}{u:Value}(ry:RelV y u):
  KV (kvs.map fun kv=>if kv.1=k then(kv.1,y) else kv) (vs.map fun kv=>if kv.1=k then(kv.1,u) else kv):=by
 unfold KV at r ⊢
 induction r with
 |nil=>exact .nil
 | @cons p q ps qs h t ih=>
  rw[map_cons,map_cons]
  refine .cons ?_ ih
  obtain⟨h1,h2⟩:=h
  by_cases e:p.1=k
  ·rw[if_pos e,if_pos (h1.symm.trans e)];exact⟨h1,ry⟩
  ·rw[if_neg e,if_neg (fun z=>e (h1.trans z))];exact⟨h1,h2⟩
theorem KV.put{kvs:List (κ×V)}{vs:List (κ×Value)}(r:KV kvs vs)(k:κ){y:V}{u:Value}(ry:RelV y u):KV (putK kvs k y) (stored vs k u):=by
 unfold putK stored
 rw[r.any k]
 by_cases e:(vs.any fun kv=>decide (kv.1=k))=true
 ·rw[if_pos e,if_pos e];exact r.CV k ry
 ·rw[if_neg e,if_neg e];exact Paired.snoc r ⟨rfl,ry⟩
theorem KV.keys{kvs:List (κ×V)}{vs:List (κ×Value)}(r:KV kvs vs):kvs.map (·.1)=vs.map (·.1):=by
 unfold KV at r
 induction r with
 |nil=>rfl
 |cons h t ih=>rw[map_cons,map_cons,ih,h.1]
theorem KV.length{kvs:List (κ×V)}{vs:List (κ×Value)}(r:KV kvs vs):kvs.length=vs.length:=Paired.length r
end
theorem sQ{P:Program}{w:World}{k:Key}{u:Value}(r:RelV (kV k) u):(cO P w).is k u=true:=by
 cases k with
 |inl i=>obtain⟨t,e⟩:=(show ∃t,u=Value.int i t from r);subst e;exact qH P w i t
 |inr x=>obtain⟨t,e⟩:=(show ∃t,u=Value.str x t from r);subst e;exact sD P w x t
theorem ox{P:Program}{w:World}:∀{ks:List Key}{us:List Value},Vals (ks.map kV) us→ItemsAre (cO P w) ks us
 |[],_,r=>by rw[List.map_nil]at r;cases r;exact .nil
 |k::ks,_,r=>by
  rw[map_cons]at r
  cases r with
  |cons h t=>exact .cons (sQ h) (ox t)
abbrev KT(H:Hp):List (List Key×V)→List (List Key×Addr×Value)→Prop:=Paired fun p q=>p.1=q.1∧H q.2.1=some (.tup (p.1.map kV))∧RelV p.2 q.2.2
theorem KT.val{H:Hp}{kvs:List (List Key×V)}{xs:List (List Key×Addr×Value)}(r:KT H kvs xs)(k:List Key):i8 (dD kvs k) ((atKey xs k).map (·.2)):=by
 induction r with
 |nil=>exact True.intro
 | @cons p q ps qs h t ih=>
  obtain⟨h1,_,h2⟩:=h
  by_cases e:p.1=k
  ·have e':q.1=k:=h1.symm.trans e
   have b:atKey (q::qs) k=some q.2:=by simp[atKey,find?_cons,e']
   rw[dN e,b];exact h2
  ·have e':¬q.1=k:=fun z=>e (h1.trans z)
   have b:atKey (q::qs) k=atKey qs k:=by simp[atKey,find?_cons,e']
   rw[dQ e,b];exact ih
theorem KT.CV{H:Hp}{kvs:List (List Key×V)}{xs:List (List Key×Addr×Value)}(r:KT H kvs xs)(k:List Key){y:V}{u:Value}(ry:RelV y u):
  KT H (kvs.map fun kv=>if kv.1=k then(kv.1,y) else kv) (xs.map (putAt k u)):=by
 induction r with
 |nil=>exact .nil
 | @cons p q ps qs h t ih=>
  rw[map_cons,map_cons]
  refine .cons ?_ ih
  obtain⟨h1,h2,h3⟩:=h
  unfold putAt
  by_cases e:p.1=k
  ·rw[if_pos e,if_pos (h1.symm.trans e)];exact⟨h1,h2,ry⟩
  ·rw[if_neg e,if_neg (fun z=>e (h1.trans z))];exact⟨h1,h2,h3⟩
theorem KT.put{H:Hp}{kvs:List (List Key×V)}{xs:List (List Key×Addr×Value)}(r:KT H kvs xs)(k:List Key){b:Addr}{y:V}{u:Value}(hb:H b=some (.tup (k.map kV)))(ry:RelV y u):
  KT H (putK kvs k y) (storedH xs k b u):=by
 have e:(kvs.any fun kv=>decide (kv.1=k))=(atKey xs k).isSome:=by
  rw[jO,(r.val k).gr,isSome_map]
 unfold putK storedH
 rw[e]
 by_cases q:(atKey xs k).isSome=true
 ·rw[if_pos q,if_pos q];exact r.CV k ry
 ·rw[if_neg q,if_neg q];exact Paired.snoc r ⟨rfl,hb,ry⟩
theorem KT.keeps{H H':Hp}{kvs:List (List Key×V)}{xs:List (List Key×Addr×Value)}(r:KT H kvs xs)(ht:∀b ys,H b=some (.tup ys)→H' b=some (.tup ys)):KT H' kvs xs:=
 Paired.DB r fun _ _ z=>⟨z.1,ht _ _ z.2.1,z.2.2⟩
section
variable {P:Program}{w:World}{H:Hp}{h:Heap}{a:Addr}
theorem BO{u:HO}(ok:jb P w H h)(e:Rd H a u):df P w H h a u:=e.ok ok
theorem qV{kvs:List (Key×V)}(ok:jb P w H h)(e:Rd H a (.dK kvs)):kvs.length≤sizeLine∧(a == sysModules)=false∧∃vs,KV kvs vs∧h.DictOf (cO P w) a vs:=
 show df P w H h a (.dK kvs) from BO ok e
theorem BJ{kvs:List (Key×V)}(ok:jb P w H h)(e:H a=some (.dK kvs)):kvs.length≤sizeLine∧(a == sysModules)=false∧∃vs,KV kvs vs∧h.DictOf (cO P w) a vs:=qV ok (.inl e)
theorem nI{ks:List Key}(ok:jb P w H h)(e:H a=some (.tup (ks.map kV))):(tupleKind (cO P w)).is h ks a:=by
 obtain⟨_,its,r,o,h1,h2,n,h3⟩:=(show df P w H h a (.tup (ks.map kV)) from ok a _ e)
 exact⟨o,its.toArray,n,h1,h2,h3,by simpa using ox r⟩
theorem sH{kvs:List (List Key×V)}(ok:jb P w H h)(e:Rd H a (.dT kvs)):kvs.length≤sizeLine∧(a == sysModules)=false∧
  ∃xs,KT H kvs xs∧h.DictOfH (tupleKind (cO P w)) a xs:=by
 obtain⟨z,y,xs,r,o,es,ep,h1,h2,h3,h4,h5⟩:=(show df P w H h a (.dT kvs) from BO ok e)
 refine⟨z,y,xs,r,o,es,ep,h1,h2,h3,h4,fun x hx=>?_,h5⟩
 have all:∀{l:List (List Key×V)}{m:List (List Key×Addr×Value)},KT H l m→∀x∈m,(tupleKind (cO P w)).is h x.1 x.2.1:=by
  intro l m q
  induction q with
  |nil=>intro x hx;exact nomatch hx
  | @cons p q ps qs hq t ih=>
   intro x hx
   rcases mem_cons.mp hx with e|hx
   ·subst e
    exact nI ok (by rw[←hq.1];exact hq.2.1)
   ·exact ih x hx
 exact all r x hx
theorem E5{kvs:List (List Key×V)}(ok:jb P w H h)(e:H a=some (.dT kvs)):kvs.length≤sizeLine∧(a == sysModules)=false∧
  ∃xs,KT H kvs xs∧h.DictOfH (tupleKind (cO P w)) a xs:=sH ok (.inl e)
end
def eC(H:Hp)(a:Addr)(y:V)(r:Option V):Prop:=
 (∃kvs k,Rd H a (.dK kvs)∧y=kV k∧r=dD kvs k)∨∃kvs k b,Rd H a (.dT kvs)∧y=.ref b∧H b=some (.tup (k.map kV))∧r=dD kvs k
def lF(H:Hp)(a:Addr)(y v:V)(H':Hp):Prop:=
 (∃kvs k,H a=some (.dK kvs)∧y=kV k∧kvs.length < sizeLine∧H'=upd H a (.dK (putK kvs k v)))∨
 ∃kvs k b,H a=some (.dT kvs)∧y=.ref b∧H b=some (.tup (k.map kV))∧kvs.length < sizeLine∧H'=upd H a (.dT (putK kvs k v))
theorem eC.k{H:Hp}{a:Addr}{kvs:List (Key×V)}{k:Key}(e:H a=some (.dK kvs)):eC H a (kV k) (dD kvs k):=.inl ⟨kvs,k,.inl e,rfl,rfl⟩
theorem eC.t{H:Hp}{a b:Addr}{kvs:List (List Key×V)}{k:List Key}(e:H a=some (.dT kvs))(eb:H b=some (.tup (k.map kV))):eC H a (.ref b) (dD kvs k):=.inr ⟨kvs,k,b,.inl e,rfl,eb,rfl⟩
theorem lF.k{H:Hp}{a:Addr}{kvs:List (Key×V)}{k:Key}{v:V}(e:H a=some (.dK kvs))(hl:kvs.length < sizeLine):lF H a (kV k) v (upd H a (.dK (putK kvs k v))):=.inl ⟨kvs,k,e,rfl,hl,rfl⟩
theorem lF.t{H:Hp}{a b:Addr}{kvs:List (List Key×V)}{k:List Key}{v:V}(e:H a=some (.dT kvs))(eb:H b=some (.tup (k.map kV)))(hl:kvs.length < sizeLine):
  lF H a (.ref b) v (upd H a (.dT (putK kvs k v))):=.inr ⟨kvs,k,b,e,rfl,eb,hl,rfl⟩
section
variable {X:Cx}{pins:List (Addr×Obj)}{σ:St}{H:Hp}{s:Shared}{a:Addr}{y v:V}{u r:Value}{o:Option V}{A:Around}{E:Value→Shared→Prop}
theorem Inv.big(I:Inv X pins σ H s):sysModules < s.heap.objs.size:=by
 have h:mainGlobals < s.heap.objs.size:=(I.mod.glob.keeps I.bk).lt
 exact Nat.lt_trans (by decide) h
theorem wj{Q:Value→Shared→Prop}(hu:A.units+1 < cLine)(I:Inv X pins σ H s)(g:eC H a y (some v))(ry:RelV y u)(h:∀w' s',Inv X pins σ H s'→RelV v w'→Q w' s'):
  wpAny (model X.prog X.w) A (getItem (.ref a) u) Q E s:=by
 rcases g with ⟨kvs,k,e,ey,l⟩|⟨kvs,k,b,e,ey,eb,l⟩
 ·subst ey
  obtain⟨z,hd,vs,rel,dd⟩:=qV I.hok e
  obtain⟨w',hw,rw'⟩:=i8.some_of (v:=v) (o:=valueAt vs k) (by rw[l];exact rel.val k)
  exact wpAny_getItem_of (sQ ry) dd.mapOf hw (h w' _ (I.tok _) rw')
 ·subst ey
  cases (show u=Value.ref b from ry)
  obtain⟨z,hd,xs,rel,dd⟩:=sH I.hok e
  obtain⟨w',hw,rw'⟩:=i8.some_of (v:=v) (o:=(atKey xs k).map (·.2)) (by rw[l];exact rel.val k)
  obtain⟨p,hp,hp2⟩:=map_eq_some_iff.mp hw
  refine wpAny_getItem_heap (tupleKind_room_in1 hu) (nI I.hok eb) dd hp ?_
  rw[hp2]
  exact h w' _ (I.tok _) rw'
theorem Hn{Q:Value→Shared→Prop}(hu:A.units+1 < cLine)(I:Inv X pins σ H s)(g:eC H a y o)(ry:RelV y u)(h:∀s',Inv X pins σ H s'→Q (.bool o.isSome) s'):
  wpAny (model X.prog X.w) A (compareOp .In u (.ref a)) Q E s:=by
 rcases g with ⟨kvs,k,e,ey,l⟩|⟨kvs,k,b,e,ey,eb,l⟩
 ·subst ey
  obtain⟨z,hd,vs,rel,dd⟩:=qV I.hok e
  refine wpAny_in_of (sQ ry) hd dd.mapOf ?_
  rw[←(rel.val k).gr,←l]
  exact h _ (I.tok _)
 ·subst ey
  cases (show u=Value.ref b from ry)
  obtain⟨z,hd,xs,rel,dd⟩:=sH I.hok e
  refine wpAny_in_heap (tupleKind_room_in1 hu) (nI I.hok eb) hd dd ?_
  have q:=(rel.val k).gr
  rw[isSome_map]at q
  rw[←q,←l]
  exact h _ (I.tok _)
theorem Ac{Q:Value→Shared→Prop}(hu:A.units+1 < cLine)(I:Inv X pins σ H s)(g:eC H a y o)(ry:RelV y u)(h:∀s',Inv X pins σ H s'→Q (.bool (!o.isSome)) s'):
  wpAny (model X.prog X.w) A (compareOp .NotIn u (.ref a)) Q E s:=by
 rcases g with ⟨kvs,k,e,ey,l⟩|⟨kvs,k,b,e,ey,eb,l⟩
 ·subst ey
  obtain⟨z,hd,vs,rel,dd⟩:=qV I.hok e
  refine wpAny_notIn_of (sQ ry) hd dd.mapOf ?_
  rw[←(rel.val k).gr,←l]
  exact h _ (I.tok _)
 ·subst ey
  cases (show u=Value.ref b from ry)
  obtain⟨z,hd,xs,rel,dd⟩:=sH I.hok e
  refine wpAny_notIn_heap (tupleKind_room_in1 hu) (nI I.hok eb) hd dd ?_
  have q:=(rel.val k).gr
  rw[isSome_map]at q
  rw[←q,←l]
  exact h _ (I.tok _)
theorem vc{h':Heap}{t':Nat}{ob:HO}(I:Inv X pins σ H s)(mu:FO (H a))(hs:Heap.SameBut a s.heap h')(he:∃q,h'.get? a=some q)(new:df X.prog X.w (upd H a ob) h' a ob):
  Inv X pins σ (upd H a ob) { s with heap:=h',toks:=t' }:=
 I.write (x:=a) (e:=a) mu (.inl rfl) (fun b q hb z=>(hs.2 b hb).trans z) he new
theorem C5{P:Program}{w:World}{H':Hp}{h':Heap}{kvs:List (Key×V)}{vs:List (Key×Value)}(z:kvs.length≤sizeLine)(hd:(a == sysModules)=false)(rel:KV kvs vs)(dd:h'.DictOf (cO P w) a vs):
  df P w H' h' a (.dK kvs):=⟨z,hd,vs,rel,dd⟩
theorem xj{H':Hp}{Q:Unit→Shared→Prop}(hu:A.units+1 < cLine)(I:Inv X pins σ H s)(g:lF H a y v H')(ry:RelV y u)(rv:RelV v r)(h:∀s',Inv X pins σ H' s'→Q () s'):
  wpAny (model X.prog X.w) A (setItem (.ref a) u r) Q E s:=by
 rcases g with ⟨kvs,k,e,ey,l,eH⟩|⟨kvs,k,b,e,ey,eb,l,eH⟩
 ·subst ey eH
  obtain⟨z,hd,vs,rel,dd⟩:=BJ I.hok e
  have hz:vs.length≤sizeLine:=by rw[←rel.length];exact z
  have hl:(putK kvs k v).length≤sizeLine:=by have:=fF kvs k v;omega
  refine wpAny_setItem_pairs (hsz:=hz) (sQ ry) dd fun h' dd' hs=>h _ ?_
  have he:∃q,h'.get? a=some q:=let ⟨q,_,_,hq,_⟩:=dd';⟨q,hq⟩
  exact vc I (by rw[e];exact True.intro) hs he (C5 hl hd (rel.put k rv) dd')
 ·subst ey eH
  cases (show u=Value.ref b from ry)
  obtain⟨z,hd,xs,rel,dd⟩:=E5 I.hok e
  have hz:xs.length≤sizeLine:=by rw[←Paired.length rel];exact z
  have hl:(putK kvs k v).length≤sizeLine:=by have:=fF kvs k v;omega
  refine wpAny_setItem_heap (hsz:=hz) (tupleKind_room_in1 hu) (nI I.hok eb) dd fun h' dd' hs=>h _ ?_
  obtain⟨q,es,ep,hq,h2,h3,h4,_,h5⟩:=dd'
  refine vc I (by rw[e];exact True.intro) hs ⟨q,hq⟩ ⟨hl,hd,_,(rel.put k eb rv).keeps fun c ys ec=>?_,q,es,ep,hq,h2,h3,h4,h5⟩
  rw[cH (eW ec e (fun z=>nomatch z))]
  exact ec
end
section
variable {X:Cx}{pins:List (Addr×Obj)}{σ:St}{H:Hp}{s:Shared}{a:Addr}{kvs:List (Key×V)}{k:Key}{u:Value}{A:Around}{E:Value→Shared→Prop}
end
def Fi(i:Expr):Prop:=∀ov iv,subscripted i false ov iv=operate [ov,iv] (getItem ov iv)
theorem z0{prog:Program}{w:World}{A:Around}{E:Value→Shared→Prop}{s:Shared}{env:Env}{value slice:Expr}{pos:Pos}{T id:String}{Q:Value→Shared→Prop}
  (hl:typeLookup (.type T) "__getitem__" =pure (some (.builtin id))) (hs:Fi slice)
  (h:wpAny (model prog w) A (eval value env) (fun o s₁=>wpAny (model prog w) A (eval slice env) (fun i s₂=>s₂.TypeIs o T∧wpAny (model prog w) A (getItem o i) Q E s₂) E s₁) E s):
  wpAny (model prog w) A (eval (.Subscript value slice pos) env) Q E s:=by
 refine Subscript_ (wpAny_mono h (fun o s₁ h₁=>wpAny_mono h₁ (fun i s₂ h₂=>?_) fun _ _ x=>x) fun _ _ x=>x)
 obtain⟨hT,h₂⟩:=h₂
 unfold subscriptTail
 refine wpAny_bind ?_
 rw[getitemInPython_of_ne hT.not_modules]
 refine wpAny_bind (wpAny_specialOf hT hl ?_)
 have fin:wpAny (model prog w) A (subscripted slice false o i) (fun r s₃=>wpAny (model prog w) A (letTemporaryGo value o r >>= fun _=>pure r) Q E s₃) E s₂:=by
  rw[hs o i]
  exact wpAny_operating (wpAny_mono h₂ (fun r s₃ h₃=>wpAny_bind (wpAny_letTemporaryGo (wpAny_pure h₃))) fun _ _ x=>x)
 first
  |exact wpAny_pure (wpAny_bind fin)
  |exact wpAny_bind (wpAny_pure (wpAny_bind fin))
  |exact wpAny_bind fin
theorem rD{X:Cx}{pins:List (Addr×Obj)}{σ:St}{H:Hp}{s:Shared}{a:Addr}{y:V}{o:Option V}(I:Inv X pins σ H s)(g:eC H a y o):s.TypeIs (.ref a) "dict" :=by
 rcases g with ⟨kvs,k,e,_,_⟩|⟨kvs,k,b,e,_,_,_⟩
 ·obtain⟨_,_,vs,_,dd⟩:=qV I.hok e
  exact dd.typeIs
 ·obtain⟨_,_,xs,_,dd⟩:=sH I.hok e
  exact dd.typeIs
def BB(td ty:TE):TE:=fun σ H Q=>td σ H fun x H1=>ty σ H1 fun y H2=>∃a v,x=.ref a∧eC H2 a y (some v)∧Q v H2
def CC(ty td:TE):TE:=fun σ H Q=>ty σ H fun y H1=>td σ H1 fun x H2=>∃a o,x=.ref a∧eC H2 a y o∧Q (.bl o.isSome) H2
def iX(ty td:TE):TE:=fun σ H Q=>ty σ H fun y H1=>td σ H1 fun x H2=>∃a o,x=.ref a∧eC H2 a y o∧Q (.bl (!o.isSome)) H2
def u6(td ty tv:TE):TS:=fun D σ H=>tv σ H fun v H1=>td σ H1 fun x H2=>ty σ H2 fun y H3=>∃a H4,x=.ref a∧lF H3 a y v H4∧D.nx σ H4
def HU(td ty tv:TE)(rd:V→V→Hp→VK→Prop):TS:=fun D σ H=>td σ H fun x H1=>ty σ H1 fun y H2=>∃a v,x=.ref a∧eC H2 a y (some v)∧
 tv σ H2 fun y2 H3=>rd v y2 H3 fun z H4=>∃H5,lF H4 a y z H5∧D.nx σ H5
def H0(td ty:TE):TS:=fun D σ H=>td σ H fun x H1=>ty σ H1 fun y H2=>∃a kvs k,x=.ref a∧H2 a=some (.dK kvs)∧y=kV k∧(dD kvs k).isSome=true∧D.nx σ (upd H2 a (.dK (yI kvs k)))
section
variable {X:Cx}{o i e value:Expr}{pos pos' tpos:Pos}{td ty tv:TE}
theorem zN(hu:X.A.units+1 < cLine)(ho:PE X o td)(hi:PE X i ty)(hs:Fi i):PE X (.Subscript o i pos) (BB td ty):=by
 intro pins s σ H Q I h
 refine z0 PySem.F.slot_dict_getitem.lookup hs (dq (ho pins s σ H _ I h) fun u s1 ⟨x,H1,I1,rx,q1⟩=>dq (hi pins s1 σ H1 _ I1 q1) fun iv s2 hpat=>?_)
 obtain⟨y,H2,I2,ry,a,v,ex,g,q2⟩:=hpat
 subst ex
 obtain rfl:u=Value.ref a:=rx
 exact⟨rD I2 g,wj hu I2 g ry fun w' s3 I3 rw'=>⟨v,H2,I3,rw',q2⟩⟩
theorem Dw(hu:X.A.units+1 < cLine)(hi:PE X i ty)(ho:PE X o td):PC X .In i o (CC ty td):=by
 intro pins s σ H Q I h
 refine dq (hi pins s σ H _ I h) fun iv s1 ⟨y,H1,I1,ry,q1⟩=>dq (ho pins s1 σ H1 _ I1 q1) fun u s2 hpat=>?_
 obtain⟨x,H2,I2,rx,a,ov,ex,g,q2⟩:=hpat
 subst ex
 obtain rfl:u=Value.ref a:=rx
 exact Hn hu I2 g ry fun s3 I3=>⟨.bl ov.isSome,H2,I3,rfl,q2⟩
theorem oT(hu:X.A.units+1 < cLine)(hi:PE X i ty)(ho:PE X o td):PC X .NotIn i o (iX ty td):=by
 intro pins s σ H Q I h
 refine dq (hi pins s σ H _ I h) fun iv s1 ⟨y,H1,I1,ry,q1⟩=>dq (ho pins s1 σ H1 _ I1 q1) fun u s2 hpat=>?_
 obtain⟨x,H2,I2,rx,a,ov,ex,g,q2⟩:=hpat
 subst ex
 obtain rfl:u=Value.ref a:=rx
 exact Ac hu I2 g ry fun s3 I3=>⟨.bl (!ov.isSome),H2,I3,rfl,q2⟩
theorem AG(hu:X.A.units+1 < cLine)(ho:PE X o td)(hi:PE X i ty)(hv:PE X value tv)(hs:swapsWith value (some (.Subscript o i pos')) pos.line X.env=pure false):
  PS X (.Assign [.Subscript o i pos'] value pos) (u6 td ty tv):=by
 intro pins s σ H D I h
 refine wpAny_Assign_Subscript (dq (hv pins s σ H _ I h) fun r s1 ⟨v,H1,I1,rv,q1⟩=>dq (ho pins s1 σ H1 _ I1 q1) fun u s2 ⟨x,H2,I2,rx,q2⟩=>dq (hi pins s2 σ H2 _ I2 q2) fun iv s3 hpat=>?_) hs
 obtain⟨y,H3,I3,ry,a,H4,ex,g,q3⟩:=hpat
 subst ex
 obtain rfl:u=Value.ref a:=rx
 exact xj hu I3 g ry rv fun s4 I4=>⟨σ,H4,I4,q3⟩
end
theorem yY{P:Program}{w:World}{H:Hp}(h:Heap)(hb:sysModules < h.objs.size):df P w H (h.push { cls:=.type "dict",data:=.dict #[] }) h.objs.size (.dT []):=
 ⟨zero_le _,beq_eq_false_iff_ne.mpr (Ne.symm (ne_of_lt hb)),[],.nil,_,#[],0,get?_push_size _ rfl,⟨rfl,rfl,rfl⟩,rfl,rfl,nodup_nil⟩
def HC:TE:=fun _ H Q=>∀p,H p=none→Q (.ref p) (upd H p (.dK []))
def zg:TE:=fun _ H Q=>∀p,H p=none→Q (.ref p) (upd H p (.dT []))
section
variable {X:Cx}{pos:Pos}
theorem zw:PE X (.Dict [] [] pos) zg:=fun pins s σ H Q I h=>
 wpAny_Dict_empty ⟨.ref s.heap.objs.size,_,I.laid (a:=s.heap.objs.size) (o:=.dT []) (t':=s.toks) (fun _ _ q=>get?_push_of_some _ q) (le_refl _) (yY s.heap I.big),rfl,h _ (I.hok.fresh (le_refl _))⟩
end
def uk:List (TE×TE)→St→Hp→(List (V×V)→Hp→Prop)→Prop
 |[],_,H,Q=>Q [] H
 | (tk,tv)::r,σ,H,Q=>tk σ H fun x H1=>tv σ H1 fun y H2=>uk r σ H2 fun ps H3=>Q ((x,y)::ps) H3
abbrev VV:List (V×V)→List (Value×Value)→Prop:=Paired fun p q=>RelV p.1 q.1∧RelV p.2 q.2
def Kr(X:Cx)(pos:Pos)(keys:List (Option Expr))(values:List Expr)(trs:List (TE×TE)):Prop:=
 ∀(pins:List (Addr×Obj)) (s:Shared) (σ:St) (H:Hp) (Q:List (V×V)→Hp→Prop),Inv X pins σ H s→uk trs σ H Q→
  wpAny (model X.prog X.w) X.A (evalPairs (pairTrees keys values X.env pos)) (fun vs s'=>∃ps H',Inv X pins σ H' s'∧VV ps vs∧Q ps H') X.xe s
def yU(kvs more:List (Key×V)):List (Key×V):=more.foldl (fun acc kv=>putK acc kv.1 kv.2) kvs
def Ic(trs:List (TE×TE)):TE:=fun σ H Q=>∀p,H p=none→uk trs σ (upd H p (.dK [])) fun ps H2=>H2 p=some (.dK [])∧∃kvs:List (Key×V),ps=kvs.map (fun kv=>(kV kv.1,kv.2))∧kvs.length≤15∧Q (.ref p) (upd H2 p (.dK (yU [] kvs)))
structure M1(X:Cx)(o:Expr)(m:Str)(apos:Pos)(e:Expr)(cpos:Pos):Prop where
 base:attributeBase o m X.env (eval o X.env)=eval o X.env
 GH:((backTo cpos (starEach [e] X.env)).all (fun x=> !x.1) && (backToKw cpos (keywordEach [] X.env)).all (fun x=>x.1.isSome)
  && decide (([e]:List Expr).length+([]:List Keyword).length+(if([]:List Keyword).isEmpty then 0 else 1) < 30))=true
 line:(apos.endLine == cpos.line)=true
 trees:backTo cpos (starEach [e] X.env)=[(false,eval e X.env)]
structure M2(X:Cx)(o:Expr)(m:Str)(apos:Pos)(e f:Expr)(cpos:Pos):Prop where
 base:attributeBase o m X.env (eval o X.env)=eval o X.env
 GH:((backTo cpos (starEach [e,f] X.env)).all (fun x=> !x.1) && (backToKw cpos (keywordEach [] X.env)).all (fun x=>x.1.isSome)
  && decide (([e,f]:List Expr).length+([]:List Keyword).length+(if([]:List Keyword).isEmpty then 0 else 1) < 30))=true
 line:(apos.endLine == cpos.line)=true
 trees:backTo cpos (starEach [e,f] X.env)=[(false,eval e X.env),(false,eval f X.env)]
def F8(H:Hp)(a:Addr):Prop:=(∃kvs,Rd H a (.dK kvs))∨∃kvs,Rd H a (.dT kvs)
section
variable {X:Cx}{pins:List (Addr×Obj)}{σ:St}{H:Hp}{s:Shared}{a:Addr}{y d:V}{u r:Value}{o:Option V}{A:Around}{E:Value→Shared→Prop}
end
def HM(td ty:TE):TE:=fun σ H Q=>td σ H fun x H1=>∃a,x=.ref a∧F8 H1 a∧ty σ H1 fun y H2=>∃o,eC H2 a y o∧Q (o.getD .non) H2
def GC(td ty tx:TE):TE:=fun σ H Q=>td σ H fun x H1=>∃a,x=.ref a∧F8 H1 a∧ty σ H1 fun y H2=>tx σ H2 fun z H3=>∃o,eC H3 a y o∧Q (o.getD z) H3
def Hv(td ty:TE):TE:=fun σ H Q=>td σ H fun x H1=>∃a,x=.ref a∧F8 H1 a∧ty σ H1 fun y H2=>∃kvs k v,H2 a=some (.dK kvs)∧y=kV k∧dD kvs k=some v∧Q v (upd H2 a (.dK (yI kvs k)))
def Hr(td ty tx:TE):TE:=fun σ H Q=>td σ H fun x H1=>∃a,x=.ref a∧F8 H1 a∧ty σ H1 fun y H2=>tx σ H2 fun z H3=>∃kvs k,H3 a=some (.dK kvs)∧y=kV k∧
 (∀v,dD kvs k=some v→Q v (upd H3 a (.dK (yI kvs k))))∧(dD kvs k=none→Q z H3)
section
variable {X:Cx}{o e f:Expr}{apos cpos:Pos}{td ty tx:TE}
end
section
variable {X:Cx}{pins:List (Addr×Obj)}{σ:St}{H:Hp}{s:Shared}{a:Addr}{kvs:List (Key×V)}{A:Around}{E:Value→Shared→Prop}
end
section
variable {X:Cx}{pins:List (Addr×Obj)}{σ:St}{H:Hp}{s:Shared}{a:Addr}{y:V}{u:Value}{A:Around}{E:Value→Shared→Prop}
end
end L2
namespace L2
open PySem PySem.Spec PyProof.Rows
theorem tR:bootBuiltins "any" =some (.builtin "any"):=by decide+kernel
section
variable {X:Cx}{y m:Str}{N':List Str}{scope:Scope}{cl:List (Str×Addr)}{fp:List Addr}{s3:Shared}{H3:Hp}{C D:Addr}{sp:Sp}
theorem wz.lg(B:wz X y sp)(h:scope.names.lookup y=some .globalImplicit):AN (cZ X N' scope cl fp s3 H3 C) y sp:=⟨B.ex,gD (by decide) h,B.db⟩
end
def tq(zs xs:List V):Bool:=(List.range (min zs.length xs.length)).all (fun i=>qE (zs.getD i .non) (xs.getD i .non)) && zs.length == xs.length
def DA(H:Hp)(xs:List V)(v:V):Bool:=match v with
 |.ref c=>match H c with
  |some (.tup zs)=>tq zs xs
  |_=>false
 |_=>false
theorem yi{x:V}(f:de x=true):qE x x=true:=by
 cases x with
 |non=>rfl
 |bl b=>exact beq_self_eq_true b
 |int i=>exact beq_self_eq_true i
 |str z=>exact beq_self_eq_true z
 |_=>exact absurd (show false=true from f) Bool.false_ne_true
theorem xo{xs:List V}(f:xs.all de=true)(i:Nat):de (xs.getD i .non)=true:=by
 rw[getD_eq_getElem?_getD]
 cases h:xs[i]? with
 |none=>rfl
 |some v=>exact all_eq_true.mp f v (mem_of_getElem? h)
theorem y6{xs:List V}(f:xs.all de=true):tq xs xs=true:=by
 unfold tq
 rw[beq_self_eq_true,Bool.and_true,all_eq_true]
 exact fun i _=>yi (xo f i)
inductive FK(K:PySem.W.Frag)(x y:V)(H:Hp)(Q:VK):Prop
 |mk(a b:Addr)(xs ys:List V)(hx:x=.ref a)(hy:y=.ref b)(s:H a=some (.tup xs))(t:cL K H b ys)(f:xs.all de=true)(g:∀v∈ys,∃c zs,v=.ref c∧H c=some (.tup zs)∧zs.all de=true)(q:Q (.bl (ys.any (DA H xs))) H)
def Bg(H:Hp)(xs:List V)(u:Value):Bool:=match u with
 |.ref c=>DA H xs (.ref c)
 |_=>false
theorem ql{H:Hp}{xs:List V}:∀{ys:List V}{us:List Value},Vals ys us→(∀v∈ys,∃c zs,v=.ref c∧H c=some (.tup zs)∧zs.all de=true)→us.any (Bg H xs)=ys.any (DA H xs)
 |_,_,.nil,_=>rfl
 |y::_,u::_,.cons r t,g=>by
  obtain⟨c,zs,rfl,_⟩:=g y (mem_cons_self ..)
  cases r
  rw[any_cons,any_cons,ql t fun v hv=>g v (mem_cons_of_mem _ hv)]
  rfl
theorem mB:∀{ys:List V}{us:List Value}{u:Value},Vals ys us→u∈us→∃y∈ys,RelV y u
 |_,_,_,.nil,h=>by cases h
 |y::_,_::_,u,.cons r t,h=>by
  rcases mem_cons.mp h with rfl|h
  ·exact⟨y,mem_cons_self ..,r⟩
  ·obtain⟨z,hz,q⟩:=mB t h
   exact⟨z,mem_cons_of_mem _ hz,q⟩
theorem ou{X:Cx}{pins:List (Addr×Obj)}{σ:St}{H:Hp}{s:Shared}{A:Around}{c a:Addr}{zs xs:List V}(I:Inv X pins σ H s)(hu:A.units < cLine)(hc:H c=some (.tup zs))(ha:H a=some (.tup xs))(fz:zs.all de=true)(fx:xs.all de=true):SeqAt.EqAt A s (.ref c) (.ref a) (tq zs xs):=by
 by_cases e:c=a
 ·subst e
  rw[hc]at ha
  cases ha
  rw[y6 fx]
  exact SeqAt.EqAt.same _
 ·obtain⟨its,r,pl,_⟩:=I.tuple (c8.of (K:=X.K) hc)
  obtain⟨its2,r2,pl2,_⟩:=I.tuple (c8.of (K:=X.K) ha)
  have m1:=r.length
  have m2:=r2.length
  have:=SeqAt.RcAt.tuples (A:=A) (e:=fun i=>qE (zs.getD i .non) (xs.getD i .non)) pl pl2 hu (fun j h1 h2=>by
   simp only[size_toArray]at h1 h2
   obtain⟨x1,e1,r1⟩:=gw r h1
   obtain⟨x2,e2,r2'⟩:=gw r2 h2
   simp only[List.getElem_toArray]
   rw[getD_eq_getElem?_getD,getD_eq_getElem?_getD,e1,e2]
   exact tN r1 r2' (all_eq_true.mp fz _ (mem_of_getElem? e1)) (all_eq_true.mp fx _ (mem_of_getElem? e2)))
  refine SeqAt.EqAt.of_refs e ?_
  simp only[size_toArray]at this
  rw[←m1,←m2]at this
  exact this
theorem jr{X:Cx}(hu:X.A.units+1 < cLine):gX X (compareOp .In) (fun x y H Q=>FK X.K x y H Q):=by
 intro pins s σ H x y v u Q I rx ry h
 obtain⟨a,b,xs,ys,rfl,rfl,ha,hb,fx,g,q⟩:=h
 cases rx
 cases ry
 obtain⟨its,r,pl,_⟩:=I.list hb
 refine SeqAt.in_listAt (Bg H xs) pl.isList (fun w hw=>?_) ⟨.bl _,H,I,rfl,?_⟩
 ·obtain⟨z,hz,rz⟩:=mB r (by simpa using hw)
  obtain⟨c,zs,rfl,hc,fz⟩:=g z hz
  cases rz
  have e:Bg H xs (.ref c)=tq zs xs:=by
   show(match H c with|some (.tup zs)=>tq zs xs|_=>false)=_
   rw[hc]
  rw[e]
  exact ou I hu hc ha fz fx
 ·rw[show its.toArray.any (Bg H xs)=its.any (Bg H xs) by simp,ql r g]
  exact q
end L2
namespace J
open PySem PySem.Spec PyProof.Rows
open L2 (Cx V Hp St VK TE TT TA TS TG nJ TI TO cL c8)
section
variable {X:Cx}{N':List Str}{scope:Scope}{cl:List (Str×Addr)}{fp:List Addr}{s3:Shared}{H3:Hp}{C:Addr}{o i e value:Expr}{es:List Expr}{pos pos':Pos}{td ty tv:TE}
theorem _root_.bO:JX (L2.cZ X N' scope cl fp s3 H3 C) (L2.x6 X.K):=⟨L2.qA⟩
theorem _root_.a9:JX (L2.cZ X N' scope cl fp s3 H3 C) (L2.A7 X.K):=⟨L2.yh⟩
theorem oh:JC (L2.cZ X N' scope cl fp s3 H3 C) .NotIn (L2.E1 X.K true):=⟨L2.ei⟩
theorem _root_.cn{k n:Nat}{u:nJ}(hc:X.calm=true)(h:FN (L2.cZ X N' scope cl fp s3 H3 C) es u)(hn:(assignEach es (L2.cZ X N' scope cl fp s3 H3 C).env).length=n:=by rfl)(hst:(assignEach es (L2.cZ X N' scope cl fp s3 H3 C).env).findIdx? (·.1)=none:=by rfl):
  JG (L2.cZ X N' scope cl fp s3 H3 C) (.Tuple es k pos) (L2.yF X.K n u):=⟨L2.xY (X:=L2.cZ X N' scope cl fp s3 H3 C) hc h.out hn hst⟩
theorem jr(hu:X.A.units+1 < cLine):JC X .In (fun x y H Q=>L2.FK X.K x y H Q):=⟨L2.jr hu⟩
theorem _root_.bB(hu:X.A.units+1 < cLine)(ho:JE X o td)(hi:JE X i ty)(hs:dU i):JE X (.Subscript o i pos) (L2.BB td ty):=⟨L2.zN hu ho.out hi.out (fun ov iv=>hs.out ov iv)⟩
theorem oX(hu:X.A.units+1 < cLine)(hi:JE X i ty)(ho:JE X o td)(hm:behindInMarks .NotIn o=false:=by rfl):JT X (.Compare i [.NotIn] [o] pos) (L2.tB (L2.iX ty td)):=⟨L2.BU (L2.oT hu hi.out ho.out) hm⟩
theorem _root_.cz(hu:X.A.units+1 < cLine)(ho:JE X o td)(hi:JE X i ty)(hv:JE X value tv)(h:L2.ji value=false:=by rfl):JS X (.Assign [.Subscript o i pos'] value pos) (L2.u6 td ty tv):=⟨L2.AG hu ho.out hi.out hv.out (L2.jZ h)⟩
theorem FR:JE X (.Dict [] [] pos) L2.zg:=⟨L2.zw⟩
end
end J
namespace L2
open PySem PySem.Spec PyProof.Rows
section
variable {X:Cx}
inductive Ik(x y:V)(H:Hp)(Q:VK):Prop
 |mk(a b:Addr)(xs ys:List V)(hx:x=.ref a)(hy:y=.ref b)(s:H a=some (.tup xs))(t:H b=some (.tup ys))(f:xs.all de=true)(g:ys.all de=true)(q:Q (.bl (tq xs ys)) H)
inductive Io(x y:V)(H:Hp)(Q:VK):Prop
 |mk(z:Str)(n:Int)(hx:x=.str z)(hy:y=.int n)(n01:n=0∨n=1)(q:Q (.str (Txt.mul z n)) H)
end
end L2
namespace J
open PySem PySem.Spec PyProof.Rows
open L2 (Cx V Hp St VK TE TT TA TS TG nJ TI TO)
section
variable {X:Cx}{o e f c:Expr}{body:List Stmt}{apos cpos pos:Pos}{td ty tx:TE}{tc:TT}{tb:TS}
end
end J
namespace L2
open PySem PySem.Spec PyProof.Rows
section
variable {X:Cx}
theorem oF:∀{us:List Value}{zs:List Str},StrsAre us zs→Vals (zs.map V.str) us
 |_,_,.nil=>.nil
 |_,_,.cons _ _ r=>.cons ⟨_,rfl⟩ (oF r)
inductive Jp(K:PySem.W.Frag)(xs:List V)(H:Hp)(Q:VK):Prop
 |mk(p:Addr)(zs:List Str)(e:xs=[.ref p])(s:cL K H p (zs.map V.str))(l:zs.length < 64)(q:∀l zs',H l=none→zs'.Perm zs→sortedS zs'=true→Q (.ref l) (upd H l (.lst (zs'.map V.str))))
theorem wo{a b:List Nat}(h1:ltCps a b=false)(h2:ltCps b a=false):a=b:=by
 rw[ltCps_eq,decide_eq_false_iff_not]at h1 h2
 exact List.le_antisymm (not_lt.mp h2) (not_lt.mp h1)
theorem le_trans'{a b c:List Nat}(h1:ltCps b a=false)(h2:ltCps c b=false):ltCps c a=false:=by
 rw[ltCps_eq,decide_eq_false_iff_not]at *
 exact not_lt.mpr (List.le_trans (not_lt.mp h1) (not_lt.mp h2))
theorem mP:∀{l:List Str}{p:Str},risingS p l=true→∀y∈l,ltCps y.cps.toList p.cps.toList=false
 |x::r,p,h,y,hy=>by
  have h':(!ltCps x.cps.toList p.cps.toList && risingS x r)=true:=h
  rw[and_eq_true,not_eq_true']at h'
  rcases mem_cons.mp hy with rfl|hy
  ·exact h'.1
  ·exact le_trans' h'.1 (mP h'.2 y hy)
theorem sX{x:Str}{r:List Str}(h:sortedS (x::r)=true):sortedS r=true:=by
 cases r with
 |nil=>rfl
 |cons y t=>
  have h':(!ltCps y.cps.toList x.cps.toList && risingS y t)=true:=h
  rw[and_eq_true]at h'
  exact h'.2
inductive DH(K:PySem.W.Frag)(x y:V)(H:Hp)(Q:VK):Prop
 |same (a b:Addr)(xs ys:List V)(bs:List Bool)(hx:x=.ref a)(hy:y=.ref b)(s:cL K H a xs)(t:cL K H b ys)(l1:xs.length=bs.length)(l2:ys.length=bs.length)(e:∀(i:Nat) u v c,xs[i]? =some u→ys[i]? =some v→bs[i]? =some c→je u v=some c)(q:Q (.bl (!(Ga bs))) H)
 |other (a b:Addr)(xs ys:List V)(hx:x=.ref a)(hy:y=.ref b)(s:cL K H a xs)(t:cL K H b ys)(n:xs.length≠ys.length)(q:Q (.bl true) H)
theorem lI(hu:X.A.units+1 < cLine):gX X (compareOp .NotEq) (fun x y H Q=>DH X.K x y H Q):=by
 intro pins s σ H x y v u Q I rx ry h
 rcases h with ⟨a,b,xs,ys,bs,rfl,rfl,ha,hb,l1,l2,he,q⟩|⟨a,b,xs,ys,rfl,rfl,ha,hb,n,q⟩
 ·cases rx
  cases ry
  obtain⟨its,r,pl,_⟩:=I.list ha
  obtain⟨its2,r2,pl2,_⟩:=I.list hb
  have m1:=r.length
  have m2:=r2.length
  have key:SeqAt.RcNeAt X.A s (.ref a) (.ref b) (!((List.range its.toArray.size).all fun i=>bs.getD i false)):=by
   refine SeqAt.RcNeAt.lists pl.isList pl2.isList (by simp only[size_toArray];omega) (by omega) fun j h1 h2=>?_
   simp only[size_toArray]at h1 h2
   obtain⟨x1,e1,r1⟩:=gw r h1
   obtain⟨x2,e2,r2'⟩:=gw r2 h2
   have hj:j < bs.length:=by omega
   have e3:bs[j]? =some bs[j]:=getElem?_eq_getElem hj
   have e4:bs.getD j false=bs[j]:=by rw[getD_eq_getElem?_getD,e3];rfl
   show SeqAt.EqAt X.A.in1 s its.toArray[j] its2.toArray[j] (bs.getD j false)
   rw[e4]
   simp only[List.getElem_toArray]
   exact oE r1 r2' (he j x1 x2 _ e1 e2 e3)
  have hz:its.toArray.size=bs.length:=by simp only[size_toArray];omega
  rw[hz]at key
  exact key X.prog X.w X.xe _ ⟨.bl _,H,I,rfl,q⟩
 ·cases rx
  cases ry
  obtain⟨its,r,pl,_⟩:=I.list ha
  obtain⟨its2,r2,pl2,_⟩:=I.list hb
  have m1:=r.length
  have m2:=r2.length
  have key:SeqAt.RcNeAt X.A s (.ref a) (.ref b) true:=SeqAt.RcNeAt.lists_lengths pl.isList pl2.isList (by rw[bne_iff_ne];simp only[size_toArray];omega) (by omega)
  exact key X.prog X.w X.xe _ ⟨.bl _,H,I,rfl,q⟩
end
section
variable {prog:Program}{w:World}{A:Around}{E:Value→Shared→Prop}{s:Shared}
end
section
variable {prog:Program}{w:World}{A:Around}{R:Result→Shared→Prop}{I:Addr}{fp wr:List Addr}{G:Array GenState→Array GenState→Prop}{n:Nat}{P:Nat→Value→Prop}{St:Nat→Shared→Prop}
end
section
variable {prog:Program}{w:World}{A:Around}{E:Value→Shared→Prop}{s:Shared}
end
section
variable {X:Cx}
inductive JK(K:PySem.W.Frag)(vs:List V)(H:Hp)(Q:VK):Prop
 |mk(p:Addr)(xs:List V)(kvs:List (Key×V))(e:vs=[.ref p])(s:cL K H p xs)(l:xs.length=kvs.length)(t:∀(i:Nat) x kv,xs[i]? =some x→kvs[i]? =some kv→∃a,x=.ref a∧H a=some (.tup [kV kv.1,kv.2]))(q:∀d,H d=none→Q (.ref d) (upd H d (.dK (yU [] kvs))))
end
section
variable {prog:Program}{w:World}{A:Around}{E:Value→Shared→Prop}{s:Shared}
end
section
variable {X:Cx}
inductive Eh(K:PySem.W.Frag)(vs:List V)(H:Hp)(Q:VK):Prop
 |mk(p:Addr)(xs:List V)(e:vs=[.ref p])(s:cL K H p xs)(q:∀l,H l=none→Q (.ref l) (upd H l (.lst xs.reverse)))
def Ir(K:PySem.W.Frag)(ta:TA):TE:=fun σ H Q=>ta σ H fun vs H1=>Eh K vs H1 Q
theorem iH:bootBuiltins "sorted" =some (.builtin "sorted"):=by decide+kernel
end
end L2
namespace J
open PySem PySem.Spec PyProof.Rows
open L2 (Cx V cL c8)
theorem lI{X:Cx}(hu:X.A.units+1 < cLine):JC X .NotEq (fun x y H Q=>L2.DH X.K x y H Q):=⟨L2.lI hu⟩
end J
namespace L2
open PySem PySem.Spec PyProof.Rows
section
variable {X:Cx}
inductive B4(K:PySem.W.Frag)(x y:V)(H:Hp)(Q:VK):Prop
 |same (a b:Addr)(xs ys:List V)(bs:List Bool)(hx:x=.ref a)(hy:y=.ref b)(s:cL K H a xs)(t:cL K H b ys)(l1:xs.length=bs.length)(l2:ys.length=bs.length)(e:∀(i:Nat) u v c,xs[i]? =some u→ys[i]? =some v→bs[i]? =some c→je u v=some c)(q:Q (.bl (Ga bs)) H)
 |other (a b:Addr)(xs ys:List V)(hx:x=.ref a)(hy:y=.ref b)(s:cL K H a xs)(t:cL K H b ys)(n:xs.length≠ys.length)(q:Q (.bl false) H)
theorem jL(hu:X.A.units+1 < cLine):gX X (compareOp .Eq) (fun x y H Q=>B4 X.K x y H Q):=by
 intro pins s σ H x y v u Q I rx ry h
 rcases h with ⟨a,b,xs,ys,bs,hx,hy,s1,t1,l1,l2,e,q⟩|⟨a,b,xs,ys,hx,hy,s1,t1,n,q⟩
 ·exact Du hu pins s σ H x y v u Q I rx ry ⟨a,b,xs,ys,bs,hx,hy,s1,t1,l1,l2,e,q⟩
 ·exact wG hu pins s σ H x y v u Q I rx ry ⟨a,b,xs,ys,hx,hy,s1,t1,n,q⟩
inductive yL(K:PySem.W.Frag)(x y:V)(H:Hp)(Q:VK):Prop
 |mk(a b:Addr)(xs ys:List V)(hx:x=.ref a)(hy:y=.ref b)(s:H a=some (.tup xs))(t:cL K H b ys)(f:xs.all de=true)(g:∀v∈ys,∃c zs,v=.ref c∧H c=some (.tup zs)∧zs.all de=true)(q:Q (.bl (!(ys.any (DA H xs)))) H)
theorem eJ(hu:X.A.units+1 < cLine):gX X (compareOp .NotIn) (fun x y H Q=>yL X.K x y H Q):=by
 intro pins s σ H x y v u Q I rx ry h
 obtain⟨a,b,xs,ys,rfl,rfl,ha,hb,fx,g,q⟩:=h
 cases rx
 cases ry
 obtain⟨its,r,pl,_⟩:=I.list hb
 refine SeqAt.notIn_listAt (Bg H xs) pl.isList (fun w hw=>?_) ⟨.bl _,H,I,rfl,?_⟩
 ·obtain⟨z,hz,rz⟩:=mB r (by simpa using hw)
  obtain⟨c,zs,rfl,hc,fz⟩:=g z hz
  cases rz
  have e:Bg H xs (.ref c)=tq zs xs:=by
   show(match H c with|some (.tup zs)=>tq zs xs|_=>false)=_
   rw[hc]
  rw[e]
  exact ou I hu hc ha fz fx
 ·rw[show its.toArray.any (Bg H xs)=its.any (Bg H xs) by simp,ql r g]
  exact q
inductive Dy(K:PySem.W.Frag)(x:V)(st:Option Int)(H:Hp)(Q:VK):Prop
 |mk(a:Addr)(xs:List V)(hx:x=.ref a)(hst:st=some (-1))(s:cL K H a xs)(q:∀p ys,H p=none→ys.length≤xs.length→(∀v∈ys,v∈xs)→Q (.ref p) (upd H p (.lst ys)))
def HE(K:PySem.W.Frag)(te:TE)(ts:TO):TE:=fun σ H Q=>te σ H fun x H1=>ts σ H1 fun st H2=>Dy K x st H2 Q
theorem Cu{e d:Expr}{ty td:TE}{pos:Pos}(hu:X.A.units+1 < cLine)(hi:PE X e ty)(ho:PE X d td)(hm:behindInMarks .In d=false:=by rfl):PE X (.Compare e [.In] [d] pos) (CC ty td):=zq (Dw hu hi ho) hm
end
section
variable {prog:Program}{w:World}{A:Around}{R:Result→Shared→Prop}{I:Addr}{fp wr:List Addr}{G:Array GenState→Array GenState→Prop}{n:Nat}{P:Nat→Value→Prop}{St:Nat→Shared→Prop}
def F9(xs ps:List (List Key×Addr×Value)):List (List Key×Addr×Value):=ps.foldl (fun acc q=>storedH acc q.1 q.2.1 q.2.2) xs
end
section
variable {prog:Program}{w:World}{A:Around}{E:Value→Shared→Prop}{s:Shared}
end
def Cv(kvs more:List (List Key×V)):List (List Key×V):=more.foldl (fun acc kv=>putK acc kv.1 kv.2) kvs
section
variable {X:Cx}
inductive Ig(K:PySem.W.Frag)(vs:List V)(H:Hp)(Q:VK):Prop
 |mk(p:Addr)(xs:List V)(kvs:List (List Key×V))(e:vs=[.ref p])(s:cL K H p xs)(l:xs.length=kvs.length)(t:∀(i:Nat) x kv,xs[i]? =some x→kvs[i]? =some kv→∃a b,x=.ref a∧H a=some (.tup [.ref b,kv.2])∧H b=some (.tup (kv.1.map kV)))(q:∀d,H d=none→Q (.ref d) (upd H d (.dT (Cv [] kvs))))
theorem zi{A:Around}{k:Nat}(hr:dr k A):A.units+2 < cLine:=by
 have:=hr.un
 omega
end
end L2
namespace J
open PySem PySem.Spec PyProof.Rows
open L2 (Cx V Hp St VK TE TT TA TS TG nJ TI TO cL c8)
section
variable {X:Cx}{e d st:Expr}{ty td te:TE}{ts:TO}{pos p2:Pos}
theorem jL(hu:X.A.units+1 < cLine):JC X .Eq (fun x y H Q=>L2.B4 X.K x y H Q):=⟨L2.jL hu⟩
theorem eJ(hu:X.A.units+1 < cLine):JC X .NotIn (fun x y H Q=>L2.yL X.K x y H Q):=⟨L2.eJ hu⟩
theorem _root_.cC(hu:X.A.units+1 < cLine)(hi:JE X e ty)(ho:JE X d td)(hm:behindInMarks .In d=false:=by rfl):JE X (.Compare e [.In] [d] pos) (L2.CC ty td):=⟨L2.Cu hu hi.out ho.out hm⟩
end
end J
namespace TS
open PySem PyProof.Rows
def lK:Bool→Keyed→Array Keyed→Nat→Nat→Nat→StateT SortSt Sem (Option Nat):=sortPriv% PySem.Builtin.gallop
def key(κ:KeyKind)(p:Keyed):κ.α:=(κ.keyOf p.1).getD κ.dflt
def gC(κ:KeyKind)(p:Keyed):Prop:=∃a,κ.keyOf p.1=some a
def jt(prog:Program)(w:World)(A:Around)(E:Value→Shared→Prop)(s:Shared)(κ:KeyKind)(kd:SortKind):Prop:=
 ∀(x y:Keyed) (st:SortSt) (Q:Option Bool→SortSt→Prop),kindOf st=kd→gC κ x→gC κ y→Q (some (κ.blt (key κ x) (key κ y))) st→wpS (model prog w) A E s (lt' x y) Q st
section
variable {prog:Program}{w:World}{A:Around}{E:Value→Shared→Prop}{s:Shared}{κ:KeyKind}{kd:SortKind}
theorem cR{arr:Array Keyed}{i:Nat}{x:Keyed}{st:SortSt}{Q:Keyed→SortSt→Prop}(h:arr[i]? =some x)(q:Q x st):wpS (model prog w) A E s (elem' arr i) Q st:=by
 rw[elem'_eq,h]
 exact wpS_pure q
def Dz(κ:KeyKind)(left:Bool)(k x:Keyed):Bool:=if left then κ.blt (key κ x) (key κ k) else !(κ.blt (key κ k) (key κ x))
theorem A4(hL:jt prog w A E s κ kd){left:Bool}{k x:Keyed}{arr:Array Keyed}{i:Nat}{st:SortSt}{Q:Option Bool→SortSt→Prop}(hk:kindOf st=kd)(kk:gC κ k)(hx:arr[i]? =some x)(kx:gC κ x)(q:Q (some (Dz κ left k x)) st):
  wpS (model prog w) A E s (elem' arr i >>= fun x=>if left=true then lt' x k else lt' k x >>= fun r=>pure (Option.map (fun y=> !y) r)) Q st:=by
 refine wpS_bind (cR hx ?_)
 cases left with
 |true=>
  rw[if_pos rfl]
  exact hL x k st Q hk kx kk q
 |false=>
  rw[if_neg Bool.false_ne_true]
  exact wpS_bind (hL k x st _ hk kk kx (wpS_pure q))
theorem tL(hL:jt prog w A E s κ kd){left:Bool}{k:Keyed}{arr:Array Keyed}{base n hint:Nat}{st:SortSt}{Q:Option Nat→SortSt→Prop}(hk:kindOf st=kd)(kk:gC κ k)(f:Nat→Bool)(hf:∀i,i < n→∃x,arr[base+i]? =some x∧gC κ x∧Dz κ left k x=f i)(mono:∀i j,i≤j→j < n→f j=true→f i=true)(hh:hint < n)
  (q:∀m,m≤n→(∀i,i < m→f i=true)→(∀i,m≤i→i < n→f i=false)→Q (some m) st):wpS (model prog w) A E s (lK left k arr base n hint) Q st:=by
 have beyond:∀{i:Nat}{R:Option Bool→SortSt→Prop},i < n→R (some (f i)) st→wpS (model prog w) A E s (elem' arr (base+i) >>= fun x=>if left=true then lt' x k else lt' k x >>= fun r=>pure (Option.map (fun y=> !y) r)) R st:=fun {i R} hi hR=>by
  obtain⟨x,hx,kx,e⟩:=hf i hi
  exact A4 hL hk kk hx kx (e ▸ hR)
 have up:∀i j,i≤j→j < n→f i=false→f j=false:=fun i j h1 h2 h3=>by
  cases h:f j with
  |false=>rfl
  |true=>rw[mono i j h1 h2 h]at h3;cases h3
 refine wpS_bind (beyond hh ?_)
 dsimp only
 by_cases hr:f hint=true
 ·rw[if_pos hr]
  refine wpS_bind (wpS_mono (wpS_forRange (I:=fun x c st'=>st'=st∧∃la o,c=(none,la,o)∧la < o∧x+1≤o∧hint+la < n∧f (hint+la)=true)
   (Q:=fun c st'=>st'=st∧∃la o,c=(none,la,o)∧la < o∧hint+la < n∧f (hint+la)=true∧(n - hint≤o∨(hint+o < n∧f (hint+o)=false))) ?step ?fin ⟨rfl,0,1,rfl,by omega,by omega,by omega,hr⟩) ?post)
  case step=>
   rintro x c st' _ hx ⟨rfl,la,o,rfl,h1,h2,h3,h4⟩
   dsimp only
   by_cases c1:o ≥ n - hint
   ·rw[if_pos c1]
    exact wpS_pure ⟨rfl,la,o,rfl,h1,h3,h4,.inl c1⟩
   ·rw[if_neg c1]
    refine wpS_bind (beyond (by omega) ?_)
    dsimp only
    cases hm:f (hint+o) with
    |false=>exact wpS_pure ⟨rfl,la,o,rfl,h1,h3,h4,.inr ⟨by omega,hm⟩⟩
    |true=>exact wpS_pure ⟨rfl,o,2 * o+1,rfl,by omega,by omega,by omega,hm⟩
  case fin=>
   rintro c st' ⟨rfl,la,o,rfl,h1,h2,h3,h4⟩
   exact⟨rfl,la,o,rfl,h1,h3,h4,.inl (by omega)⟩
  case post=>
   rintro c st' ⟨e0,la,o,rfl,h1,h3,h4,h5⟩
   rw[e0];clear e0 st'
   dsimp only
   have d:∀i,hint+min o (n - hint)≤i→i < n→f i=false:=fun i i1 i2=>by
    rcases h5 with h5|⟨h5,h6⟩
    ·omega
    ·exact up _ i (by omega) i2 h6
   refine wpS_bind (wpS_mono (wpS_forRange (I:=fun x c st''=>st''=st∧∃lo hi,c=(none,lo,hi)∧lo≤hi∧hi≤n∧hi - lo≤n - x∧(∀i,i < lo→f i=true)∧(∀i,hi≤i→i < n→f i=false))
    (Q:=fun c st''=>st''=st∧∃hi,c=(none,hi,hi)∧hi≤n∧(∀i,i < hi→f i=true)∧(∀i,hi≤i→i < n→f i=false)) ?sstep ?sfin ⟨rfl,_,_,rfl,(by omega),(by omega),by omega,(fun i hi=>mono i _ (by omega) h3 h4),d⟩) ?spost)
   case sstep=>
    rintro x c st'' _ hx ⟨rfl,lo,hi,rfl,g1,g2,g3,g4,g5⟩
    dsimp only
    by_cases c1:lo ≥ hi
    ·rw[if_pos c1]
     have e:lo=hi:=by omega
     subst e
     exact wpS_pure ⟨rfl,lo,rfl,g2,g4,g5⟩
    ·rw[if_neg c1]
     refine wpS_bind (beyond (by omega) ?_)
     dsimp only
     cases hm:f (lo+(hi - lo) / 2) with
     |true=>exact wpS_pure ⟨rfl,_,_,rfl,by omega,by omega,by omega,fun i hi'=>mono i _ (by omega) (by omega) hm,g5⟩
     |false=>exact wpS_pure ⟨rfl,_,_,rfl,by omega,by omega,by omega,g4,fun i h1 h2=>up _ i h1 h2 hm⟩
   case sfin=>
    rintro c st'' ⟨rfl,lo,hi,rfl,g1,g2,g3,g4,g5⟩
    have e:lo=hi:=by omega
    subst e
    exact⟨rfl,lo,rfl,g2,g4,g5⟩
   case spost=>
    rintro c st'' ⟨rfl,hi,rfl,g2,g4,g5⟩
    exact wpS_pure (q hi g2 g4 g5)
 ·rw[if_neg hr]
  have hr':f hint=false:=eq_false_of_ne_true hr
  refine wpS_bind (wpS_mono (wpS_forRange (I:=fun x c st'=>st'=st∧∃la o,c=(none,la,o)∧la < o∧x+1≤o∧la≤hint∧f (hint - la)=false)
   (Q:=fun c st'=>st'=st∧∃la o,c=(none,la,o)∧la < o∧la≤hint∧f (hint - la)=false∧(hint+1≤o∨(o≤hint∧f (hint - o)=true))) ?step ?fin ⟨rfl,0,1,rfl,by omega,by omega,by omega,hr'⟩) ?post)
  case step=>
   rintro x c st' _ hx ⟨rfl,la,o,rfl,h1,h2,h3,h4⟩
   dsimp only
   by_cases c1:o ≥ hint+1
   ·rw[if_pos c1]
    exact wpS_pure ⟨rfl,la,o,rfl,h1,h3,h4,.inl c1⟩
   ·rw[if_neg c1]
    refine wpS_bind (beyond (by omega) ?_)
    dsimp only
    cases hm:f (hint - o) with
    |true=>exact wpS_pure ⟨rfl,la,o,rfl,h1,h3,h4,.inr ⟨by omega,hm⟩⟩
    |false=>exact wpS_pure ⟨rfl,o,2 * o+1,rfl,by omega,by omega,by omega,hm⟩
  case fin=>
   rintro c st' ⟨rfl,la,o,rfl,h1,h2,h3,h4⟩
   exact⟨rfl,la,o,rfl,h1,h3,h4,.inl (by omega)⟩
  case post=>
   rintro c st' ⟨e0,la,o,rfl,h1,h3,h4,h5⟩
   rw[e0];clear e0 st'
   dsimp only
   have d:∀i,i < hint+1 - min o (hint+1)→f i=true:=fun i i1=>by
    rcases h5 with h5|⟨h5,h6⟩
    ·omega
    ·exact mono i _ (by omega) (by omega) h6
   refine wpS_bind (wpS_mono (wpS_forRange (I:=fun x c st''=>st''=st∧∃lo hi,c=(none,lo,hi)∧lo≤hi∧hi≤n∧hi - lo≤n - x∧(∀i,i < lo→f i=true)∧(∀i,hi≤i→i < n→f i=false))
    (Q:=fun c st''=>st''=st∧∃hi,c=(none,hi,hi)∧hi≤n∧(∀i,i < hi→f i=true)∧(∀i,hi≤i→i < n→f i=false)) ?sstep ?sfin ⟨rfl,_,_,rfl,(by omega),(by omega),by omega,d,(fun i i1 i2=>up _ i i1 i2 h4)⟩) ?spost)
   case sstep=>
    rintro x c st'' _ hx ⟨rfl,lo,hi,rfl,g1,g2,g3,g4,g5⟩
    dsimp only
    by_cases c1:lo ≥ hi
    ·rw[if_pos c1]
     have e:lo=hi:=by omega
     subst e
     exact wpS_pure ⟨rfl,lo,rfl,g2,g4,g5⟩
    ·rw[if_neg c1]
     refine wpS_bind (beyond (by omega) ?_)
     dsimp only
     cases hm:f (lo+(hi - lo) / 2) with
     |true=>exact wpS_pure ⟨rfl,_,_,rfl,by omega,by omega,by omega,fun i hi'=>mono i _ (by omega) (by omega) hm,g5⟩
     |false=>exact wpS_pure ⟨rfl,_,_,rfl,by omega,by omega,by omega,g4,fun i h1 h2=>up _ i h1 h2 hm⟩
   case sfin=>
    rintro c st'' ⟨rfl,lo,hi,rfl,g1,g2,g3,g4,g5⟩
    have e:lo=hi:=by omega
    subst e
    exact⟨rfl,lo,rfl,g2,g4,g5⟩
   case spost=>
    rintro c st'' ⟨rfl,hi,rfl,g2,g4,g5⟩
    exact wpS_pure (q hi g2 g4 g5)
end
end TS
namespace TS
open PySem PyProof.Rows
variable {κ:KeyKind}
def dj(κ:KeyKind)(l:List Keyed):Prop:=l.Pairwise fun x y=>κ.kle (key κ x) (key κ y)
def Fl(κ:KeyKind)(v:κ.α)(p:Keyed):Bool:= !κ.blt (key κ p) v && !κ.blt v (key κ p)
def fk(κ:KeyKind)(v:κ.α)(l:List Keyed):List Keyed:=l.filter (Fl κ v)
def Below(κ:KeyKind)(l m:List Keyed):Prop:=∀x∈l,∀y∈m,κ.kle (key κ x) (key κ y)
def Under(κ:KeyKind)(l m:List Keyed):Prop:=∀x∈l,∀y∈m,κ.klt (key κ x) (key κ y)
def cQ(κ:KeyKind)(l m:List Keyed):Prop:=∀v,fk κ v l=fk κ v m
theorem Under.below{l m:List Keyed}(h:Under κ l m):Below κ l m:=fun x hx y hy=>KeyOrd.kle_of_klt (h x hx y hy)
theorem iM(v:κ.α)(l m:List Keyed):fk κ v (l++m)=fk κ v l++fk κ v m:=filter_append ..
theorem sW(p:Keyed):Fl κ (key κ p) p=true:=by
 unfold Fl
 rw[κ.irrefl]
 rfl
theorem yK{v:κ.α}{p:Keyed}(h:Fl κ v p=true):key κ p=v:=by
 unfold Fl at h
 rw[and_eq_true,not_eq_true',not_eq_true']at h
 exact κ.total _ _ h.1 h.2
theorem cQ.refl(l:List Keyed):cQ κ l l:=fun _=>rfl
theorem cQ.trans{l m n:List Keyed}(h:cQ κ l m)(h':cQ κ m n):cQ κ l n:=fun v=>(h v).trans (h' v)
theorem cQ.append{l m l' m':List Keyed}(h:cQ κ l l')(h':cQ κ m m'):cQ κ (l++m) (l'++m'):=fun v=>by
 rw[iM,iM,h v,h' v]
theorem cQ.perm{l m:List Keyed}(h:cQ κ l m):l.Perm m:=by
 classical
 refine List.perm_iff_count.mpr fun x=>?_
 have e:=congrArg (List.count x) (h (key κ x))
 unfold fk at e
 rwa [List.count_filter (sW x),List.count_filter (sW x)]at e
theorem cQ.mem{l m:List Keyed}(h:cQ κ l m){x:Keyed}:x∈l↔x∈m:=h.perm.mem_iff
theorem cQ.swap{l m:List Keyed}(h:Under κ l m):cQ κ (l++m) (m++l):=fun v=>by
 rw[iM,iM]
 by_cases e:fk κ v l=[]
 ·rw[e,append_nil,nil_append]
 ·obtain⟨x,hx⟩:=List.exists_mem_of_ne_nil _ e
  obtain⟨x1,x2⟩:=mem_filter.mp hx
  have e2:fk κ v m=[]:=List.eq_nil_iff_forall_not_mem.mpr fun y hy=>by
   obtain⟨y1,y2⟩:=mem_filter.mp hy
   have:=h x x1 y y1
   rw[yK x2,yK y2]at this
   unfold KeyOrd.klt at this
   rw[κ.irrefl]at this
   cases this
  rw[e2,append_nil,nil_append]
theorem dj.append{l m:List Keyed}(h:dj κ l)(h':dj κ m)(b:Below κ l m):dj κ (l++m):=List.pairwise_append.mpr ⟨h,h',b⟩
theorem dj.left{l m:List Keyed}(h:dj κ (l++m)):dj κ l:=(List.pairwise_append.mp h).1
theorem dj.right{l m:List Keyed}(h:dj κ (l++m)):dj κ m:=(List.pairwise_append.mp h).2.1
theorem dj.mid{l m:List Keyed}(h:dj κ (l++m)):Below κ l m:=(List.pairwise_append.mp h).2.2
theorem dj.drop{l:List Keyed}(h:dj κ l)(i:Nat):dj κ (l.drop i):=List.Pairwise.sublist (List.drop_sublist i l) h
theorem Below.append{l m n:List Keyed}(h:Below κ l n)(h':Below κ m n):Below κ (l++m) n:=fun x hx=>(mem_append.mp hx).elim (h x) (h' x)
theorem Below.left{l m n:List Keyed}(h:Below κ l (m++n)):Below κ l m:=fun x hx y hy=>h x hx y (mem_append_left _ hy)
theorem Below.right{l m n:List Keyed}(h:Below κ l (m++n)):Below κ l n:=fun x hx y hy=>h x hx y (mem_append_right _ hy)
theorem Below.nil{l:List Keyed}:Below κ l []:=fun _ _ _ h=>by cases h
theorem nL(l:List Keyed)(i k:Nat):l.drop i=(l.drop i).take k++l.drop (i+k):=by
 rw[←List.drop_drop,take_append_drop]
structure i6(κ:KeyKind)(al bl out:List Keyed)(ia ib:Nat):Prop where
 so:dj κ out
 oa:Below κ out (al.drop ia)
 ob:Below κ out (bl.drop ib)
 st:cQ κ (out++(al.drop ia++bl.drop ib)) (al++bl)
theorem i6.uE{al bl out:List Keyed}{ia ib k:Nat}(sa:dj κ al)(h:i6 κ al bl out ia ib)(b:Below κ ((al.drop ia).take k) (bl.drop ib)):i6 κ al bl (out++(al.drop ia).take k) (ia+k) ib:=by
 have e:=nL al ia k
 have s:=sa.drop ia
 have oa:=h.oa
 have st:=h.st
 rw[e]at s oa st
 refine⟨h.so.append s.left oa.left,oa.right.append s.mid,h.ob.append b,?_⟩
 rw[append_assoc,←append_assoc _ (al.drop (ia+k))]
 exact st
theorem i6.uK{al bl out:List Keyed}{ia ib k:Nat}(sb:dj κ bl)(h:i6 κ al bl out ia ib)(b:Under κ ((bl.drop ib).take k) (al.drop ia)):i6 κ al bl (out++(bl.drop ib).take k) ia (ib+k):=by
 have e:=nL bl ib k
 have s:=sb.drop ib
 have ob:=h.ob
 have st:=h.st
 rw[e]at s ob st
 refine⟨h.so.append s.left ob.left,h.oa.append b.below,ob.right.append s.mid,?_⟩
 refine cQ.trans ?_ st
 rw[append_assoc]
 refine(cQ.refl _).append ?_
 rw[←append_assoc,←append_assoc]
 exact(cQ.swap b).append (cQ.refl _)
theorem i6.done{al bl out:List Keyed}{ia ib:Nat}(sa:dj κ al)(sb:dj κ bl)(h:i6 κ al bl out ia ib)(e:al.drop ia=[]∨bl.drop ib=[]):dj κ (out++al.drop ia++bl.drop ib)∧cQ κ (out++al.drop ia++bl.drop ib) (al++bl):=by
 refine⟨?_,by rw[append_assoc];exact h.st⟩
 rcases e with e|e
 ·rw[e,append_nil]
  exact h.so.append (sb.drop ib) h.ob
 ·rw[e,append_nil]
  exact h.so.append (sa.drop ia) h.oa
theorem i6.last{al bl out:List Keyed}{ia ib:Nat}(sa:dj κ al)(sb:dj κ bl)(h:i6 κ al bl out ia ib)(u:Under κ (bl.drop ib) (al.drop ia)):dj κ (out++bl.drop ib++al.drop ia)∧cQ κ (out++bl.drop ib++al.drop ia) (al++bl):=by
 refine⟨(h.so.append (sb.drop ib) h.ob).append (sa.drop ia) (h.oa.append u.below),cQ.trans ?_ h.st⟩
 rw[append_assoc]
 exact(cQ.refl _).append (cQ.swap u)
def yG:Array Keyed→Array Keyed→StateT SortSt Sem (Array Keyed):=sortPriv% PySem.Builtin.mergeLo
section
variable {prog:Program}{w:World}{A:Around}{E:Value→Shared→Prop}{s:Shared}{kd:SortKind}
structure Kept(st st':SortSt):Prop where
 kind:kindOf st'=kindOf st
 arr:arrOf st'=arrOf st
 pend:pendingOf st'=pendingOf st
 failed:failedOf st'=failedOf st
theorem Kept.refl(st:SortSt):Kept st st:=⟨rfl,rfl,rfl,rfl⟩
theorem Kept.trans{a b c:SortSt}(h:Kept a b)(h':Kept b c):Kept a c:=⟨h'.kind.trans h.kind,h'.arr.trans h.arr,h'.pend.trans h.pend,h'.failed.trans h.failed⟩
def oq:Nat→StateT SortSt Sem Unit:=sortPriv% PySem.Builtin.setMinGallop
theorem j3{g:Nat}{st:SortSt}{Q:Unit→SortSt→Prop}(q:∀st',Kept st st'→Q () st'):wpS (model prog w) A E s (oq g) Q st:=by
 exact wpS_modify (q _ ⟨rfl,rfl,rfl,rfl⟩)
theorem vG{l:List Keyed}{b m:Nat}{x:Keyed}:x∈(l.drop b).take m↔∃i,i < m∧l[b+i]? =some x:=by
 constructor
 ·intro h
  obtain⟨i,hi⟩:=getElem?_of_mem h
  have hl:=(List.getElem?_eq_some_iff.mp hi).1
  rw[length_take]at hl
  rw[getElem?_take_of_lt (by omega),getElem?_drop]at hi
  exact⟨i,by omega,hi⟩
 ·rintro⟨i,h1,h2⟩
  refine mem_of_getElem? (i:=i) ?_
  rw[getElem?_take_of_lt h1,getElem?_drop]
  exact h2
theorem dj.at{l:List Keyed}{b n i j:Nat}{x y:Keyed}(h:dj κ ((l.drop b).take n))(ij:i≤j)(jn:j < n)(hx:l[b+i]? =some x)(hy:l[b+j]? =some y):κ.kle (key κ x) (key κ y):=by
 by_cases e:i=j
 ·subst e
  rw[hx]at hy
  cases hy
  exact KeyOrd.kle_refl _
 ·have h1:((l.drop b).take n)[i]? =some x:=by rw[getElem?_take_of_lt (by omega),getElem?_drop];exact hx
  have h2:((l.drop b).take n)[j]? =some y:=by rw[getElem?_take_of_lt jn,getElem?_drop];exact hy
  obtain⟨i1,e1⟩:=List.getElem?_eq_some_iff.mp h1
  obtain⟨j1,e2⟩:=List.getElem?_eq_some_iff.mp h2
  have:=List.pairwise_iff_getElem.mp h i j i1 j1 (by omega)
  rwa [e1,e2]at this
theorem uP(hL:jt prog w A E s κ kd){left:Bool}{k:Keyed}{arr:Array Keyed}{base n hint:Nat}{st:SortSt}{Q:Option Nat→SortSt→Prop}(hk:kindOf st=kd)(kk:gC κ k)(ks:∀x∈arr.toList,gC κ x)(sz:base+n≤arr.size)(ss:dj κ ((arr.toList.drop base).take n))(hh:hint < n)
  (q:∀m,m≤n→(∀x∈(arr.toList.drop base).take m,Dz κ left k x=true)→(∀x∈(arr.toList.drop (base+m)).take (n - m),Dz κ left k x=false)→Q (some m) st):wpS (model prog w) A E s (lK left k arr base n hint) Q st:=by
 have ex:∀i,i < n→∃x,arr.toList[base+i]? =some x∧gC κ x:=fun i hi=>by
  have:base+i < arr.toList.length:=by rw[length_toList];omega
  exact⟨_,getElem?_eq_getElem this,ks _ (getElem_mem this)⟩
 refine tL hL hk kk (fun i=>match arr.toList[base+i]? with|some x=>Dz κ left k x|none=>false) (fun i hi=>?_) (fun i j ij jn hj=>?_) hh fun m hm m1 m2=>q m hm (fun x hx=>?_) (fun x hx=>?_)
 ·obtain⟨x,hx,kx⟩:=ex i hi
  exact⟨x,by rw[←hx,getElem?_toList],kx,by rw[hx]⟩
 ·obtain⟨x,hx,kx⟩:=ex i (by omega)
  obtain⟨y,hy,ky⟩:=ex j jn
  have le:=ss.at ij jn hx hy
  rw[hy]at hj
  rw[hx]
  dsimp only at hj ⊢
  cases left with
  |true=>exact KeyOrd.klt_of_kle_of_klt le (show κ.klt _ _ from hj)
  |false=>
   have hj':κ.blt (key κ k) (key κ y)=false:=by
    have:(!κ.blt (key κ k) (key κ y))=true:=hj
    rwa [not_eq_true']at this
   have:κ.kle (key κ x) (key κ k):=KeyOrd.kle_trans le hj'
   show(!κ.blt (key κ k) (key κ x))=true
   rw[not_eq_true']
   exact this
 ·obtain⟨i,hi,hx'⟩:=vG.mp hx
  have:=m1 i hi
  rwa [hx']at this
 ·obtain⟨i,hi,hx'⟩:=vG.mp hx
  rw[Nat.add_assoc]at hx'
  have:=m2 (m+i) (by omega) (by omega)
  rwa [hx']at this
theorem eL(l:List Keyed)(b:Nat){n:Nat}(h:l.length - b≤n):(l.drop b).take n=l.drop b:=take_of_length_le (by rw[length_drop];exact h)
theorem l7(hL:jt prog w A E s κ kd){k:Keyed}{arr:Array Keyed}{base n hint:Nat}{st:SortSt}{Q:Option Nat→SortSt→Prop}(hk:kindOf st=kd)(kk:gC κ k)(ks:∀x∈arr.toList,gC κ x)(sz:base+n≤arr.size)(ss:dj κ ((arr.toList.drop base).take n))(hh:hint < n)
  (q:∀m,m≤n→Below κ ((arr.toList.drop base).take m) [k]→Under κ [k] ((arr.toList.drop (base+m)).take (n - m))→Q (some m) st):wpS (model prog w) A E s (lK false k arr base n hint) Q st:=
 uP hL hk kk ks sz ss hh fun m hm m1 m2=>q m hm (fun x hx y hy=>by
  cases mem_singleton.mp hy
  have:=m1 x hx
  unfold Dz at this
  rw[if_neg Bool.false_ne_true,not_eq_true']at this
  exact this) (fun y hy x hx=>by
  cases mem_singleton.mp hy
  have:=m2 x hx
  unfold Dz at this
  rw[if_neg Bool.false_ne_true,Bool.not_eq_false']at this
  exact this)
theorem mD(hL:jt prog w A E s κ kd){k:Keyed}{arr:Array Keyed}{base n hint:Nat}{st:SortSt}{Q:Option Nat→SortSt→Prop}(hk:kindOf st=kd)(kk:gC κ k)(ks:∀x∈arr.toList,gC κ x)(sz:base+n≤arr.size)(ss:dj κ ((arr.toList.drop base).take n))(hh:hint < n)
  (q:∀m,m≤n→Under κ ((arr.toList.drop base).take m) [k]→Below κ [k] ((arr.toList.drop (base+m)).take (n - m))→Q (some m) st):wpS (model prog w) A E s (lK true k arr base n hint) Q st:=
 uP hL hk kk ks sz ss hh fun m hm m1 m2=>q m hm (fun x hx y hy=>by
  cases mem_singleton.mp hy
  exact m1 x hx) (fun y hy x hx=>by
  cases mem_singleton.mp hy
  exact m2 x hx)
def i5(κ:KeyKind)(a b r:Array Keyed):Prop:=dj κ r.toList∧cQ κ r.toList (a.toList++b.toList)
theorem j6(a:Array Keyed)(i:Nat):(a.extract i a.size).toList=a.toList.drop i:=by
 rw[toList_extract]
 exact eL _ _ (by rw[length_toList];exact le_refl _)
theorem m6(a:Array Keyed)(i k:Nat):(a.extract i (i+k)).toList=(a.toList.drop i).take k:=by
 rw[toList_extract]
 show(a.toList.drop i).take (i+k - i)=_
 rw[Nat.add_sub_cancel_left]
theorem dH{a:Array Keyed}{i:Nat}{x:Keyed}(h:a[i]? =some x):a.toList.drop i=x::a.toList.drop (i+1):=by
 rw[←getElem?_toList]at h
 obtain⟨h1,h2⟩:=List.getElem?_eq_some_iff.mp h
 rw[List.drop_eq_getElem_cons h1,h2]
theorem dj.head{x:Keyed}{l:List Keyed}(h:dj κ (x::l)):Below κ [x] (x::l):=fun a ha b hb=>by
 cases mem_singleton.mp ha
 rcases mem_cons.mp hb with rfl|hb
 ·exact KeyOrd.kle_refl _
 ·exact(pairwise_cons.mp h).1 b hb
theorem Under.over{k:Keyed}{l m:List Keyed}(h:Under κ l [k])(b:Below κ [k] m):Under κ l m:=fun x hx y hy=>KeyOrd.klt_of_klt_of_kle (h x hx k (mem_singleton_self _)) (b k (mem_singleton_self _) y hy)
theorem Below.over{k:Keyed}{l m:List Keyed}(h:Below κ l [k])(b:Below κ [k] m):Below κ l m:=fun x hx y hy=>KeyOrd.kle_trans (h x hx k (mem_singleton_self _)) (b k (mem_singleton_self _) y hy)
section
variable {a b out:Array Keyed}{ia ib:Nat}(sa:dj κ a.toList)(sb:dj κ b.toList)
include sa sb
theorem i6.mZ(h:i6 κ a.toList b.toList out.toList ia ib)(e:a.size≤ia∨b.size≤ib):i5 κ a b (out++a.extract ia a.size++b.extract ib b.size):=by
 unfold i5
 rw[toList_append,toList_append,j6,j6]
 exact h.done sa sb (e.imp (fun e=>List.drop_eq_nil_of_le (by rw[length_toList];exact e)) (fun e=>List.drop_eq_nil_of_le (by rw[length_toList];exact e)))
theorem i6.zP(h:i6 κ a.toList b.toList out.toList ia ib)(u:Under κ (b.toList.drop ib) (a.toList.drop ia)):i5 κ a b (out++b.extract ib b.size++a.extract ia a.size):=by
 unfold i5
 rw[toList_append,toList_append,j6,j6]
 exact h.last sa sb u
omit sa in
theorem i6.oI{x:Keyed}(h:i6 κ a.toList b.toList out.toList ia ib)(hx:b[ib]? =some x)(u:Under κ [x] (a.toList.drop ia)):i6 κ a.toList b.toList (out.push x).toList ia (ib+1):=by
 rw[toList_push]
 have e:(b.toList.drop ib).take 1=[x]:=by rw[dH hx];rfl
 have:=h.uK (k:=1) sb (by rw[e];exact u)
 rwa [e]at this
omit sb in
theorem i6.oy{x:Keyed}(h:i6 κ a.toList b.toList out.toList ia ib)(hx:a[ia]? =some x)(u:Below κ [x] (b.toList.drop ib)):i6 κ a.toList b.toList (out.push x).toList (ia+1) ib:=by
 rw[toList_push]
 have e:(a.toList.drop ia).take 1=[x]:=by rw[dH hx];rfl
 have:=h.uE (k:=1) sa (by rw[e];exact u)
 rwa [e]at this
end
structure LI(κ:KeyKind)(a b:Array Keyed)(st:SortSt)(out:Array Keyed)(ia ib t:Nat)(st':SortSt):Prop where
 kp:Kept st st'
 m:i6 κ a.toList b.toList out.toList ia ib
 la:ia+1 < a.size
 lb:ib < b.size
 t:t≤ia+ib
theorem fV{a:Array Keyed}{i:Nat}(h:i < a.size):∃x,a[i]? =some x∧x∈a.toList:=⟨_,getElem?_pos a i h,by simp⟩
theorem cM{α:Type}{c:Prop} [Decidable c]{m1 m2:StateT SortSt Sem α}{Q:α→SortSt→Prop}{st:SortSt}(h1:c→wpS (model prog w) A E s m1 Q st)(h2:¬c→wpS (model prog w) A E s m2 Q st):wpS (model prog w) A E s (if c then m1 else m2) Q st:=by
 by_cases h:c
 ·rw[if_pos h]
  exact h1 h
 ·rw[if_neg h]
  exact h2 h
theorem i6.Cq{a b out:Array Keyed}{ia ib k:Nat}(sa:dj κ a.toList)(h:i6 κ a.toList b.toList out.toList ia ib)(u:Below κ ((a.toList.drop ia).take k) (b.toList.drop ib)):i6 κ a.toList b.toList (out++a.extract ia (ia+k)).toList (ia+k) ib:=by
 rw[toList_append,m6]
 exact h.uE sa u
theorem i6.BV{a b out:Array Keyed}{ia ib k:Nat}(sb:dj κ b.toList)(h:i6 κ a.toList b.toList out.toList ia ib)(u:Under κ ((b.toList.drop ib).take k) (a.toList.drop ia)):i6 κ a.toList b.toList (out++b.extract ib (ib+k)).toList ia (ib+k):=by
 rw[toList_append,m6]
 exact h.uK sb u
theorem qW(a:Array Keyed){i m n:Nat}(h:a.size - i≤n)(hm:m≤n):(a.toList.drop (i+m)).take (n - m)=a.toList.drop (i+m):=eL _ _ (by rw[length_toList];omega)
theorem sE(hL:jt prog w A E s κ kd){a b:Array Keyed}{st:SortSt}{Q:Array Keyed→SortSt→Prop}(hk:kindOf st=kd)(ka:∀x∈a.toList,gC κ x)(kb:∀x∈b.toList,gC κ x)(sa:dj κ a.toList)(sb:dj κ b.toList)(a1:1≤a.size)(b1:1≤b.size)(u1:Under κ (b.toList.take 1) a.toList)(u2:Under κ b.toList (a.toList.drop (a.size - 1)))
  (q:∀r st',Kept st st'→i5 κ a b r→Q r st'):wpS (model prog w) A E s (yG a b) Q st:=by
 refine wpS_bind (wpS_lift (wpAny_rule ⟨rfl,?_⟩))
 obtain⟨b0,hb0,mb0⟩:=fV b1
 refine wpS_bind (cR hb0 ?_)
 have ub:∀ib,Under κ (b.toList.drop ib) (a.toList.drop (a.size - 1)):=fun ib x hx y hy=>u2 x (mem_of_mem_drop hx) y hy
 have m0:i6 κ a.toList b.toList (#[b0]:Array Keyed).toList 0 1:=by
  have h0:i6 κ a.toList b.toList (#[]:Array Keyed).toList 0 0:=⟨List.Pairwise.nil,(fun _ h=>by cases h),(fun _ h=>by cases h),cQ.refl _⟩
  refine h0.oI sb hb0 ?_
  have e:b.toList.take 1=[b0]:=by
   have:=dH hb0
   rw[drop_zero]at this
   rw[this]
   rfl
  rw[e]at u1
  exact u1
 by_cases c1:(1 == b.size)=true
 ·rw[if_pos c1]
  exact wpS_pure (q _ st (Kept.refl _) (m0.mZ sa sb (.inr (by rw[beq_iff_eq]at c1;omega))))
 rw[if_neg c1]
 by_cases c2:(0+1 == a.size)=true
 ·rw[if_pos c2]
  exact wpS_pure (q _ st (Kept.refl _) (m0.zP sa sb (by rw[beq_iff_eq]at c2;have:=ub 1;rwa [show a.size - 1=0 by omega]at this)))
 rw[if_neg c2]
 rw[beq_iff_eq]at c1 c2
 refine wpS_bind (wpS_get ?_)
 refine wpS_bind (wpS_mono (wpS_forRange (I:=fun x c st'=>∃out ia ib mg,c=(none,out,ia,ib,mg)∧LI κ a b st out ia ib x st')
  (Q:=fun c st'=>∃r c',c=(some r,c')∧Kept st st'∧i5 κ a b r) ?step ?fin ⟨_,_,_,_,rfl,Kept.refl _,m0,by omega,by omega,zero_le _⟩) ?post)
 case post=>
  rintro c st' ⟨r,c',rfl,kp,mr⟩
  exact wpS_pure (q r st' kp mr)
 case fin=>
  rintro c st' ⟨out,ia,ib,mg,rfl,li⟩
  have:=li.t
  have:=li.la
  have:=li.lb
  omega
 case step=>
  rintro x c st1 _ hx ⟨out,ia,ib,mg,rfl,li⟩
  dsimp only
  refine wpS_bind (wpS_mono (wpS_forRange (I:=fun y c st'=>∃out ia ib ac bc,c=(none,out,ia,ib,ac,bc)∧LI κ a b st out ia ib (x+y) st')
   (Q:=fun c st'=>(∃r c',c=(some r,c')∧Kept st st'∧i5 κ a b r)∨∃out ia ib ac bc,c=(none,out,ia,ib,ac,bc)∧LI κ a b st out ia ib (x+1) st') ?istep ?ifin ⟨_,_,_,_,_,rfl,li⟩) ?ipost)
  case ifin=>
   rintro c st' ⟨out,ia,ib,ac,bc,rfl,li⟩
   have:=li.t
   have:=li.la
   have:=li.lb
   omega
  case istep=>
   rintro y c st2 _ hy ⟨out,ia,ib,ac,bc,rfl,li⟩
   dsimp only
   obtain⟨xb,hxb,mxb⟩:=fV li.lb
   obtain⟨xa,hxa,mxa⟩:=fV (show ia < a.size by have:=li.la;omega)
   refine wpS_bind (cR hxb (wpS_bind (cR hxa (wpS_bind (hL xb xa st2 _ (li.kp.kind.trans hk) (kb xb mxb) (ka xa mxa) ?_)))))
   dsimp only
   have ha':=(sa.drop ia)
   rw[dH hxa]at ha'
   have hb':=(sb.drop ib)
   rw[dH hxb]at hb'
   have bela:Below κ [xa] (a.toList.drop ia):=by rw[dH hxa];exact ha'.head
   have belb:Below κ [xb] (b.toList.drop ib):=by rw[dH hxb];exact hb'.head
   have lla:=li.la
   have llb:=li.lb
   have llt:=li.t
   cases hc:κ.blt (key κ xb) (key κ xa) with
   |true=>
    rw[if_pos rfl]
    have m':=li.m.oI sb hxb (Under.over (k:=xa) (fun x hx y hy=>by cases mem_singleton.mp hx;cases mem_singleton.mp hy;exact hc) bela)
    refine wpS_bind (cR hxb ?_)
    by_cases c3:(ib+1 == b.size)=true
    ·rw[if_pos c3]
     exact wpS_pure (.inl ⟨_,_,rfl,li.kp,m'.mZ sa sb (.inr (by rw[beq_iff_eq]at c3;omega))⟩)
    rw[if_neg c3]
    rw[beq_iff_eq]at c3
    by_cases c4:bc+1 ≥ mg
    ·rw[if_pos c4]
     exact wpS_pure (.inr ⟨_,_,_,_,_,rfl,li.kp,m',lla,by omega,by omega⟩)
    ·rw[if_neg c4]
     exact wpS_pure ⟨_,_,_,_,_,rfl,li.kp,m',lla,by omega,by omega⟩
   |false=>
    rw[if_neg Bool.false_ne_true]
    have m':=li.m.oy sa hxa (Below.over (k:=xb) (fun x hx y hy=>by cases mem_singleton.mp hx;cases mem_singleton.mp hy;exact hc) belb)
    refine wpS_bind (cR hxa ?_)
    by_cases c3:(ia+1+1 == a.size)=true
    ·rw[if_pos c3]
     exact wpS_pure (.inl ⟨_,_,rfl,li.kp,m'.zP sa sb (by rw[beq_iff_eq]at c3;have:=ub ib;rwa [show a.size - 1=ia+1 by omega]at this)⟩)
    rw[if_neg c3]
    rw[beq_iff_eq]at c3
    by_cases c4:ac+1 ≥ mg
    ·rw[if_pos c4]
     exact wpS_pure (.inr ⟨_,_,_,_,_,rfl,li.kp,m',by omega,by omega,by omega⟩)
    ·rw[if_neg c4]
     exact wpS_pure ⟨_,_,_,_,_,rfl,li.kp,m',by omega,by omega,by omega⟩
  case ipost=>
   rintro c st2 (⟨r,c',rfl,kp,mr⟩|⟨out,ia,ib,ac,bc,rfl,li⟩)
   ·exact wpS_pure ⟨r,_,rfl,kp,mr⟩
   dsimp only
   refine wpS_bind (wpS_lift (wpAny_rule ⟨rfl,?_⟩))
   refine wpS_bind (wpS_mono (wpS_forRange (I:=fun y c st'=>∃out ia ib mg ac bc,c=(none,out,ia,ib,mg,ac,bc)∧LI κ a b st out ia ib (x+1+y) st')
    (Q:=fun c st'=>(∃r c',c=(some r,c')∧Kept st st'∧i5 κ a b r)∨∃out ia ib mg ac bc,c=(none,out,ia,ib,mg,ac,bc)∧LI κ a b st out ia ib (x+1) st') ?gstep ?gfin ⟨_,_,_,_,_,_,rfl,li⟩) ?gpost)
   case gfin=>
    rintro c st' ⟨out,ia,ib,mg,ac,bc,rfl,li⟩
    have:=li.t
    have:=li.la
    have:=li.lb
    omega
   case gpost=>
    rintro c st3 (⟨r,c',rfl,kp,mr⟩|⟨out,ia,ib,mg,ac,bc,rfl,li⟩)
    ·exact wpS_pure ⟨r,_,rfl,kp,mr⟩
    dsimp only
    exact wpS_bind (j3 fun st4 kp4=>wpS_pure ⟨_,_,_,_,rfl,li.kp.trans kp4,li.m,li.la,li.lb,li.t⟩)
   case gstep=>
    rintro y c st3 _ hy ⟨out,ia,ib,mg,ac,bc,rfl,li⟩
    dsimp only
    obtain⟨xb,hxb,mxb⟩:=fV li.lb
    have hb':=(sb.drop ib)
    rw[dH hxb]at hb'
    have belb:Below κ [xb] (b.toList.drop ib):=by rw[dH hxb];exact hb'.head
    clear hb'
    have belA:∀{i:Nat}{x:Keyed},a[i]? =some x→Below κ [x] (a.toList.drop i):=fun {i x} hx=>by
     have h:=sa.drop i
     rw[dH hx]at h ⊢
     exact h.head
    have ubl:∀{i:Nat}(j:Nat),i+1=a.size→Under κ (b.toList.drop j) (a.toList.drop i):=fun {i} j e=>by
     have:=ub j
     rwa [show a.size - 1=i by omega]at this
    have lla:=li.la
    have llb:=li.lb
    have llt:=li.t
    refine cM (fun _=>?_) (fun _=>?_)
    all_goals
     refine wpS_bind (j3 fun st4 kp4=>?_)
     have kp3:=li.kp.trans kp4
     refine wpS_bind (cR hxb (wpS_bind (l7 hL (kp3.kind.trans hk) (kb xb mxb) ka (by omega) (by rw[eL _ _ (by rw[length_toList];exact le_refl _)];exact sa.drop _) (by omega) fun k1 hk1 bl1 un1=>?_)))
     dsimp only
     rw[qW a (le_refl _) hk1]at un1
     have m2:=i6.Cq sa li.m (Below.over bl1 belb)
     refine cM (fun c1=>cM (fun c2=>?_) (fun c2=>cM (fun c7=>?_) (fun c7=>?_))) (fun c1=>?_)
     ·rw[beq_iff_eq]at c2
      exact wpS_pure (.inl ⟨_,_,rfl,kp3,m2.zP sa sb (ubl _ (by omega))⟩)
     ·rw[beq_iff_eq]at c7
      exact wpS_pure (.inl ⟨_,_,rfl,kp3,m2.mZ sa sb (.inl (by omega))⟩)
     rw[beq_iff_eq]at c2 c7
     have lt:=show ia+k1 < a.size by omega
     rotate_left
     have e:k1=0:=by omega
     subst e
     have m2:=li.m
     have lt:=show ia < a.size by omega
     all_goals
      have m3:=i6.oI sb m2 hxb un1
      refine wpS_bind (cR hxb ?_)
      refine cM (fun c3=>?_) (fun c3=>?_)
      ·rw[beq_iff_eq]at c3
       exact wpS_pure (.inl ⟨_,_,rfl,kp3,m3.mZ sa sb (.inr (by omega))⟩)
      rw[beq_iff_eq]at c3
      obtain⟨xc,hxc,mxc⟩:=fV lt
      have belc:=belA hxc
      refine wpS_bind (cR hxc (wpS_bind (mD hL (kp3.kind.trans hk) (ka xc mxc) kb (by omega) (by rw[eL _ _ (by rw[length_toList];omega)];exact sb.drop _) (by omega) fun k2 hk2 ul bl=>?_)))
      dsimp only
      rw[qW b (by omega) hk2]at bl
      have m4:=i6.BV sb m3 (Under.over ul belc)
      refine cM (fun c4=>cM (fun c6=>?_) (fun c6=>?_)) (fun c4=>?_)
      ·rw[beq_iff_eq]at c6
       exact wpS_pure (.inl ⟨_,_,rfl,kp3,m4.mZ sa sb (.inr (by omega))⟩)
      rw[beq_iff_eq]at c6
      rotate_left
      have e:k2=0:=by omega
      subst e
      have m4:=m3
      all_goals
       have m5:=i6.oy sa m4 hxc bl
       refine wpS_bind (cR hxc ?_)
       refine cM (fun c5=>?_) (fun c5=>?_)
       ·rw[beq_iff_eq]at c5
        exact wpS_pure (.inl ⟨_,_,rfl,kp3,m5.zP sa sb (ubl _ (by omega))⟩)
       ·rw[beq_iff_eq]at c5
        exact cM (fun _=>wpS_pure (.inr ⟨_,_,_,_,_,_,rfl,kp3,m5,by omega,by omega,by omega⟩)) (fun _=>wpS_pure ⟨_,_,_,_,_,_,rfl,kp3,m5,by omega,by omega,by omega⟩)
end
end TS
namespace TS
open PySem PyProof.Rows
variable {κ:KeyKind}
theorem jx(l:List Keyed){m n:Nat}(h:m≤n):l.take n=l.take m++(l.drop m).take (n - m):=by
 rw[←List.drop_take]
 have:=take_append_drop m (l.take n)
 rw[List.take_take,min_eq_left h]at this
 exact this.symm
theorem dj.take{l:List Keyed}(h:dj κ l)(i:Nat):dj κ (l.take i):=List.Pairwise.sublist (take_sublist i l) h
structure i7(κ:KeyKind)(al bl o:List Keyed)(na nb:Nat):Prop where
 so:dj κ o
 oa:Below κ (al.take na) o
 ob:Below κ (bl.take nb) o
 st:cQ κ (al.take na++(bl.take nb++o)) (al++bl)
theorem Below.x8{l m n:List Keyed}(h:Below κ l m)(h':Below κ l n):Below κ l (m++n):=fun x hx y hy=>(mem_append.mp hy).elim (h x hx y) (h' x hx y)
theorem Below.BN{l m n:List Keyed}(h:Below κ (l++m) n):Below κ l n:=fun x hx y hy=>h x (mem_append_left _ hx) y hy
theorem Below.yQ{l m n:List Keyed}(h:Below κ (l++m) n):Below κ m n:=fun x hx y hy=>h x (mem_append_right _ hx) y hy
theorem i7.uE{al bl o:List Keyed}{na nb m:Nat}(sa:dj κ al)(h:i7 κ al bl o na nb)(hm:m≤na)(u:Under κ (bl.take nb) ((al.drop m).take (na - m))):i7 κ al bl ((al.drop m).take (na - m)++o) m nb:=by
 have e:=jx al hm
 have s:=sa.take na
 have oa:=h.oa
 have st:=h.st
 rw[e]at s oa st
 refine⟨s.right.append h.so oa.yQ,s.mid.x8 oa.BN,u.below.x8 h.ob,cQ.trans ?_ st⟩
 rw[append_assoc]
 refine(cQ.refl _).append ?_
 rw[←append_assoc,←append_assoc]
 exact(cQ.swap u).append (cQ.refl _)
theorem i7.uK{al bl o:List Keyed}{na nb m:Nat}(sb:dj κ bl)(h:i7 κ al bl o na nb)(hm:m≤nb)(u:Below κ (al.take na) ((bl.drop m).take (nb - m))):i7 κ al bl ((bl.drop m).take (nb - m)++o) na m:=by
 have e:=jx bl hm
 have s:=sb.take nb
 have ob:=h.ob
 have st:=h.st
 rw[e]at s ob st
 refine⟨s.right.append h.so ob.yQ,u.x8 h.oa,s.mid.x8 ob.BN,?_⟩
 rw[←append_assoc (bl.take m)]
 exact st
theorem i7.done{al bl o:List Keyed}{na nb:Nat}(sa:dj κ al)(sb:dj κ bl)(h:i7 κ al bl o na nb)(e:na=0∨nb=0):dj κ (al.take na++bl.take nb++o)∧cQ κ (al.take na++bl.take nb++o) (al++bl):=by
 refine⟨?_,by rw[append_assoc];exact h.st⟩
 rcases e with e|e
 ·rw[e,List.take_zero,nil_append]
  exact(sb.take nb).append h.so h.ob
 ·rw[e,List.take_zero,append_nil]
  exact(sa.take na).append h.so h.oa
theorem i7.first{al bl o:List Keyed}{na nb:Nat}(sa:dj κ al)(sb:dj κ bl)(h:i7 κ al bl o na nb)(u:Under κ (bl.take nb) (al.take na)):dj κ (bl.take nb++al.take na++o)∧cQ κ (bl.take nb++al.take na++o) (al++bl):=by
 refine⟨?_,cQ.trans ?_ h.st⟩
 ·rw[append_assoc]
  exact(sb.take nb).append ((sa.take na).append h.so h.oa) (u.below.x8 h.ob)
 ·rw[←append_assoc]
  exact(cQ.swap u).append (cQ.refl _)
def yC:Array Keyed→Array Keyed→StateT SortSt Sem (Array Keyed):=sortPriv% PySem.Builtin.mergeHi
section
variable {prog:Program}{w:World}{A:Around}{E:Value→Shared→Prop}{s:Shared}{kd:SortKind}
abbrev bk(out:Array Keyed):List Keyed:=out.toList.reverse
section
variable {a b out:Array Keyed}{na nb:Nat}(sa:dj κ a.toList)(sb:dj κ b.toList)
include sa sb
theorem i7.mZ(h:i7 κ a.toList b.toList (bk out) na nb)(e:na=0∨nb=0):i5 κ a b (a.extract 0 na++b.extract 0 nb++out.reverse):=by
 unfold i5
 rw[toList_append,toList_append,toList_extract,toList_extract,toList_reverse]
 exact h.done sa sb e
theorem i7.Ax(h:i7 κ a.toList b.toList (bk out) na nb)(u:Under κ (b.toList.take nb) (a.toList.take na)):i5 κ a b (b.extract 0 nb++a.extract 0 na++out.reverse):=by
 unfold i5
 rw[toList_append,toList_append,toList_extract,toList_extract,toList_reverse]
 exact h.first sa sb u
omit sa in
theorem i7.BV{m:Nat}(h:i7 κ a.toList b.toList (bk out) na nb)(hm:m≤nb)(u:Below κ (a.toList.take na) ((b.toList.drop m).take (nb - m))):i7 κ a.toList b.toList (bk (out++(b.extract m nb).reverse)) na m:=by
 have e:bk (out++(b.extract m nb).reverse)=(b.toList.drop m).take (nb - m)++bk out:=by
  show(out++(b.extract m nb).reverse).toList.reverse=_
  rw[toList_append,toList_reverse,toList_extract,reverse_append,reverse_reverse]
 rw[e]
 exact h.uK sb hm u
omit sb in
theorem i7.Cq{m:Nat}(h:i7 κ a.toList b.toList (bk out) na nb)(hm:m≤na)(u:Under κ (b.toList.take nb) ((a.toList.drop m).take (na - m))):i7 κ a.toList b.toList (bk (out++(a.extract m na).reverse)) m nb:=by
 have e:bk (out++(a.extract m na).reverse)=(a.toList.drop m).take (na - m)++bk out:=by
  show(out++(a.extract m na).reverse).toList.reverse=_
  rw[toList_append,toList_reverse,toList_extract,reverse_append,reverse_reverse]
 rw[e]
 exact h.uE sa hm u
end
theorem qC{a:Array Keyed}{m n:Nat}{x:Keyed}(hx:a[m]? =some x)(h:n=m+1):(a.toList.drop m).take (n - m)=[x]:=by
 rw[dH hx,show n - m=1 by omega]
 rfl
theorem vv(out:Array Keyed)(x:Keyed):bk (out.push x)=[x]++bk out:=by
 show(out.push x).toList.reverse=_
 rw[toList_push,reverse_append]
 rfl
theorem i7.oy{a b out:Array Keyed}{na nb m:Nat}{x:Keyed}(sa:dj κ a.toList)(h:i7 κ a.toList b.toList (bk out) na nb)(hx:a[m]? =some x)(hm:na=m+1)(u:Under κ (b.toList.take nb) [x]):i7 κ a.toList b.toList (bk (out.push x)) m nb:=by
 have e:=qC hx hm
 have:=h.uE (m:=m) sa (by omega) (by rw[e];exact u)
 rw[e]at this
 rw[vv]
 exact this
theorem i7.oI{a b out:Array Keyed}{na nb m:Nat}{x:Keyed}(sb:dj κ b.toList)(h:i7 κ a.toList b.toList (bk out) na nb)(hx:b[m]? =some x)(hm:nb=m+1)(u:Below κ (a.toList.take na) [x]):i7 κ a.toList b.toList (bk (out.push x)) na m:=by
 have e:=qC hx hm
 have:=h.uK (m:=m) sb (by omega) (by rw[e];exact u)
 rw[e]at this
 rw[vv]
 exact this
theorem dj.last{a:Array Keyed}(h:dj κ a.toList){m n:Nat}{x:Keyed}(hx:a[m]? =some x)(hn:n=m+1):Below κ (a.toList.take n) [x]:=by
 have s:=h.take n
 have e:=jx a.toList (show m≤n by omega)
 rw[qC hx hn]at e
 rw[e]at s ⊢
 exact s.mid.append fun y hy z hz=>by
  cases mem_singleton.mp hy
  cases mem_singleton.mp hz
  exact KeyOrd.kle_refl _
theorem Below.under{k:Keyed}{l m:List Keyed}(h:Below κ l [k])(u:Under κ [k] m):Under κ l m:=fun x hx y hy=>KeyOrd.klt_of_kle_of_klt (h x hx k (mem_singleton_self _)) (u k (mem_singleton_self _) y hy)
structure HI(κ:KeyKind)(a b:Array Keyed)(st:SortSt)(out:Array Keyed)(na nb t:Nat)(st':SortSt):Prop where
 kp:Kept st st'
 m:i7 κ a.toList b.toList (bk out) na nb
 la:1≤na
 lb:2≤nb
 ha:na≤a.size
 hb:nb≤b.size
 t:na+nb+t≤a.size+b.size
theorem q9(hL:jt prog w A E s κ kd){a b:Array Keyed}{st:SortSt}{Q:Array Keyed→SortSt→Prop}(hk:kindOf st=kd)(ka:∀x∈a.toList,gC κ x)(kb:∀x∈b.toList,gC κ x)(sa:dj κ a.toList)(sb:dj κ b.toList)(a1:1≤a.size)(b1:1≤b.size)(u1:Under κ (b.toList.take 1) a.toList)(u2:Under κ b.toList (a.toList.drop (a.size - 1)))
  (q:∀r st',Kept st st'→i5 κ a b r→Q r st'):wpS (model prog w) A E s (yC a b) Q st:=by
 refine wpS_bind (wpS_lift (wpAny_rule ⟨rfl,?_⟩))
 obtain⟨a0,ha0,ma0⟩:=fV (show a.size - 1 < a.size by omega)
 refine wpS_bind (cR ha0 ?_)
 have ubf:∀{nb:Nat}(na:Nat),nb=1→Under κ (b.toList.take nb) (a.toList.take na):=fun {nb} na e x hx y hy=>by
  subst e
  exact u1 x hx y (mem_of_mem_take hy)
 have m0:i7 κ a.toList b.toList (bk #[a0]) (a.size - 1) b.size:=by
  have h0:i7 κ a.toList b.toList (bk #[]) a.size b.size:=⟨List.Pairwise.nil,Below.nil,Below.nil,by
   rw[take_of_length_le (by rw[length_toList];exact le_refl _),take_of_length_le (by rw[length_toList];exact le_refl _)]
   show cQ κ (_++(_++[])) _
   rw[append_nil]
   exact cQ.refl _⟩
  refine h0.oy sa ha0 (by omega) fun x hx y hy=>u2 x (mem_of_mem_take hx) y ?_
  rw[dH ha0]
  cases mem_singleton.mp hy
  exact mem_cons_self
 refine cM (fun c1=>?_) (fun c1=>?_)
 ·rw[beq_iff_eq]at c1
  exact wpS_pure (q _ st (Kept.refl _) (m0.mZ sa sb (.inl c1)))
 refine cM (fun c2=>?_) (fun c2=>?_)
 ·rw[beq_iff_eq]at c2
  exact wpS_pure (q _ st (Kept.refl _) (m0.Ax sa sb (ubf _ c2)))
 rw[beq_iff_eq]at c1 c2
 refine wpS_bind (wpS_get ?_)
 refine wpS_bind (wpS_mono (wpS_forRange (I:=fun x c st'=>∃na nb out mg,c=(none,na,nb,out,mg)∧HI κ a b st out na nb x st')
  (Q:=fun c st'=>∃r c',c=(some r,c')∧Kept st st'∧i5 κ a b r) ?step ?fin ⟨_,_,_,_,rfl,Kept.refl _,m0,by omega,by omega,by omega,by omega,by omega⟩) ?post)
 case post=>
  rintro c st' ⟨r,c',rfl,kp,mr⟩
  exact wpS_pure (q r st' kp mr)
 case fin=>
  rintro c st' ⟨na,nb,out,mg,rfl,li⟩
  have:=li.t
  have:=li.la
  have:=li.lb
  omega
 case step=>
  rintro x c st1 _ hx ⟨na,nb,out,mg,rfl,li⟩
  dsimp only
  refine wpS_bind (wpS_mono (wpS_forRange (I:=fun y c st'=>∃na nb out ac bc,c=(none,na,nb,out,ac,bc)∧HI κ a b st out na nb (x+y) st')
   (Q:=fun c st'=>(∃r c',c=(some r,c')∧Kept st st'∧i5 κ a b r)∨∃na nb out ac bc,c=(none,na,nb,out,ac,bc)∧HI κ a b st out na nb (x+1) st') ?istep ?ifin ⟨_,_,_,_,_,rfl,li⟩) ?ipost)
  case ifin=>
   rintro c st' ⟨na,nb,out,ac,bc,rfl,li⟩
   have:=li.t
   have:=li.la
   have:=li.lb
   omega
  case istep=>
   rintro y c st2 _ hy ⟨na,nb,out,ac,bc,rfl,li⟩
   dsimp only
   have lla:=li.la
   have llb:=li.lb
   have lha:=li.ha
   have lhb:=li.hb
   have llt:=li.t
   obtain⟨xb,hxb,mxb⟩:=fV (show nb - 1 < b.size by omega)
   obtain⟨xa,hxa,mxa⟩:=fV (show na - 1 < a.size by omega)
   have belb:=sb.last hxb (show nb=_ by omega)
   have bela:=sa.last hxa (show na=_ by omega)
   refine wpS_bind (cR hxb (wpS_bind (cR hxa (wpS_bind (hL xb xa st2 _ (li.kp.kind.trans hk) (kb xb mxb) (ka xa mxa) ?_)))))
   dsimp only
   cases hc:κ.blt (key κ xb) (key κ xa) with
   |true=>
    rw[if_pos rfl]
    have m':=li.m.oy sa hxa (by omega) (Below.under (k:=xb) belb (fun x hx y hy=>by cases mem_singleton.mp hx;cases mem_singleton.mp hy;exact hc))
    refine wpS_bind (cR hxa ?_)
    refine cM (fun c3=>?_) (fun c3=>?_)
    ·rw[beq_iff_eq]at c3
     exact wpS_pure (.inl ⟨_,_,rfl,li.kp,m'.mZ sa sb (.inl c3)⟩)
    rw[beq_iff_eq]at c3
    exact cM (fun _=>wpS_pure (.inr ⟨_,_,_,_,_,rfl,li.kp,m',by omega,by omega,by omega,by omega,by omega⟩)) (fun _=>wpS_pure ⟨_,_,_,_,_,rfl,li.kp,m',by omega,by omega,by omega,by omega,by omega⟩)
   |false=>
    rw[if_neg Bool.false_ne_true]
    have m':=li.m.oI sb hxb (by omega) (Below.over (k:=xa) bela (fun x hx y hy=>by cases mem_singleton.mp hx;cases mem_singleton.mp hy;exact hc))
    refine wpS_bind (cR hxb ?_)
    refine cM (fun c3=>?_) (fun c3=>?_)
    ·rw[beq_iff_eq]at c3
     exact wpS_pure (.inl ⟨_,_,rfl,li.kp,m'.Ax sa sb (ubf _ c3)⟩)
    rw[beq_iff_eq]at c3
    exact cM (fun _=>wpS_pure (.inr ⟨_,_,_,_,_,rfl,li.kp,m',by omega,by omega,by omega,by omega,by omega⟩)) (fun _=>wpS_pure ⟨_,_,_,_,_,rfl,li.kp,m',by omega,by omega,by omega,by omega,by omega⟩)
  case ipost=>
   rintro c st2 (⟨r,c',rfl,kp,mr⟩|⟨na,nb,out,ac,bc,rfl,li⟩)
   ·exact wpS_pure ⟨r,_,rfl,kp,mr⟩
   dsimp only
   refine wpS_bind (wpS_lift (wpAny_rule ⟨rfl,?_⟩))
   refine wpS_bind (wpS_mono (wpS_forRange (I:=fun y c st'=>∃na nb out mg ac bc,c=(none,na,nb,out,mg,ac,bc)∧HI κ a b st out na nb (x+1+y) st')
    (Q:=fun c st'=>(∃r c',c=(some r,c')∧Kept st st'∧i5 κ a b r)∨∃na nb out mg ac bc,c=(none,na,nb,out,mg,ac,bc)∧HI κ a b st out na nb (x+1) st') ?gstep ?gfin ⟨_,_,_,_,_,_,rfl,li⟩) ?gpost)
   case gfin=>
    rintro c st' ⟨na,nb,out,mg,ac,bc,rfl,li⟩
    have:=li.t
    have:=li.la
    have:=li.lb
    omega
   case gpost=>
    rintro c st3 (⟨r,c',rfl,kp,mr⟩|⟨na,nb,out,mg,ac,bc,rfl,li⟩)
    ·exact wpS_pure ⟨r,_,rfl,kp,mr⟩
    dsimp only
    exact wpS_bind (j3 fun st4 kp4=>wpS_pure ⟨_,_,_,_,rfl,li.kp.trans kp4,li.m,li.la,li.lb,li.ha,li.hb,li.t⟩)
   case gstep=>
    rintro y c st3 _ hy ⟨na,nb,out,mg,ac,bc,rfl,li⟩
    dsimp only
    have lla:=li.la
    have llb:=li.lb
    have lha:=li.ha
    have lhb:=li.hb
    have llt:=li.t
    obtain⟨xb,hxb,mxb⟩:=fV (show nb - 1 < b.size by omega)
    have belb:=sb.last hxb (show nb=_ by omega)
    refine cM (fun _=>?_) (fun _=>?_)
    all_goals
     refine wpS_bind (j3 fun st4 kp4=>?_)
     have kp3:=li.kp.trans kp4
     refine wpS_bind (cR hxb (wpS_bind (l7 hL (kp3.kind.trans hk) (kb xb mxb) ka (by omega) (by rw[drop_zero];exact sa.take _) (by omega) fun k1 hk1 bl1 un1=>?_)))
     dsimp only
     rw[drop_zero]at bl1
     rw[zero_add]at un1
     have m2:=i7.Cq sa li.m hk1 (Below.under belb un1)
     refine cM (fun c1=>cM (fun c2=>?_) (fun c2=>?_)) (fun c1=>?_)
     ·rw[beq_iff_eq]at c2
      exact wpS_pure (.inl ⟨_,_,rfl,kp3,m2.mZ sa sb (.inl (by omega))⟩)
     rw[beq_iff_eq]at c2
     rotate_left
     have e:k1=na:=by omega
     subst e
     have m2:=li.m
     all_goals
      have m3:=i7.oI sb m2 hxb (by omega) bl1
      refine wpS_bind (cR hxb ?_)
      refine cM (fun c3=>?_) (fun c3=>?_)
      ·rw[beq_iff_eq]at c3
       exact wpS_pure (.inl ⟨_,_,rfl,kp3,m3.Ax sa sb (ubf _ (by omega))⟩)
      rw[beq_iff_eq]at c3
      obtain⟨xc,hxc,mxc⟩:=fV (show k1 - 1 < a.size by omega)
      have belc:=sa.last hxc (show k1=_ by omega)
      refine wpS_bind (cR hxc (wpS_bind (mD hL (kp3.kind.trans hk) (ka xc mxc) kb (by omega) (by rw[drop_zero];exact sb.take _) (by omega) fun k2 hk2 ul bl=>?_)))
      dsimp only
      rw[drop_zero]at ul
      rw[zero_add]at bl
      have m4:=i7.BV sb m3 hk2 (Below.over belc bl)
      refine cM (fun c4=>cM (fun c6=>?_) (fun c6=>cM (fun c7=>?_) (fun c7=>?_))) (fun c4=>?_)
      ·rw[beq_iff_eq]at c6
       exact wpS_pure (.inl ⟨_,_,rfl,kp3,m4.Ax sa sb (ubf _ (by omega))⟩)
      ·rw[beq_iff_eq]at c7
       exact wpS_pure (.inl ⟨_,_,rfl,kp3,m4.mZ sa sb (.inr (by omega))⟩)
      rw[beq_iff_eq]at c6 c7
      rotate_left
      have e:k2=nb - 1:=by omega
      subst e
      have m4:=m3
      all_goals
       have m5:=i7.oy sa m4 hxc (by omega) ul
       refine wpS_bind (cR hxc ?_)
       refine cM (fun c5=>?_) (fun c5=>?_)
       ·rw[beq_iff_eq]at c5
        exact wpS_pure (.inl ⟨_,_,rfl,kp3,m5.mZ sa sb (.inl (by omega))⟩)
       ·rw[beq_iff_eq]at c5
        exact cM (fun _=>wpS_pure (.inr ⟨_,_,_,_,_,_,rfl,kp3,m5,by omega,by omega,by omega,by omega,by omega⟩)) (fun _=>wpS_pure ⟨_,_,_,_,_,_,rfl,kp3,m5,by omega,by omega,by omega,by omega,by omega⟩)
end
end TS
namespace TS
open PySem PyProof.Rows
variable {κ:KeyKind}
def t4:Nat→Nat→StateT SortSt Sem (Option Nat):=sortPriv% PySem.Builtin.countRun
def qz:Nat→Nat→Nat→StateT SortSt Sem Bool:=sortPriv% PySem.Builtin.binarySort
theorem qX{xs:Array Keyed}{P G R:List Keyed}(e:xs.toList=P++(G++R)){i j:Nat}(hi:i=P.length)(hj:j=i+G.length):(mirror xs i j ((j - i) / 2)).toList=P++(G.reverse++R):=by
 have hs:xs.size=P.length+(G.length+R.length):=by rw[←length_toList,e,length_append,length_append]
 apply List.ext_getElem?
 intro k
 rw[getElem?_toList,getElem?_mirror_all (by omega),←getElem?_toList,←getElem?_toList,e]
 by_cases h:i≤k∧k < j
 ·rw[if_pos h,getElem?_append_right (by omega),getElem?_append_left (by omega),getElem?_append_right (by omega),getElem?_append_left (by rw[length_reverse];omega),List.getElem?_reverse (by omega)]
  congr 1
  omega
 ·rw[if_neg h]
  by_cases h1:k < i
  ·rw[getElem?_append_left (by omega),getElem?_append_left (by omega)]
  ·rw[getElem?_append_right (by omega),getElem?_append_right (by omega),getElem?_append_right (by omega),getElem?_append_right (by rw[length_reverse];omega),length_reverse]
theorem rX{xs:Array Keyed}{P T R:List Keyed}{x:Keyed}(e:xs.toList=P++(T++x::R)){src d:Nat}(hi:src=P.length+T.length)(hd:d=T.length):(bubble xs src d).toList=P++(x::T++R):=by
 have hs:xs.size=P.length+(T.length+(R.length+1)):=by rw[←length_toList,e,length_append,length_append];rfl
 apply List.ext_getElem?
 intro k
 rw[getElem?_toList,getElem?_bubble (by omega) d (by omega),←getElem?_toList,←getElem?_toList,←getElem?_toList,e]
 by_cases h:k=src - d
 ·rw[if_pos h,getElem?_append_right (by omega),getElem?_append_right (by omega),getElem?_append_right (by omega),show src - P.length - T.length=0 by omega,show k - P.length=0 by omega]
  rfl
 ·rw[if_neg h]
  by_cases h1:src - d < k∧k≤src
  ·rw[if_pos h1,getElem?_append_right (by omega),getElem?_append_left (by omega),getElem?_append_right (by omega),getElem?_append_left (by show _ < T.length+1;omega),show k - P.length=(k - 1 - P.length)+1 by omega,List.getElem?_cons_succ]
  ·rw[if_neg h1]
   by_cases h2:k < P.length
   ·rw[getElem?_append_left h2,getElem?_append_left h2]
   ·rw[getElem?_append_right (by omega),getElem?_append_right (by omega),getElem?_append_right (by omega),getElem?_append_right (by show T.length+1≤_;omega),show k - P.length - T.length=(k - P.length - (T.length+1))+1 by omega,List.getElem?_cons_succ]
    rfl
theorem jk:∀(m:List Keyed) (j off:Nat) (xs:Array Keyed) (P Y R:List Keyed),xs.toList=P++(Y++R)→m.length=Y.length→off+j=P.length→
  ((m.zipIdx j).foldl (fun(a:Array Keyed) (x:Keyed×Nat)=>a.setIfInBounds (off+x.2) x.1) xs).toList=P++(m++R)
 |[],j,off,xs,P,Y,R,e,l,_=>by
  rw[List.zipIdx_nil,List.foldl_nil,e,eq_nil_of_length_eq_zero l.symm]
 |x::m,j,off,xs,P,[],R,e,l,_=>by cases l
 |x::m,j,off,xs,P,y::Y,R,e,l,h=>by
  rw[List.zipIdx_cons,List.foldl_cons]
  have ih:=jk m (j+1) off (xs.setIfInBounds (off+j) x) (P++[x]) Y R (by
   rw[Array.toList_setIfInBounds,e,h,List.set_append_right _ _ (le_refl _),sub_self,append_assoc]
   rfl) (Nat.succ.inj l) (by rw[length_append,←h];rfl)
  rw[ih,append_assoc]
  rfl
structure tJ(st st':SortSt):Prop where
 kind:kindOf st'=kindOf st
 pend:pendingOf st'=pendingOf st
 failed:failedOf st'=failedOf st
theorem tJ.refl(st:SortSt):tJ st st:=⟨rfl,rfl,rfl⟩
theorem tJ.trans{a b c:SortSt}(h:tJ a b)(h':tJ b c):tJ a c:=⟨h'.kind.trans h.kind,h'.pend.trans h.pend,h'.failed.trans h.failed⟩
section
variable {prog:Program}{w:World}{A:Around}{E:Value→Shared→Prop}{s:Shared}{kd:SortKind}
theorem jI{st:SortSt}{P G R:List Keyed}(e:(arrOf st).toList=P++(G++R)){i j:Nat}(hi:i=P.length)(hj:j=i+G.length){Q:Unit→SortSt→Prop}(q:∀st',tJ st st'→(arrOf st').toList=P++(G.reverse++R)→Q () st'):wpS (model prog w) A E s (reverseSlice' i j) Q st:=by
 rw[reverseSlice'_eq]
 exact wpS_modify (q _ ⟨rfl,rfl,rfl⟩ (qX e hi hj))
theorem zp{st:SortSt}{P T R:List Keyed}{x:Keyed}(e:(arrOf st).toList=P++(T++x::R)){src dst:Nat}(hi:src=P.length+T.length)(hd:dst=P.length){Q:Unit→SortSt→Prop}(q:∀st',tJ st st'→(arrOf st').toList=P++(x::T++R)→Q () st'):wpS (model prog w) A E s (moveDown' src dst) Q st:=by
 rw[moveDown'_eq]
 exact wpS_modify (q _ ⟨rfl,rfl,rfl⟩ (rX e hi (by omega)))
theorem gc(hL:jt prog w A E s κ kd){st:SortSt}{i j:Nat}{x y:Keyed}{Q:Option Bool→SortSt→Prop}(hk:kindOf st=kd)(hx:(arrOf st).toList[i]? =some x)(hy:(arrOf st).toList[j]? =some y)(kx:gC κ x)(ky:gC κ y)(q:Q (some (κ.blt (key κ x) (key κ y))) st):wpS (model prog w) A E s (ltAt' i j) Q st:=by
 rw[ltAt'_eq]
 refine wpS_bind (wpS_get ?_)
 rw[getElem?_toList]at hx hy
 exact wpS_bind (cR hx (wpS_bind (cR hy (hL x y st Q hk kx ky q))))
theorem lO{P R:List Keyed}{x:Keyed}{i:Nat}(h:i=P.length):(P++x::R)[i]? =some x:=by
 rw[getElem?_append_right (by omega),h,sub_self]
 rfl
theorem jS{P C R:List Keyed}{x:Keyed}{i:Nat}(h:i=P.length+C.length):(P++((C++[x])++R))[i]? =some x:=by
 rw[append_assoc,←append_assoc P]
 exact lO (by rw[length_append];exact h)
theorem lZ{P C R:List Keyed}{x:Keyed}{i:Nat}(h:i=P.length+C.length):(P++(C++x::R))[i]? =some x:=by
 rw[←append_assoc]
 exact lO (by rw[length_append];exact h)
theorem dj.snoc{l:List Keyed}{x:Keyed}(h:dj κ l)(b:Below κ l [x]):dj κ (l++[x]):=h.append (pairwise_singleton _ _) b
theorem jY{l:List Keyed}(h:1≤l.length):∃c x,l=c++[x]:=⟨l.dropLast,l.getLast (by intro e;rw[e]at h;cases h),(List.dropLast_concat_getLast _).symm⟩
theorem dj.yN{c:List Keyed}{x y:Keyed}(h:dj κ (c++[x]))(b:κ.kle (key κ x) (key κ y)):Below κ (c++[x]) [y]:=fun u hu v hv=>by
 cases mem_singleton.mp hv
 rcases mem_append.mp hu with hu|hu
 ·exact KeyOrd.kle_trans (h.mid u hu x (mem_singleton_self _)) b
 ·cases mem_singleton.mp hu
  exact b
structure t9(κ:KeyKind)(st0:SortSt)(P S:List Keyed)(n:Nat)(M O R:List Keyed)(st:SortSt):Prop where
 e:(arrOf st).toList=P++(M++R)
 s:S=O++R
 m:M.length=n
 o:O.length=n
 sm:dj κ M
 tm:cQ κ M O
 cg:tJ st0 st
structure yo(κ:KeyKind)(st0:SortSt)(P S:List Keyed)(n neq:Nat)(C G O R:List Keyed)(st:SortSt):Prop where
 e:(arrOf st).toList=P++((C++G)++R)
 s:S=O++R
 o:O.length=n
 m:C.length+G.length=n
 g:G.length=neq+1
 sc:dj κ C.reverse
 un:Under κ G C
 gg:Below κ G G
 t:cQ κ (C.reverse++G) O
 cg:tJ st0 st
theorem qc{P C G R:List Keyed}:P++((C++G)++R)=(P++C)++(G++R):=by rw[append_assoc,append_assoc]
theorem mR{G:List Keyed}(h:Below κ G G):dj κ G:=List.pairwise_iff_forall_sublist.mpr fun {a b} hs=>h a (hs.subset mem_cons_self) b (hs.subset (mem_cons_of_mem _ (mem_singleton_self _)))
theorem Under.rev{G C:List Keyed}(h:Under κ G C):Under κ G C.reverse:=fun x hx y hy=>h x hx y (mem_reverse.mp hy)
theorem yo.up{st0:SortSt}{P S C G O R:List Keyed}{n neq:Nat}{st st':SortSt}(d:yo κ st0 P S n neq C G O R st)(cg:tJ st st')(e:(arrOf st').toList=P++((G++C.reverse)++R)):t9 κ st0 P S n (G++C.reverse) O R st':=
 ⟨e,d.s,by have:=d.m;rw[length_append,length_reverse];omega,d.o,(mR d.gg).append d.sc d.un.rev.below,(cQ.swap d.un.rev).trans d.t,d.cg.trans cg⟩
theorem yo.less{st0:SortSt}{P S C G O R:List Keyed}{n neq:Nat}{st st':SortSt}{y:Keyed}(d:yo κ st0 P S n neq C G O (y::R) st)(u:Under κ [y] G)(g1:1≤G.length)(cg:tJ st st')(e:(arrOf st').toList=(P++C)++(G.reverse++y::R)):yo κ st0 P S (n+1) 0 (C++G.reverse) [y] (O++[y]) R st':=by
 have m:=d.m
 have r:(C++G.reverse).reverse=G++C.reverse:=by rw[reverse_append,reverse_reverse]
 refine⟨by rw[e,append_assoc,append_assoc,append_assoc];rfl,by rw[d.s,append_assoc];rfl,by rw[length_append,d.o];rfl,by rw[length_append,length_reverse];show _+1=_;omega,rfl,?_,?_,?_,?_,d.cg.trans cg⟩
 ·rw[r]
  exact(mR d.gg).append d.sc d.un.rev.below
 ·intro x hx z hz
  rcases mem_append.mp hz with hz|hz
  ·obtain⟨g,hg⟩:=List.exists_mem_of_length_pos g1
   exact KeyOrd.klt_of_klt_of_kle (u x hx g hg) (d.un.below g hg z hz)
  ·exact u x hx z (mem_reverse.mp hz)
 ·intro x hx z hz
  cases mem_singleton.mp hx
  cases mem_singleton.mp hz
  exact KeyOrd.kle_refl _
 ·rw[r]
  exact((cQ.swap d.un.rev).trans d.t).append (cQ.refl _)
theorem yo.same{st0:SortSt}{P S C G O R:List Keyed}{n neq:Nat}{st:SortSt}{y z:Keyed}(d:yo κ st0 P S n neq C G O (y::R) st)(hz:z∈G)(h1:κ.kle (key κ z) (key κ y))(h2:κ.kle (key κ y) (key κ z)):yo κ st0 P S (n+1) (neq+1) C (G++[y]) (O++[y]) R st:=by
 have m:=d.m
 have g:=d.g
 refine⟨by rw[d.e,←append_assoc C,append_assoc _ [y]];rfl,by rw[d.s,append_assoc];rfl,by rw[length_append,d.o];rfl,by rw[length_append];show _+(_+1)=_;omega,by rw[length_append,g];rfl,d.sc,?_,?_,?_,d.cg⟩
 ·intro u hu v hv
  rcases mem_append.mp hu with hu|hu
  ·exact d.un u hu v hv
  ·cases mem_singleton.mp hu
   exact KeyOrd.klt_of_kle_of_klt h2 (d.un z hz v hv)
 ·intro u hu v hv
  have a1:κ.kle (key κ u) (key κ z):=by
   rcases mem_append.mp hu with hu|hu
   ·exact d.gg u hu z hz
   ·cases mem_singleton.mp hu
    exact h2
  refine KeyOrd.kle_trans a1 ?_
  rcases mem_append.mp hv with hv|hv
  ·exact d.gg z hz v hv
  ·cases mem_singleton.mp hv
   exact h1
 ·rw[←append_assoc]
  exact d.t.append (cQ.refl _)
theorem nN(hL:jt prog w A E s κ kd){lo nrem:Nat}{st:SortSt}{Q:Option Nat→SortSt→Prop}{P S:List Keyed}(hk:kindOf st=kd)(ks:∀x∈S,gC κ x)(he0:(arrOf st).toList=P++S)(hlo:lo=P.length)(hn:S.length=nrem)(h1:1≤nrem)
  (q:∀n st' M O R,1≤n→n≤nrem→t9 κ st P S n M O R st'→Q (some n) st'):wpS (model prog w) A E s (t4 lo nrem) Q st:=by
 have a0:∃M O R,t9 κ st P S 1 M O R st:=by
  cases S with
  |nil=>rw[←hn]at h1;cases h1
  |cons x R=>exact⟨[x],[x],R,he0,rfl,rfl,rfl,pairwise_singleton _ _,cQ.refl _,tJ.refl _⟩
 refine wpS_bind (wpS_mono (wpS_forRange (I:=fun x c st'=>c=(none,x)∧∃M O R,t9 κ st P S x M O R st')
  (Q:=fun c st'=>∃n,c=(none,n)∧(1≤n∧n≤nrem)∧∃M O R,t9 κ st P S n M O R st'∧(R=[]∨∃c z y R',M=c++[z]∧R=y::R'∧κ.klt (key κ y) (key κ z))) ?step ?fin ⟨rfl,a0⟩) ?post)
 case step=>
  rintro x c st' hx0 hx ⟨rfl,M,O,R,he,hS,hM,hO,sM,tM,cg⟩
  dsimp only
  cases R with
  |nil=>rw[hS,append_nil,hO]at hn;omega
  |cons y R=>
  obtain⟨c,z,rfl⟩:=jY (show 1≤M.length by omega)
  have kM:gC κ z:=ks z (by rw[hS];exact mem_append_left _ (tM.mem.mp (mem_append_right _ (mem_singleton_self _))))
  have ky:gC κ y:=ks y (by rw[hS];exact mem_append_right _ mem_cons_self)
  rw[length_append]at hM
  have hM':c.length+1=x:=hM
  refine wpS_bind (gc hL (cg.kind.trans hk) (by rw[he];exact lZ (by rw[length_append];show _=_+(c.length+1);omega)) (by rw[he];exact jS (by omega)) ky kM ?_)
  dsimp only
  cases hb:κ.blt (key κ y) (key κ z) with
  |true=>exact wpS_pure ⟨x,rfl,⟨by omega,by omega⟩,c++[z],O,y::R,⟨he,hS,by rw[length_append];exact hM,hO,sM,tM,cg⟩,.inr ⟨c,z,y,R,rfl,rfl,hb⟩⟩
  |false=>exact wpS_pure ⟨rfl,(c++[z])++[y],O++[y],R,by rw[he,append_assoc _ [y]];rfl,by rw[hS,append_assoc];rfl,by rw[length_append,length_append];show c.length+1+1=_;omega,by rw[length_append];show O.length+1=_;omega,sM.snoc (sM.yN hb),tM.append (cQ.refl _),cg⟩
 case fin=>
  rintro c st' ⟨rfl,M,O,R,h⟩
  have hR:R=[]:=by
   have h3:=h.s
   rw[h3,length_append,h.o]at hn
   exact eq_nil_of_length_eq_zero (by omega)
  exact⟨_,rfl,⟨by omega,by omega⟩,M,O,R,h,.inl hR⟩
 case post=>
  rintro c st1 ⟨n,rfl,nn,M,O,R,h,hR⟩
  dsimp only
  refine cM (fun c1=>wpS_pure (q n st1 M O R nn.1 nn.2 h)) (fun c1=>?_)
  rw[beq_iff_eq]at c1
  rcases hR with rfl|⟨c,z,y,R,rfl,rfl,lt⟩
  ·exfalso
   rw[h.s,append_nil,h.o]at hn
   exact c1 hn
  have nn1:=nn.1
  have nn2:=nn.2
  have hm:=h.m
  rw[length_append]at hm
  have hm':c.length+1=n:=hm
  have hz:z∈c++[z]:=mem_append_right _ (mem_singleton_self _)
  have kof:∀u∈c++[z],gC κ u:=fun u hu=>ks u (by rw[h.s];exact mem_append_left _ (h.tm.mem.mp hu))
  have start:∀{C:List Keyed}{st2:SortSt},tJ st st2→(arrOf st2).toList=P++(C++y::R)→C.reverse=c++[z]→(∀u∈c++[z],κ.kle (key κ z) (key κ u))→yo κ st P S (n+1) 0 C [y] (O++[y]) R st2:=fun {C st2} cg e r al=>by
   have cl:C.length=n:=by rw[←length_reverse,r,length_append];exact hm'
   refine⟨by rw[e,append_assoc];rfl,by rw[h.s,append_assoc];rfl,by rw[length_append,h.o];rfl,by rw[cl];rfl,rfl,by rw[r];exact h.sm,fun a ha b hb=>?_,fun a ha b hb=>?_,by rw[r];exact h.tm.append (cQ.refl _),cg⟩
   ·cases mem_singleton.mp ha
    exact KeyOrd.klt_of_klt_of_kle lt (al b (by rw[←r];exact mem_reverse.mpr hb))
   ·cases mem_singleton.mp ha
    cases mem_singleton.mp hb
    exact KeyOrd.kle_refl _
  refine cM (fun c2=>?_) (fun c2=>?_)
  obtain⟨f,c',rfl⟩:∃f c',c=f::c':=by
   cases c with
   |nil=>have:0+1=n:=hm';omega
   |cons f c'=>exact⟨f,c',rfl⟩
  refine wpS_bind (gc hL (h.cg.kind.trans hk) (x:=f) (y:=z) (by rw[h.e];exact lO hlo) (by rw[h.e];exact jS (by omega)) (kof f mem_cons_self) (kof z hz) ?_)
  dsimp only
  refine cM (fun hb=>wpS_pure (q n st1 _ _ _ nn1 nn2 h)) (fun hb=>?_)
  refine wpS_bind (jI h.e hlo (by rw[length_append];show _=_+(_+1);omega) fun st2 cg2 e2=>?_)
  have d0:=start (h.cg.trans cg2) e2 (reverse_reverse _) fun u hu=>KeyOrd.kle_trans (show κ.kle (key κ z) (key κ f) from eq_false_iff.mpr hb) (dj.head (x:=f) (l:=c'++[z]) h.sm f (mem_singleton_self _) u hu)
  rotate_left
  have c0:c=[]:=eq_nil_of_length_eq_zero (by omega)
  subst c0
  have d0:=start (C:=[z]) h.cg h.e rfl fun u hu=>by
   cases mem_singleton.mp hu
   exact KeyOrd.kle_refl _
  all_goals
   refine wpS_bind (wpS_lift (wpAny_rule ⟨rfl,?_⟩))
   refine wpS_bind (wpS_mono (wpS_forRange (I:=fun x c st'=>∃neq,c=(none,x,neq)∧∃C G O R,yo κ st P S x neq C G O R st')
    (Q:=fun c st'=>∃m neq,c=(none,m,neq)∧(1≤m∧m≤nrem)∧∃C G O R,yo κ st P S m neq C G O R st') ?_ ?_ ⟨0,rfl,_,_,_,_,d0⟩) ?_)
   ·rintro x c st' hx0 hx ⟨neq,rfl,C,G,O,R,d⟩
    dsimp only
    cases R with
    |nil=>rw[d.s,append_nil,d.o]at hn;omega
    |cons y R=>
    have dg:=d.g
    have dm:=d.m
    obtain⟨g,z,rfl⟩:=jY (show 1≤G.length by omega)
    have hz:z∈g++[z]:=mem_append_right _ (mem_singleton_self _)
    have kz:gC κ z:=ks z (by rw[d.s];exact mem_append_left _ (d.t.mem.mp (mem_append_right _ hz)))
    have ky:gC κ y:=ks y (by rw[d.s];exact mem_append_right _ mem_cons_self)
    rw[length_append]at dg dm
    have dg':g.length+1=neq+1:=dg
    have dm':C.length+(g.length+1)=x:=dm
    have py:(arrOf st').toList[lo+x]? =some y:=by rw[d.e];exact lZ (by rw[length_append,length_append];show _=_+(C.length+(g.length+1));omega)
    have pz:(arrOf st').toList[lo+x - 1]? =some z:=by rw[d.e,←append_assoc C];exact jS (by rw[length_append];omega)
    refine wpS_bind (gc hL (d.cg.kind.trans hk) py pz ky kz ?_)
    dsimp only
    cases hb:κ.blt (key κ y) (key κ z) with
    |true=>
     have u:Under κ [y] (g++[z]):=fun a ha b hb'=>by
      cases mem_singleton.mp ha
      exact KeyOrd.klt_of_klt_of_kle (show κ.klt _ _ from hb) (d.gg z hz b hb')
     rw[if_pos rfl]
     refine cM (fun c2=>?_) (fun c2=>?_)
     ·refine wpS_bind (jI (P:=P++C) (G:=g++[z]) (R:=y::R) (d.e.trans qc) (by rw[length_append];omega) (by rw[length_append];show _=_+(g.length+1);omega) fun st3 cg3 e3=>?_)
      exact wpS_pure ⟨0,rfl,_,_,_,_,d.less u (by rw[length_append];show 1≤_+1;omega) cg3 e3⟩
     ·have g0:g=[]:=eq_nil_of_length_eq_zero (by omega)
      subst g0
      exact wpS_pure ⟨0,rfl,_,_,_,_,d.less u (le_refl 1) (tJ.refl _) (d.e.trans qc)⟩
    |false=>
     rw[if_neg Bool.false_ne_true]
     refine wpS_bind (gc hL (d.cg.kind.trans hk) pz py kz ky ?_)
     dsimp only
     cases hb2:κ.blt (key κ z) (key κ y) with
     |true=>exact wpS_pure ⟨x,neq,rfl,⟨by omega,by omega⟩,C,g++[z],O,y::R,d⟩
     |false=>exact wpS_pure ⟨neq+1,rfl,_,_,_,_,d.same hz hb hb2⟩
   ·rintro c st' ⟨neq,rfl,C,G,O,R,d⟩
    have:=d.s
    have:=d.o
    exact⟨_,neq,rfl,⟨by omega,by rw[d.s,length_append,d.o]at hn;omega⟩,C,G,O,R,d⟩
   ·rintro c st3 ⟨m,neq,rfl,mm,C,G,O,R,d⟩
    dsimp only
    have dg:=d.g
    have dm:=d.m
    have hm1:=mm.1
    have hm2:=mm.2
    refine cM (fun c2=>?_) (fun c2=>?_)
    refine wpS_bind (jI (P:=P++C) (G:=G) (R:=R) (d.e.trans qc) (by rw[length_append];omega) (by omega) fun st4 cg4 e4=>?_)
    refine wpS_bind (jI (P:=P) (G:=C++G.reverse) (R:=R) (e4.trans qc.symm) hlo (by rw[length_append,length_reverse];omega) fun st5 cg5 e5=>?_)
    have up:=d.up (cg4.trans cg5) (by rw[e5,reverse_append,reverse_reverse])
    rotate_left
    refine wpS_bind (jI (P:=P) (G:=C++G) (R:=R) d.e hlo (by rw[length_append];omega) fun st5 cg5 e5=>?_)
    have G1:G.reverse=G:=by
     obtain⟨g,z,rfl⟩:=jY (show 1≤G.length by omega)
     rw[length_append]at dg
     rw[eq_nil_of_length_eq_zero (show g.length=0 by have:g.length+1=neq+1:=dg;omega)]
     rfl
    have up:=d.up cg5 (by rw[e5,reverse_append,G1])
    all_goals
     refine wpS_bind (wpS_mono (wpS_forRange (I:=fun x c st'=>c=(none,x)∧∃M O R,t9 κ st P S x M O R st')
      (Q:=fun c st'=>∃n,c=(none,n)∧(1≤n∧n≤nrem)∧∃M O R,t9 κ st P S n M O R st'∧(R=[]∨∃c z y R',M=c++[z]∧R=y::R'∧κ.klt (key κ y) (key κ z))) ?_ ?_ ⟨rfl,_,_,_,up⟩) ?_)
     ·rintro x c st' hx0 hx ⟨rfl,M,O,R,he,hS,hM,hO,sM,tM,cg⟩
      dsimp only
      cases R with
      |nil=>rw[hS,append_nil,hO]at hn;omega
      |cons y R=>
      obtain⟨c,z,rfl⟩:=jY (show 1≤M.length by omega)
      have kM:gC κ z:=ks z (by rw[hS];exact mem_append_left _ (tM.mem.mp (mem_append_right _ (mem_singleton_self _))))
      have ky:gC κ y:=ks y (by rw[hS];exact mem_append_right _ mem_cons_self)
      rw[length_append]at hM
      have hM':c.length+1=x:=hM
      refine wpS_bind (gc hL (cg.kind.trans hk) (by rw[he];exact lZ (by rw[length_append];show _=_+(c.length+1);omega)) (by rw[he];exact jS (by omega)) ky kM ?_)
      dsimp only
      cases hb:κ.blt (key κ y) (key κ z) with
      |true=>exact wpS_pure ⟨x,rfl,⟨by omega,by omega⟩,c++[z],O,y::R,⟨he,hS,by rw[length_append];exact hM,hO,sM,tM,cg⟩,.inr ⟨c,z,y,R,rfl,rfl,hb⟩⟩
      |false=>exact wpS_pure ⟨rfl,(c++[z])++[y],O++[y],R,by rw[he,append_assoc _ [y]];rfl,by rw[hS,append_assoc];rfl,by rw[length_append,length_append];show c.length+1+1=_;omega,by rw[length_append];show O.length+1=_;omega,sM.snoc (sM.yN hb),tM.append (cQ.refl _),cg⟩
     ·rintro c st' ⟨rfl,M,O,R,h⟩
      have hR:R=[]:=by
       have h3:=h.s
       rw[h3,length_append,h.o]at hn
       exact eq_nil_of_length_eq_zero (by omega)
      exact⟨_,rfl,⟨by omega,by omega⟩,M,O,R,h,.inl hR⟩
     ·rintro c st' ⟨n,rfl,nn,M,O,R,h,_⟩
      exact wpS_pure (q n st' M O R nn.1 nn.2 h)
end
end TS
namespace TS
open PySem PyProof.Rows
variable {κ:KeyKind}
def oQ:Nat→StateT SortSt Sem Bool:=sortPriv% PySem.Builtin.mergeAt
section
variable {prog:Program}{w:World}{A:Around}{E:Value→Shared→Prop}{s:Shared}{kd:SortKind}
theorem dj.get{l:List Keyed}(h:dj κ l){i j:Nat}{x y:Keyed}(ij:i≤j)(hx:l[i]? =some x)(hy:l[j]? =some y):κ.kle (key κ x) (key κ y):=by
 have:=dj.at (κ:=κ) (l:=l) (b:=0) (n:=l.length) (i:=i) (j:=j) (x:=x) (y:=y) (by rw[drop_zero,take_length];exact h) ij (List.getElem?_eq_some_iff.mp hy).1 (by rw[zero_add];exact hx) (by rw[zero_add];exact hy)
 exact this
theorem t9.ins{st0:SortSt}{P S M O R:List Keyed}{k l:Nat}{st st':SortSt}{y:Keyed}(h:t9 κ st0 P S k M O (y::R) st)(b:Below κ (M.take l) [y])(u:Under κ [y] (M.drop l))(cg:tJ st st')(e:(arrOf st').toList=(P++M.take l)++(y::M.drop l++R)):t9 κ st0 P S (k+1) (M.take l++(y::M.drop l)) (O++[y]) R st':=by
 have ml:=h.m
 have sp:M.take l++M.drop l=M:=take_append_drop l M
 have sm:=h.sm
 rw[←sp]at sm
 refine⟨by rw[e,←qc],by rw[h.s,append_assoc];rfl,?_,by rw[length_append,h.o];rfl,?_,?_,h.cg.trans cg⟩
 ·have:=congrArg List.length sp
  rw[length_append]at this ⊢
  show _+(_+1)=_
  omega
 ·refine sm.left.append (pairwise_cons.mpr ⟨fun z hz=>KeyOrd.kle_of_klt (u y (mem_singleton_self _) z hz),sm.right⟩) fun a ha c hc=>?_
  rcases mem_cons.mp hc with rfl|hc
  ·exact b a ha c (mem_singleton_self _)
  ·exact sm.mid a ha c hc
 ·have t:cQ κ (M.take l++(y::M.drop l)) (M++[y]):=by
   have:cQ κ (M.take l++([y]++M.drop l)) (M.take l++(M.drop l++[y])):=(cQ.refl _).append (cQ.swap u)
   rw[←append_assoc (M.take l) (M.drop l),sp]at this
   exact this
  exact t.trans (h.tm.append (cQ.refl _))
theorem kC(hL:jt prog w A E s κ kd){lo n ok:Nat}{st0 st:SortSt}{Q:Bool→SortSt→Prop}{P S M O R:List Keyed}(hk:kindOf st0=kd)(ks:∀x∈S,gC κ x)(hlo:lo=P.length)(hn:n≤S.length)(h1:1≤ok)(hok:ok≤n)(h:t9 κ st0 P S ok M O R st)
  (q:∀st' M O R,t9 κ st0 P S n M O R st'→Q true st'):wpS (model prog w) A E s (qz lo n ok) Q st:=by
 refine wpS_bind (wpS_mono (wpS_forRange (I:=fun k c st'=>c=(none,())∧∃M O R,t9 κ st0 P S k M O R st')
  (Q:=fun c st'=>c=(none,())∧∃M O R,t9 κ st0 P S n M O R st') ?step ?fin ⟨rfl,M,O,R,by rw[show max ok 1=ok by omega];exact h⟩) ?post)
 case post=>
  rintro c st' ⟨rfl,M,O,R,h⟩
  exact wpS_pure (q st' M O R h)
 case fin=>
  rintro c st' ⟨rfl,M,O,R,h⟩
  rw[show max (max ok 1) n=n by omega]at h
  exact⟨rfl,M,O,R,h⟩
 case step=>
  rintro k c st1 hk0 hkn ⟨rfl,M,O,R,h⟩
  cases R with
  |nil=>have e:=h.s;rw[append_nil]at e;rw[e,h.o]at hn;omega
  |cons y R=>
  have hM:=h.m
  have ky:gC κ y:=ks y (by rw[h.s];exact mem_append_right _ mem_cons_self)
  refine wpS_bind (wpS_mono (wpS_forRange (I:=fun x c st'=>st'=st1∧∃l r,c=(none,l,r)∧l≤r∧r≤k∧r - l≤k - x∧(∀i u,i < l→M[i]? =some u→κ.kle (key κ u) (key κ y))∧(∀i u,r≤i→M[i]? =some u→κ.klt (key κ y) (key κ u)))
   (Q:=fun c st'=>st'=st1∧∃l,c=(none,l,l)∧l≤k∧(∀i u,i < l→M[i]? =some u→κ.kle (key κ u) (key κ y))∧(∀i u,l≤i→M[i]? =some u→κ.klt (key κ y) (key κ u))) ?istep ?ifin ⟨rfl,0,k,rfl,by omega,by omega,by omega,fun i u hi=>by omega,fun i u hi hu=>by have:=(List.getElem?_eq_some_iff.mp hu).1;omega⟩) ?ipost)
  case ifin=>
   rintro c st' ⟨rfl,l,r,rfl,lr,rk,rl,g1,g2⟩
   have e:l=r:=by omega
   subst e
   exact⟨rfl,l,rfl,rk,g1,g2⟩
  case istep=>
   rintro x c st' _ hx ⟨rfl,l,r,rfl,lr,rk,rl,g1,g2⟩
   dsimp only
   refine cM (fun c1=>?_) (fun c1=>?_)
   ·have e:l=r:=by omega
    subst e
    exact wpS_pure ⟨rfl,l,rfl,rk,g1,g2⟩
   obtain⟨z,hz⟩:∃z,M[(l+r) / 2]? =some z:=⟨_,getElem?_eq_getElem (by omega)⟩
   have kz:gC κ z:=ks z (by rw[h.s];exact mem_append_left _ (h.tm.mem.mp (mem_of_getElem? hz)))
   refine wpS_bind (gc hL (h.cg.kind.trans hk) (x:=y) (y:=z) (by rw[h.e];exact lZ (by omega)) (by rw[h.e,getElem?_append_right (by omega),getElem?_append_left (by omega),←hz];congr 1;omega) ky kz ?_)
   dsimp only
   cases hb:κ.blt (key κ y) (key κ z) with
   |true=>exact wpS_pure ⟨rfl,l,(l+r) / 2,rfl,by omega,by omega,by omega,g1,fun i u hi hu=>KeyOrd.klt_of_klt_of_kle (show κ.klt _ _ from hb) (h.sm.get hi hz hu)⟩
   |false=>exact wpS_pure ⟨rfl,(l+r) / 2+1,r,rfl,by omega,by omega,by omega,fun i u hi hu=>KeyOrd.kle_trans (h.sm.get (by omega) hu hz) (show κ.kle _ _ from hb),g2⟩
  case ipost=>
   rintro c st' ⟨rfl,l,rfl,lk,g1,g2⟩
   dsimp only
   have e1:(arrOf st').toList=(P++M.take l)++(M.drop l++y::R):=by rw[h.e,←qc,take_append_drop]
   have tl:(M.take l).length=l:=by rw[length_take];omega
   have dl:(M.drop l).length=k - l:=by rw[length_drop];omega
   refine wpS_bind (zp e1 (by rw[length_append];omega) (by rw[length_append];omega) fun st2 cg2 e2=>wpS_pure ⟨rfl,_,_,_,h.ins (l:=l) (fun a ha b hb=>?_) (fun b hb a ha=>?_) cg2 e2⟩)
   ·cases mem_singleton.mp hb
    obtain⟨i,hi⟩:=getElem?_of_mem ha
    have il:=(List.getElem?_eq_some_iff.mp hi).1
    rw[getElem?_take_of_lt (by omega)]at hi
    exact g1 i a (by omega) hi
   ·cases mem_singleton.mp hb
    obtain⟨i,hi⟩:=getElem?_of_mem ha
    rw[getElem?_drop]at hi
    exact g2 (l+i) a (by omega) hi
theorem vV{L P X Y:List Keyed}(e:L=P++(X++Y)){i m:Nat}(hi:i=P.length)(hm:m≤X.length):(L.drop i).take m=X.take m:=by
 rw[e,hi,List.drop_left,List.take_append_of_le_length hm]
theorem Cj{L P X Y:List Keyed}(e:L=P++(X++Y)){i k n:Nat}(hi:i=P.length)(hn:n=X.length)(hk:k≤n):(L.drop (i+k)).take (n - k)=X.drop k:=by
 have:L=(P++X.take k)++(X.drop k++Y):=by rw[e,←qc,take_append_drop]
 rw[vV this (by rw[length_append,length_take];omega) (by rw[length_drop];omega)]
 exact take_of_length_le (by rw[length_drop];omega)
theorem oN{A1 A2 B1 B2 M:List Keyed}(sa:dj κ (A1++A2))(sb:dj κ (B1++B2))(b1:Below κ A1 (B1++B2))(b2:Below κ (A1++A2) B2)(sm:dj κ M)(tm:cQ κ M (A2++B1)):dj κ (A1++(M++B2))∧cQ κ (A1++(M++B2)) ((A1++A2)++(B1++B2)):=by
 have mm:∀x∈M,x∈A2∨x∈B1:=fun x hx=>mem_append.mp (tm.mem.mp hx)
 refine⟨sa.left.append (sm.append sb.right fun x hx y hy=>?_) fun x hx y hy=>?_,?_⟩
 ·exact(mm x hx).elim (fun h=>b2 x (mem_append_right _ h) y hy) (fun h=>sb.mid x h y hy)
 ·rcases mem_append.mp hy with hy|hy
  ·exact(mm y hy).elim (fun h=>sa.mid x hx y h) (fun h=>b1 x hx y (mem_append_left _ h))
  ·exact b2 x (mem_append_left _ hx) y hy
 ·have:cQ κ (A1++(M++B2)) (A1++((A2++B1)++B2)):=(cQ.refl _).append (tm.append (cQ.refl _))
  rw[append_assoc A1 A2,←append_assoc A2 B1 B2]
  exact this
theorem Be{l:List Keyed}(h:1≤l.length):∃x r,l=x::r:=by
 cases l with
 |nil=>cases h
 |cons x r=>exact⟨x,r,rfl⟩
structure Mg(κ:KeyKind)(st st':SortSt)(P X Y R:List Keyed)(pend:Array (Nat×Nat×Nat)):Prop where
 kind:kindOf st'=kindOf st
 failed:failedOf st'=failedOf st
 pend:pendingOf st'=pend
 ex:∃M,(arrOf st').toList=P++(M++R)∧dj κ M∧cQ κ M (X++Y)
theorem Aq{σ:Type}{M:Model}{A:Around}{E:Value→Shared→Prop}{s:Shared}{st' st:σ}{Q:PUnit→σ→Prop}(h:Q ⟨⟩ st'):wpS M A E s (set st':StateT σ Sem PUnit) Q st:=by
 unfold wpS
 rw[StateT.run_set]
 exact wpAny_pure ⟨rfl,h⟩
theorem n5(hL:jt prog w A E s κ kd){st:SortSt}{Q:Bool→SortSt→Prop}{P X Y R:List Keyed}{i sa na pa sb nb pb:Nat}(hk:kindOf st=kd)(hf:failedOf st=none)(ks:∀x∈(arrOf st).toList,gC κ x)(p1:(pendingOf st)[i]? =some (sa,na,pa))(p2:(pendingOf st)[i+1]? =some (sb,nb,pb))
  (e:(arrOf st).toList=P++(X++(Y++R)))(ha:sa=P.length)(hx:na=X.length)(hb:sb=sa+na)(hy:nb=Y.length)(x1:1≤na)(y1:1≤nb)(sx:dj κ X)(sy:dj κ Y)
  (q:∀st',Mg κ st st' P X Y R (((pendingOf st).setIfInBounds i (sa,na+nb,pa)).eraseIdxIfInBounds (i+1))→Q true st'):wpS (model prog w) A E s (oQ i) Q st:=by
 refine wpS_bind (wpS_get ?_)
 rw[p1,p2]
 dsimp only
 refine wpS_bind (Aq ?_)
 have sz:(arrOf st).size=P.length+(X.length+(Y.length+R.length)):=by rw[←length_toList,e,length_append,length_append,length_append]
 have e':(arrOf st).toList=(P++X)++(Y++R):=by rw[e,append_assoc]
 obtain⟨y0,Y',hY⟩:=Be (show 1≤Y.length by omega)
 obtain⟨c,z,hX⟩:=jY (show 1≤X.length by omega)
 have cl:c.length+1=na:=by rw[hx,hX,length_append];rfl
 have ey:(arrOf st)[sb]? =some y0:=by
  rw[←getElem?_toList,e',hY]
  exact lO (by rw[length_append];omega)
 have ez:∀k,k≤na→0 < na - k→(arrOf st)[sa+k+(na - k) - 1]? =some z:=fun k h1 h2=>by
  rw[←getElem?_toList,e,hX]
  exact jS (by omega)
 have kX:∀u∈X,gC κ u:=fun u hu=>ks u (by rw[e];exact mem_append_right _ (mem_append_left _ hu))
 have kY:∀u∈Y,gC κ u:=fun u hu=>ks u (by rw[e];exact mem_append_right _ (mem_append_right _ (mem_append_left _ hu)))
 have by0:Below κ [y0] Y:=by rw[hY]at sy ⊢;exact sy.head
 have lastz:Below κ X [z]:=by rw[hX]at sx ⊢;exact sx.yN (KeyOrd.kle_refl _)
 refine wpS_bind (cR ey (wpS_bind (l7 hL hk (kY y0 (by rw[hY];exact mem_cons_self)) ks (show sa+na≤(arrOf st).size by omega) (by rw[vV e ha (by omega)];exact sx.take _) (by omega) fun k hk1 bl un=>?_)))
 rw[vV e ha (by omega)]at bl
 rw[Cj e ha hx hk1]at un
 dsimp only
 refine cM (fun c1=>?_) (fun c1=>?_)
 ·rw[beq_iff_eq]at c1
  rw[take_of_length_le (by omega)]at bl
  exact wpS_pure (q _ ⟨rfl,rfl,rfl,X++Y,by rw[append_assoc];exact e,sx.append sy (Below.over bl by0),cQ.refl _⟩)
 rw[beq_iff_eq]at c1
 refine wpS_bind (cR (ez k hk1 (by omega)) (wpS_bind (mD hL hk (kX z (by rw[hX];exact mem_append_right _ (mem_singleton_self _))) ks (show sb+nb≤(arrOf st).size by omega) (by rw[vV e' (by rw[length_append];omega) (by omega)];exact sy.take _) (by omega) fun m hm ul bl2=>?_)))
 rw[vV e' (by rw[length_append];omega) (by omega)]at ul
 rw[Cj e' (by rw[length_append];omega) hy hm]at bl2
 dsimp only
 refine cM (fun c2=>?_) (fun c2=>?_)
 ·rw[beq_iff_eq]at c2
  rw[c2,drop_zero]at bl2
  exact wpS_pure (q _ ⟨rfl,rfl,rfl,X++Y,by rw[append_assoc];exact e,sx.append sy (Below.over lastz bl2),cQ.refl _⟩)
 rw[beq_iff_eq]at c2
 have hax:((arrOf st).extract (sa+k) sb).toList=X.drop k:=by
  rw[toList_extract]
  have:=Cj e ha hx hk1
  rw[show na - k=sb - (sa+k) by omega]at this
  exact this
 have hay:((arrOf st).extract sb (sb+m)).toList=Y.take m:=by
  rw[m6]
  exact vV e' (by rw[length_append];omega) (by omega)
 have lax:((arrOf st).extract (sa+k) sb).size=na - k:=by rw[←length_toList,hax,length_drop];omega
 have lay:((arrOf st).extract sb (sb+m)).size=m:=by rw[←length_toList,hay,length_take];omega
 generalize (arrOf st).extract (sa+k) sb=ax at hax lax
 generalize (arrOf st).extract sb (sb+m)=ay at hay lay
 have ka:∀u∈ax.toList,gC κ u:=fun u hu=>kX u (mem_of_mem_drop (by rw[←hax];exact hu))
 have kb:∀u∈ay.toList,gC κ u:=fun u hu=>kY u (mem_of_mem_take (by rw[←hay];exact hu))
 have sax:dj κ ax.toList:=by rw[hax];exact sx.drop k
 have say:dj κ ay.toList:=by rw[hay];exact sy.take m
 have u1:Under κ (ay.toList.take 1) ax.toList:=by
  rw[hay,hax,List.take_take,hY,min_eq_left (by omega)]
  exact un
 have u2:Under κ ay.toList (ax.toList.drop (ax.size - 1)):=by
  rw[hay,hax,lax,List.drop_drop,hX,List.drop_left' (by omega)]
  exact ul
 refine cM (fun _=>?_) (fun _=>?_)
 ·refine wpS_bind (sE hL hk ka kb sax say (by omega) (by omega) u1 u2 ?_)
  intro r st4 kp mr
  have rl:r.toList.length=(X.drop k++Y.take m).length:=by rw[←hax,←hay];exact mr.2.perm.length_eq
  refine wpS_bind (wpS_modify (wpS_bind (wpS_get (wpS_pure ?_))))
  show Q (failedOf st4).isNone _
  rw[kp.failed.trans hf]
  have mr2:=mr.2
  rw[hax,hay]at mr2
  have fin:=oN (A1:=X.take k) (A2:=X.drop k) (B1:=Y.take m) (B2:=Y.drop m) (by rw[take_append_drop];exact sx) (by rw[take_append_drop];exact sy) (by rw[take_append_drop];exact Below.over bl by0) (by rw[take_append_drop];exact Below.over lastz bl2) mr.1 mr2
  rw[take_append_drop,take_append_drop]at fin
  refine q _ ⟨kp.kind,kp.failed,kp.pend,_,?_,fin.1,fin.2⟩
  refine(jk r.toList 0 (sa+k) (arrOf st4) (P++X.take k) (X.drop k++Y.take m) (Y.drop m++R) ?_ rl ?_).trans ?_
  ·rw[kp.arr,←qc,←append_assoc (X.take k),take_append_drop,append_assoc X,←append_assoc (Y.take m),take_append_drop]
   exact e
  ·rw[length_append,length_take]
   omega
  ·rw[append_assoc P,append_assoc (X.take k),append_assoc r.toList]
 ·refine wpS_bind (q9 hL hk ka kb sax say (by omega) (by omega) u1 u2 ?_)
  intro r st4 kp mr
  have rl:r.toList.length=(X.drop k++Y.take m).length:=by rw[←hax,←hay];exact mr.2.perm.length_eq
  refine wpS_bind (wpS_modify (wpS_bind (wpS_get (wpS_pure ?_))))
  show Q (failedOf st4).isNone _
  rw[kp.failed.trans hf]
  have mr2:=mr.2
  rw[hax,hay]at mr2
  have fin:=oN (A1:=X.take k) (A2:=X.drop k) (B1:=Y.take m) (B2:=Y.drop m) (by rw[take_append_drop];exact sx) (by rw[take_append_drop];exact sy) (by rw[take_append_drop];exact Below.over bl by0) (by rw[take_append_drop];exact Below.over lastz bl2) mr.1 mr2
  rw[take_append_drop,take_append_drop]at fin
  refine q _ ⟨kp.kind,kp.failed,kp.pend,_,?_,fin.1,fin.2⟩
  refine(jk r.toList 0 (sa+k) (arrOf st4) (P++X.take k) (X.drop k++Y.take m) (Y.drop m++R) ?_ rl ?_).trans ?_
  ·rw[kp.arr,←qc,←append_assoc (X.take k),take_append_drop,append_assoc X,←append_assoc (Y.take m),take_append_drop]
   exact e
  ·rw[length_append,length_take]
   omega
  ·rw[append_assoc P,append_assoc (X.take k),append_assoc r.toList]
end
end TS
namespace TS
open PySem PyProof.Rows
variable {κ:KeyKind}
def tX:StateT SortSt Sem Unit:=sortPriv% PySem.Builtin.sortRuns
def fX(κ:KeyKind):Nat→List (Nat×Nat×Nat)→List (List Keyed)→Prop
 |_,[],[]=>True
 |off,p::ps,r::rs=>p.1=off∧p.2.1=r.length∧1≤p.2.1∧dj κ r∧fX κ (off+p.2.1) ps rs
 |_,_,_=>False
theorem fX.merge:∀(i off:Nat) (ps:List (Nat×Nat×Nat)) (rs:List (List Keyed)),fX κ off ps rs→i+1 < ps.length→
  ∃rs1 X Y rs2 sa na pa sb nb pb,ps[i]? =some (sa,na,pa)∧ps[i+1]? =some (sb,nb,pb)∧rs=rs1++(X::Y::rs2)∧sa=off+rs1.flatten.length∧na=X.length∧sb=sa+na∧nb=Y.length∧1≤na∧1≤nb∧dj κ X∧dj κ Y∧
   ∀M,dj κ M→M.length=na+nb→fX κ off ((ps.set i (sa,na+nb,pa)).eraseIdx (i+1)) (rs1++(M::rs2))
 |0,off,[],_,_,l=>by cases l
 |0,off,[p],_,_,l=>by have:1 < 1:=l;omega
 |0,off,(sa,na,pa)::(sb,nb,pb)::ps,[],t,_=>t.elim
 |0,off,(sa,na,pa)::(sb,nb,pb)::ps,[X],t,_=>t.2.2.2.2.elim
 |0,off,(sa,na,pa)::(sb,nb,pb)::ps,X::Y::rs,⟨h1,h2,h3,h4,h5,h6,h7,h8,h9⟩,_=>by
  dsimp only at h1 h2 h3 h5 h6 h7 h9
  subst h1
  refine⟨[],X,Y,rs,sa,na,pa,sb,nb,pb,rfl,rfl,rfl,rfl,h2,h5,h6,h3,h7,h4,h8,fun M sm ml=>⟨rfl,ml.symm,?_,sm,?_⟩⟩
  ·show 1≤na+nb
   omega
  ·show fX κ (sa+(na+nb)) ps rs
   rw[←Nat.add_assoc]
   exact h9
 |i+1,off,[],_,_,l=>by cases l
 |i+1,off,p::ps,[],t,_=>t.elim
 |i+1,off,p::ps,r::rs,⟨h1,h2,h3,h4,h5⟩,l=>by
  obtain⟨rs1,X,Y,rs2,sa,na,pa,sb,nb,pb,g1,g2,g3,g4,g5,g6,g7,g8,g9,g10,g11,g12⟩:=fX.merge i _ ps rs h5 (Nat.lt_of_succ_lt_succ l)
  refine⟨r::rs1,X,Y,rs2,sa,na,pa,sb,nb,pb,g1,g2,by rw[g3];rfl,?_,g5,g6,g7,g8,g9,g10,g11,fun M sm ml=>⟨h1,h2,h3,h4,g12 M sm ml⟩⟩
  rw[flatten_cons,length_append,←h2]
  omega
theorem fX.push:∀{off:Nat}{ps:List (Nat×Nat×Nat)}{rs:List (List Keyed)}{M:List Keyed}{pw:Nat},fX κ off ps rs→dj κ M→1≤M.length→fX κ off (ps++[(off+rs.flatten.length,M.length,pw)]) (rs++[M])
 |off,[],[],M,pw,_,sm,ml=>⟨by rw[flatten_nil];rfl,rfl,ml,sm,trivial⟩
 |off,[],_::_,M,pw,t,_,_=>t.elim
 |off,_::_,[],M,pw,t,_,_=>t.elim
 |off,p::ps,r::rs,M,pw,⟨h1,h2,h3,h4,h5⟩,sm,ml=>by
  refine⟨h1,h2,h3,h4,?_⟩
  have:=fX.push (pw:=pw) h5 sm ml
  rw[flatten_cons,length_append,←h2,←Nat.add_assoc]
  exact this
theorem fX.power:∀(i:Nat){off:Nat}{ps:List (Nat×Nat×Nat)}{rs:List (List Keyed)}{pw:Nat},fX κ off ps rs→fX κ off (ps.modify i fun p=>(p.1,p.2.1,pw)) rs
 |0,off,[],[],pw,_=>trivial
 |0,off,[],_::_,pw,t=>t.elim
 |0,off,_::_,[],pw,t=>t.elim
 |0,off,p::ps,r::rs,pw,t=>t
 |i+1,off,[],[],pw,_=>trivial
 |i+1,off,[],_::_,pw,t=>t.elim
 |i+1,off,_::_,[],pw,t=>t.elim
 |i+1,off,p::ps,r::rs,pw,⟨h1,h2,h3,h4,h5⟩=>⟨h1,h2,h3,h4,fX.power i h5⟩
theorem fX.len:∀{off:Nat}{ps:List (Nat×Nat×Nat)}{rs:List (List Keyed)},fX κ off ps rs→ps.length≤rs.flatten.length
 |off,[],[],_=>zero_le _
 |off,[],_::_,t=>t.elim
 |off,_::_,[],t=>t.elim
 |off,p::ps,r::rs,⟨h1,h2,h3,h4,h5⟩=>by
  have:=fX.len h5
  rw[flatten_cons,length_append,←h2]
  show ps.length+1≤_
  omega
theorem fX.one{ps:List (Nat×Nat×Nat)}{rs:List (List Keyed)}{off:Nat}(t:fX κ off ps rs)(h:ps.length≤1):dj κ rs.flatten:=by
 cases ps with
 |nil=>
  cases rs with
  |nil=>exact List.Pairwise.nil
  |cons r rs=>exact t.elim
 |cons p ps=>
  cases ps with
  |cons p' ps=>have:ps.length+1+1≤1:=h;omega
  |nil=>
   cases rs with
   |nil=>exact t.elim
   |cons r rs=>
    cases rs with
    |nil=>rw[flatten_cons,flatten_nil,append_nil];exact t.2.2.2.1
    |cons r' rs=>exact t.2.2.2.2.elim
section
variable {prog:Program}{w:World}{A:Around}{E:Value→Shared→Prop}{s:Shared}{kd:SortKind}
theorem Cb{c:Prop} [Decidable c]{n:Nat}(h:1 < n):(if c then n - 2 - 1 else n - 2)+1 < n:=by
 split<;>omega
structure RI(κ:KeyKind)(kd:SortKind)(a₀:List Keyed)(lo:Nat)(S:List Keyed)(st:SortSt):Prop where
 kind:kindOf st=kd
 failed:failedOf st=none
 stb:cQ κ (arrOf st).toList a₀
 ex:∃Rs,fX κ 0 (pendingOf st).toList Rs∧(arrOf st).toList=Rs.flatten++S∧Rs.flatten.length=lo
theorem RI.keys{a₀ S:List Keyed}{lo:Nat}{st:SortSt}(h:RI κ kd a₀ lo S st)(ks:∀x∈a₀,gC κ x):∀x∈(arrOf st).toList,gC κ x:=fun x hx=>ks x (h.stb.mem.mp hx)
theorem jd(hL:jt prog w A E s κ kd){a₀ S:List Keyed}{lo i:Nat}{st:SortSt}{Q:Bool→SortSt→Prop}(ks:∀x∈a₀,gC κ x)(h:RI κ kd a₀ lo S st)(hi:i+1 < (pendingOf st).size)
  (q:∀st',RI κ kd a₀ lo S st'→(pendingOf st').size+1=(pendingOf st).size→Q true st'):wpS (model prog w) A E s (oQ i) Q st:=by
 obtain⟨Rs,t,e,l⟩:=h.ex
 obtain⟨rs1,X,Y,rs2,sa,na,pa,sb,nb,pb,g1,g2,rfl,g4,g5,g6,g7,g8,g9,g10,g11,g12⟩:=t.merge i 0 _ _ (by rw[length_toList];exact hi)
 rw[zero_add]at g4
 have e':(arrOf st).toList=rs1.flatten++(X++(Y++(rs2.flatten++S))):=by
  rw[e,flatten_append,flatten_cons,flatten_cons,append_assoc,append_assoc,append_assoc]
 refine n5 hL h.kind h.failed (h.keys ks) (by rw[←getElem?_toList];exact g1) (by rw[←getElem?_toList];exact g2) e' g4 g5 g6 g7 g8 g9 g10 g11 fun st' mg=>?_
 obtain⟨M,eM,sM,tM⟩:=mg.ex
 have ml:M.length=na+nb:=by rw[tM.perm.length_eq,length_append,g5,g7]
 have hpl:(pendingOf st').toList=((pendingOf st).toList.set i (sa,na+nb,pa)).eraseIdx (i+1):=by
  rw[mg.pend,Array.toList_eraseIdxIfInBounds,Array.toList_setIfInBounds]
 refine q st' ⟨mg.kind.trans h.kind,mg.failed.trans h.failed,cQ.trans ?_ h.stb,rs1++(M::rs2),by rw[hpl];exact g12 M sM ml,?_,?_⟩ ?_
 ·rw[eM,e',←append_assoc X]
  exact(cQ.refl _).append (tM.append (cQ.refl _))
 ·rw[eM,flatten_append,flatten_cons,append_assoc,append_assoc]
 ·rw[←l,flatten_append,flatten_append,flatten_cons,flatten_cons,flatten_cons,length_append,length_append,length_append,length_append,length_append]
  omega
 ·rw[←length_toList,hpl,List.length_eraseIdx,if_pos (by rw[List.length_set,length_toList];exact hi),List.length_set,length_toList]
  omega
theorem RI.push{a₀ M R:List Keyed}{lo n:Nat}{st st':SortSt}(h:RI κ kd a₀ lo (M++R) st)(sM:dj κ M)(ml:M.length=n)(n1:1≤n)(k:kindOf st'=kindOf st)(f:failedOf st'=failedOf st)(ar:arrOf st'=arrOf st)(pd:pendingOf st'=(pendingOf st).push (lo,n,0)):RI κ kd a₀ (lo+n) R st':=by
 obtain⟨Rs,t,e,l⟩:=h.ex
 refine⟨k.trans h.kind,f.trans h.failed,by rw[ar];exact h.stb,Rs++[M],?_,?_,?_⟩
 ·rw[pd,toList_push]
  have:=t.push (pw:=0) sM (by omega)
  rw[zero_add,l,ml]at this
  exact this
 ·rw[ar,e,flatten_append,flatten_cons,flatten_nil,append_nil,append_assoc]
 ·rw[flatten_append,flatten_cons,flatten_nil,append_nil,length_append,l,ml]
theorem RI.power{a₀ S:List Keyed}{lo i pw:Nat}{st st':SortSt}(h:RI κ kd a₀ lo S st)(k:kindOf st'=kindOf st)(f:failedOf st'=failedOf st)(ar:arrOf st'=arrOf st)(pd:pendingOf st'=(pendingOf st).modify i fun p=>(p.1,p.2.1,pw)):RI κ kd a₀ lo S st':=by
 obtain⟨Rs,t,e,l⟩:=h.ex
 exact⟨k.trans h.kind,f.trans h.failed,by rw[ar];exact h.stb,Rs,by rw[pd,Array.toList_modify];exact t.power i,by rw[ar];exact e,l⟩
theorem RI.Bd{a₀ M R:List Keyed}{lo n i pw:Nat}{st st':SortSt}(h:RI κ kd a₀ lo (M++R) st)(sM:dj κ M)(ml:M.length=n)(n1:1≤n)(k:kindOf st'=kindOf st)(f:failedOf st'=failedOf st)(ar:arrOf st'=arrOf st)(pd:pendingOf st'=((pendingOf st).modify i fun p=>(p.1,p.2.1,pw)).push (lo,n,0)):RI κ kd a₀ (lo+n) R st':=
 RI.push (st:=setPending st ((pendingOf st).modify i fun p=>(p.1,p.2.1,pw))) (h.power rfl rfl rfl rfl) sM ml n1 k f ar pd
theorem RI.asc{a₀ S M O R:List Keyed}{lo n:Nat}{st st':SortSt}{Rs:List (List Keyed)}(h:RI κ kd a₀ lo S st)(t:fX κ 0 (pendingOf st).toList Rs)(e:(arrOf st).toList=Rs.flatten++S)(l:Rs.flatten.length=lo)(as:t9 κ st Rs.flatten S n M O R st'):RI κ kd a₀ lo (M++R) st':=by
 refine⟨as.cg.kind.trans h.kind,as.cg.failed.trans h.failed,cQ.trans ?_ h.stb,Rs,by rw[as.cg.pend];exact t,as.e,l⟩
 rw[as.e,e,as.s]
 exact(cQ.refl _).append (as.tm.append (cQ.refl _))
theorem iF(hL:jt prog w A E s κ kd){st:SortSt}{Q:Unit→SortSt→Prop}(hk:kindOf st=kd)(hf:failedOf st=none)(hp:pendingOf st= #[])(ks0:∀x∈(arrOf st).toList,gC κ x)
  (q:∀st',failedOf st'=none→dj κ (arrOf st').toList→cQ κ (arrOf st').toList (arrOf st).toList→Q () st'):wpS (model prog w) A E s tX Q st:=by
 refine wpS_bind (wpS_get ?_)
 obtain⟨a₀,ha₀⟩:∃a₀,a₀=(arrOf st).toList:=⟨_,rfl⟩
 rw[←ha₀]at ks0 q
 have ks:=ks0
 have r0:RI κ kd a₀ 0 (arrOf st).toList st:=⟨hk,hf,by rw[ha₀];exact cQ.refl _,[],by rw[hp];trivial,rfl,rfl⟩
 have hN:(arrOf st).size=a₀.length:=by rw[ha₀,length_toList]
 have r0':∃lo S,((none:Option Unit),0)=((none:Option Unit),lo)∧RI κ kd a₀ lo S st∧0≤lo:=⟨0,_,rfl,r0,le_refl 0⟩
 have lens:∀{lo S st'},RI κ kd a₀ lo S st'→lo+S.length=(arrOf st).size:=fun {lo S st'} h=>by
  obtain⟨Rs,t,e,l⟩:=h.ex
  rw[hN,←h.stb.perm.length_eq,e,length_append,l]
 refine wpS_bind (wpS_mono (wpS_forRange (I:=fun x c st'=>∃lo S,c=(none,lo)∧RI κ kd a₀ lo S st'∧x≤lo)
  (Q:=fun c st'=>c.1=none∧∃lo,RI κ kd a₀ lo [] st') ?step ?fin r0') ?post)
 case fin=>
  rintro c st' ⟨lo,S,rfl,ri,hx⟩
  have:=lens ri
  have hx':max 0 (arrOf st).size≤lo:=hx
  have hS:S=[]:=eq_nil_of_length_eq_zero (by omega)
  subst hS
  exact⟨rfl,lo,ri⟩
 case step=>
  rintro x c st1 _ hx ⟨lo,S,rfl,ri,hxl⟩
  dsimp only
  have hl:=lens ri
  refine cM (fun c1=>?_) (fun c1=>?_)
  ·have hS:S=[]:=eq_nil_of_length_eq_zero (by have:(arrOf st).size≤lo:=c1;omega)
   subst hS
   exact wpS_pure ⟨rfl,lo,ri⟩
  have c1':lo < (arrOf st).size:=Nat.lt_of_not_le c1
  obtain⟨Rs,t,e,l⟩:=ri.ex
  have kS:∀u∈S,gC κ u:=fun u hu=>ri.keys ks u (by rw[e];exact mem_append_right _ hu)
  refine wpS_bind (nN hL ri.kind kS e l.symm (by show S.length=(arrOf st).size - lo;omega) (by show 1≤(arrOf st).size - lo;omega) fun n st2 M O R n1 nn as=>?_)
  dsimp only
  refine cM (fun c2=>?_) (fun c2=>?_)
  refine wpS_bind (wpS_lift (wpAny_rule ⟨rfl,?_⟩))
  have hmn:n≤min ((arrOf st).size - lo) _:=Nat.le_min.mpr ⟨nn,le_of_lt c2⟩
  refine wpS_bind (kC hL ri.kind kS l.symm (le_trans (Nat.min_le_left _ _) (by show(arrOf st).size - lo≤S.length;omega)) n1 hmn as fun stx M O R as=>?_)
  have n1:=le_trans n1 hmn
  clear nn hmn c2
  have ri':=ri.asc t e l as
  have sM:=as.sm
  have ml:=as.m
  simp only[Bool.not_true,false_eq_true,if_false]
  rotate_left
  clear c2
  obtain⟨stx,hstx⟩:∃stx,stx=st2:=⟨_,rfl⟩
  subst hstx
  have ri':=ri.asc t e l as
  have sM:=as.sm
  have ml:=as.m
  all_goals
   refine wpS_bind (wpS_get ?_)
   cases hbk:(pendingOf stx).back? with
   |none=>
    dsimp only
    exact wpS_bind (wpS_modify (wpS_pure ⟨_,R,rfl,ri'.push sM ml n1 rfl rfl rfl rfl,by omega⟩))
   |some bk=>
    obtain⟨s1,n1',pw'⟩:=bk
    dsimp only
    refine wpS_bind (wpS_mono (wpS_forRange (I:=fun x c st'=>c=(none,())∧RI κ kd a₀ lo (M++R) st') (Q:=fun c st'=>c=(none,())∧RI κ kd a₀ lo (M++R) st') ?cstep (fun _ _ h=>h) ⟨rfl,ri'⟩) ?cpost)
    case cpost=>
     rintro c st5 ⟨rfl,ri5⟩
     exact wpS_bind (wpS_modify (wpS_bind (wpS_modify (wpS_pure ⟨_,R,rfl,ri5.Bd sM ml n1 rfl rfl rfl rfl,by omega⟩))))
    case cstep=>
     rintro x' c st5 _ _ ⟨rfl,ri5⟩
     refine wpS_bind (wpS_get ?_)
     by_cases c5:(pendingOf st5).size > 1
     ·rw[if_pos c5,getElem?_pos (pendingOf st5) ((pendingOf st5).size - 2) (by omega)]
      generalize (pendingOf st5)[(pendingOf st5).size - 2]=pp
      obtain⟨f1,f2,older⟩:=pp
      dsimp only
      refine cM (fun _=>wpS_pure ⟨rfl,ri5⟩) (fun _=>?_)
      exact wpS_bind (jd hL ks ri5 (show(pendingOf st5).size - 2+1 < (pendingOf st5).size by omega) fun st6 ri6 _=>wpS_pure ⟨rfl,ri6⟩)
     ·rw[if_neg c5]
      exact wpS_pure ⟨rfl,ri5⟩
 case post=>
  rintro c st1 ⟨hc,lo,ri⟩
  rw[hc]
  dsimp only
  have hl:=lens ri
  have hl':lo=(arrOf st).size:=hl
  obtain⟨Rs,t,e,l⟩:=ri.ex
  have pl:(pendingOf st1).size≤(arrOf st).size:=by
   rw[←hl',←l,←length_toList]
   exact t.len
  refine wpS_bind (wpS_mono (wpS_forRange (I:=fun x c st'=>c=(none,())∧RI κ kd a₀ lo [] st'∧(pendingOf st').size+x≤(arrOf st).size) (Q:=fun c st'=>c=(none,())∧RI κ kd a₀ lo [] st'∧(pendingOf st').size≤1) ?fstep ?ffin ⟨rfl,ri,pl⟩) ?fpost)
  case ffin=>
   rintro c st' ⟨rfl,ri,h⟩
   exact⟨rfl,ri,by have h':(pendingOf st').size+max 0 (arrOf st).size≤(arrOf st).size:=h;omega⟩
  case fpost=>
   rintro c st' ⟨rfl,ri,h⟩
   obtain⟨Rs,t,e,l⟩:=ri.ex
   rw[append_nil]at e
   exact wpS_pure (q st' ri.failed (by rw[e];exact t.one (by rw[length_toList];exact h)) ri.stb)
  case fstep=>
   rintro x c st2 _ hx ⟨rfl,ri,h⟩
   refine wpS_bind (wpS_get ?_)
   refine cM (fun c3=>wpS_pure ⟨rfl,ri,c3⟩) (fun c3=>?_)
   have c3':1 < (pendingOf st2).size:=Nat.lt_of_not_le c3
   refine wpS_bind (jd hL ks ri (Cb c3') fun st3 ri3 h3=>?_)
   exact wpS_pure ⟨rfl,ri3,by omega⟩
end
end TS
namespace TS
open PySem PyProof.Rows
def intKind:KeyKind where
 α:=Int
 blt a b:=decide (a < b)
 irrefl a:=by simp
 trans a b c h1 h2:=by
  rw[decide_eq_true_iff]at *
  omega
 negTrans a b c h:=by
  rw[decide_eq_true_iff]at *
  rw[decide_eq_true_iff]
  omega
 total a b h1 h2:=by
  rw[decide_eq_false_iff_not]at *
  omega
 keyOf v:=match v with
  |.int n _=>some n
  |_=>none
 dflt:=0
section
variable {prog:Program}{w:World}{A:Around}{E:Value→Shared→Prop}{s:Shared}
inductive KeysAre(R:Value→Int→Prop):List Value→List Value→Prop
 |nil:KeysAre R [] []
 |snoc {vs ks:List Value}{v:Value}{i:Int}{t:Tok}(h:KeysAre R vs ks)(r:R v i):KeysAre R (vs++[v]) (ks++[.int i t])
def DZ:Array Value→Sem SortKind:=sortPriv% PySem.Builtin.keyKind
end
end TS
namespace TS
open PySem PyProof.Rows
def Je(rv:Bool)(f:Addr):List (Str×Value):=(Str.ofString "key",.ref f)::if rv=true then [(Str.ofString "reverse",.bool true)] else []
section
variable {prog:Program}{w:World}{A:Around}{E:Value→Shared→Prop}{s:Shared}
end
end TS
namespace TS
open PySem PyProof.Rows
open PySem.SeqAt (EqAt RcAt)
def fh(A:Around)(s:Shared)(x y:Value)(b:Bool):Prop:=
 ∀(prog:Program) (w:World) (E:Value→Shared→Prop) (Q:Value→Shared→Prop),Q (.bool b) s→wpAny (model prog w) A (richCompare .Lt x y) Q E s
def pD(e l:Nat→Bool)(fin:Bool):List Nat→Bool
 |[]=>fin
 |j::r=>if e j=true then pD e l fin r else l j
open AutoSeq1 (wpAny_loadPart')
open MeetsSeq MeetsSeq2 MeetsSeq3 SeqRoads2
theorem t5(l b:Addr)(items items2:Array Value)(n n2:Nat)(dd dd2:Option Addr)(sl sl2:Array (Option Value))(e k:Nat→Bool):
  Meets (Builtin.«tuple.__lt__» ⟨[.ref l,.ref b],[]⟩)
   (fun A R s=>s.heap.get? l=some { cls:=.type "tuple",dict:=dd,data:=.seq items n,slots:=sl }∧s.heap.get? b=some { cls:=.type "tuple",dict:=dd2,data:=.seq items2 n2,slots:=sl2 }∧
    (∀j (h1:j < items.size) (h2:j < items2.size),EqAt A.in1 s items[j] items2[j] (e j))∧
    (∀j (h1:j < items.size) (h2:j < items2.size),e j=false→fh A.in1 s items[j] items2[j] (k j))∧
    R (.ok (.ret (.bool (pD e k (decide (items.size < items2.size)) (List.range (min items.size items2.size)))))) s):=
 .of_wp fun prog w A R s h=>by
  obtain⟨hp,g,d,tk,os⟩:=s;obtain⟨hl,hb,he,hk,h⟩:=h
  have f2:=AutoSeq1.sub_tuple_tuple
  have hZ:(items.toList.zip items2.toList).length=min items.size items2.size:=by simp
  wp_walk using wpAny_loadPart' hl,wpAny_loadPart' hb,PySem.wpAny_forIn_list _ (fun rest b s'=>b.1=none∧s'=⟨hp,g,d,tk,os⟩∧∃i,rest=(items.toList.zip items2.toList).drop i∧
   R (.ok (.ret (.bool (pD e k (decide (items.size < items2.size)) ((List.range (min items.size items2.size)).drop i))))) ⟨hp,g,d,tk,os⟩) _
  case turn=>
   rintro⟨y,x⟩ rest b s' ⟨hb',rfl,i,hz,hR⟩
   have hlt:i < (items.toList.zip items2.toList).length:=by
    rcases Nat.lt_or_ge i (items.toList.zip items2.toList).length with h'|h'
    ·exact h'
    ·rw[List.drop_of_length_le h']at hz;cases hz
   have hm:i < min items.size items2.size:=hZ ▸ hlt
   have h1:i < items.size:=lt_of_lt_of_le hm (Nat.min_le_left _ _)
   have h2:i < items2.size:=lt_of_lt_of_le hm (min_le_right _ _)
   rw[List.drop_eq_getElem_cons hlt]at hz
   injection hz with hyx hrest
   have hy:y=items[i]:=by have:=congrArg Prod.fst hyx;simpa using this
   have hx:x=items2[i]:=by have:=congrArg Prod.snd hyx;simpa using this
   subst hy hx
   have hd:(List.range (min items.size items2.size)).drop i=i::(List.range (min items.size items2.size)).drop (i+1):=by simp[List.drop_eq_getElem_cons,hm]
   rw[hd]at hR
   refine wpAny_bind (he i h1 h2 prog w _ _ ?_)
   cases hy:e i with
   |true=>
    rw[pD,if_pos hy]at hR
    wp_walk
    exact⟨rfl,rfl,i+1,hrest,hR⟩
   |false=>
    rw[pD,if_neg (by rw[hy];exact Bool.false_ne_true)]at hR
    simp only[Bool.not_false,if_true]
    refine wpAny_bind (wpAny_rule ?_)
    refine wpAny_bind (hk i h1 h2 hy prog w _ _ ?_)
    wp_walk
    exact⟨_,rfl,hR⟩
  case fin=>
   rintro⟨b1,b2⟩ s' ⟨hb',rfl,i,hz,hR⟩
   simp only at hb'
   subst hb'
   have hge:min items.size items2.size≤i:=by
    rcases Nat.lt_or_ge i (items.toList.zip items2.toList).length with h'|h'
    ·rw[List.drop_eq_getElem_cons h']at hz;cases hz
    ·exact hZ ▸ h'
   rw[List.drop_of_length_le (by simpa using hge)]at hR
   wp_walk
   exact⟨_,rfl,by simpa [Builtin.Tuple.tupleCompareSizes,pD] using hR⟩
  case h=>
   exact⟨rfl,rfl,0,rfl,by simpa using h⟩
theorem fh.tuples{A:Around}{s:Shared}{l b:Addr}{items items2:Array Value}{e k:Nat→Bool}(hl:s.heap.IsTuple l items)(hb:s.heap.IsTuple b items2)(hu:A.units < cLine)
  (he:∀j (h1:j < items.size)(h2:j < items2.size),EqAt A.in1 s items[j] items2[j] (e j))(hk:∀j (h1:j < items.size)(h2:j < items2.size),e j=false→fh A.in1 s items[j] items2[j] (k j)):
  fh A s (.ref l) (.ref b) (pD e k (decide (items.size < items2.size)) (List.range (min items.size items2.size))):=fun prog w E Q h=>by
 obtain⟨⟨cls,dd,data,sl⟩,ho,hc,n,hd⟩:=id hl
 obtain⟨⟨cls2,dd2,data2,sl2⟩,ho2,hc2,n2,hd2⟩:=id hb
 simp only at hc hd hc2 hd2
 subst hc hd hc2 hd2
 exact richCompare_meets_room (op:=.Lt) ⟨_,ho,rfl⟩ ⟨_,ho2,rfl⟩ F.slot_tuple_lt F.entry_tuple_lt (F.args_tuple_lt_2 _ _) (t5 l b items items2 n n2 dd dd2 sl sl2 e k)
  ⟨ho,ho2,he,hk,show Value.bool _≠Value.notImplemented∧Q (.bool _) s from ⟨(fun x=>nomatch x),h⟩⟩ hu
theorem fh.int{A:Around}{s:Shared}(a b:Int)(t u:Tok):fh A s (.int a t) (.int b u) (decide (a < b)):=fun _ _ _ _ h=>lt_int h
theorem fh.str{A:Around}{s:Shared}(a b:Str)(t u:Tok):fh A s (.str a t) (.str b u) (decide (a.cps.toList < b.cps.toList)):=fun _ _ _ _ h=>lt_str h
def eP(O P:KeyOrd):KeyOrd where
 α:=O.α×P.α
 blt a b:=O.blt a.1 b.1 || (!O.blt b.1 a.1 && P.blt a.2 b.2)
 irrefl a:=by simp[O.irrefl,P.irrefl]
 trans a b c h1 h2:=by
  simp only[Bool.or_eq_true,and_eq_true,not_eq_true']at *
  rcases h1 with h1|⟨h1,h1'⟩<;>rcases h2 with h2|⟨h2,h2'⟩
  ·exact .inl (O.trans _ _ _ h1 h2)
  ·rcases O.negTrans _ c.1 _ h1 with x|x
   ·exact .inl x
   ·rw[h2]at x;cases x
  ·rcases O.negTrans _ a.1 _ h2 with x|x
   ·rw[h1]at x;cases x
   ·exact .inl x
  ·refine .inr ⟨?_,P.trans _ _ _ h1' h2'⟩
   cases hc:O.blt c.1 a.1 with
   |false=>rfl
   |true=>
    rcases O.negTrans _ b.1 _ hc with x|x
    ·rw[h2]at x;cases x
    ·rw[h1]at x;cases x
 negTrans a b c h:=by
  simp only[Bool.or_eq_true,and_eq_true,not_eq_true']at *
  rcases h with h|⟨h,h'⟩
  ·rcases O.negTrans _ b.1 _ h with x|x
   ·exact .inl (.inl x)
   ·exact .inr (.inl x)
  ·cases h1:O.blt b.1 a.1 with
   |true=>
    rcases O.negTrans _ c.1 _ h1 with x|x
    ·exact .inr (.inl x)
    ·rw[h]at x;cases x
   |false=>
    cases h2:O.blt c.1 b.1 with
    |true=>
     rcases O.negTrans _ a.1 _ h2 with x|x
     ·rw[h]at x;cases x
     ·exact .inl (.inl x)
    |false=>
     rcases P.negTrans _ b.2 _ h' with x|x
     ·exact .inl (.inr ⟨rfl,x⟩)
     ·exact .inr (.inr ⟨rfl,x⟩)
 total a b h1 h2:=by
  simp only[Bool.or_eq_false_iff,Bool.and_eq_false_iff,Bool.not_eq_false']at *
  obtain⟨h1,h1'⟩:=h1
  obtain⟨h2,h2'⟩:=h2
  have e:=O.total _ _ h1 h2
  have e2:=P.total a.2 b.2 (h1'.resolve_left (by rw[h2];exact Bool.false_ne_true)) (h2'.resolve_left (by rw[h1];exact Bool.false_ne_true))
  exact Prod.ext e e2
theorem pf{O P:KeyOrd}(a:O.α)(r r':P.α):(eP O P).blt (a,r) (a,r')=P.blt r r':=by
 show(O.blt a a || (!O.blt a a && P.blt r r'))=_
 rw[O.irrefl];rfl
theorem zu{O P:KeyOrd}{a b:O.α}(r r':P.α)(h:a≠b):(eP O P).blt (a,r) (b,r')=O.blt a b:=by
 show(O.blt a b || (!O.blt b a && P.blt r r'))=_
 cases h1:O.blt a b with
 |true=>rfl
 |false=>
  cases h2:O.blt b a with
  |true=>rfl
  |false=>exact absurd (O.total _ _ h1 h2) h
def eF:KeyOrd:=eP strKind.toKeyOrd (eP intKind.toKeyOrd strKind.toKeyOrd)
def mL:KeyOrd:=eP intKind.toKeyOrd (eP intKind.toKeyOrd (eP strKind.toKeyOrd eF))
def cps(x:Str):List Nat:=x.cps.toList
theorem lY{x y:Str}(h:cps x=cps y):x=y:=by
 cases x;cases y
 have h':=toList_inj.mp h
 simp only at h'
 rw[h']
inductive ip(h:Heap)(p:Addr):eF.α→Prop
 |saw (k:Int) (t u:Tok) (i:h.IsTuple p #[.str "saw" t,.int k u]):ip h p (cps "saw",k,[])
 |heard (k:Int) (z:Str) (t u v:Tok) (i:h.IsTuple p #[.str "heard" t,.int k u,.str z v]):ip h p (cps "heard",k,cps z)
inductive jW(h:Heap)(p:Addr):mL.α→Prop
 |mk(i j:Int)(z:Str)(q:Addr)(w:eF.α)(t u v:Tok)(r:h.IsTuple p #[.int i t,.int j u,.str z v,.ref q])(hw:ip h q w):jW h p (i,j,cps z,w)
theorem fE{h:Heap}{p:Addr}{xs ys:Array Value}(a:h.IsTuple p xs)(b:h.IsTuple p ys):xs=ys:=by
 obtain⟨o,ho,hc,n,hd⟩:=a
 obtain⟨o2,ho2,hc2,n2,hd2⟩:=b
 rw[ho]at ho2
 cases ho2
 rw[hd]at hd2
 injection hd2
theorem ip.inj{h:Heap}{p:Addr}{x y:eF.α}(a:ip h p x)(b:ip h p y):x=y:=by
 cases a with
 |saw k t u i=>
  cases b with
  |saw k' t' u' i'=>
   have e:=fE i i'
   simp only[Array.mk.injEq,List.cons.injEq,Value.int.injEq,and_true]at e
   rw[e.2.1]
  |heard k' z' t' u' v' i'=>
   have e:=congrArg Array.size (fE i i')
   cases e
 |heard k z t u v i=>
  cases b with
  |saw k' t' u' i'=>
   have e:=congrArg Array.size (fE i i')
   cases e
  |heard k' z' t' u' v' i'=>
   have e:=fE i i'
   simp only[Array.mk.injEq,List.cons.injEq,Value.int.injEq,Value.str.injEq,and_true]at e
   rw[e.2.1.1,e.2.2.1]
theorem iL{x y:Str}(h:x≠y){O:KeyOrd}(r r':O.α):(eP strKind.toKeyOrd O).blt (cps x,r) (cps y,r')=decide (x.cps.toList < y.cps.toList):=zu (O:=strKind.toKeyOrd) r r' fun e=>h (lY e)
theorem fZ{x y:Int}(h:x≠y){O:KeyOrd}(r r':O.α):(eP intKind.toKeyOrd O).blt (x,r) (y,r')=decide (x < y):=zu (O:=intKind.toKeyOrd) r r' h
theorem iK(x:Int){O:KeyOrd}(r r':O.α):(eP intKind.toKeyOrd O).blt (x,r) (x,r')=O.blt r r':=pf (O:=intKind.toKeyOrd) x r r'
theorem oZ(x:Str){O:KeyOrd}(r r':O.α):(eP strKind.toKeyOrd O).blt (cps x,r) (cps x,r')=O.blt r r':=pf (O:=strKind.toKeyOrd) (cps x) r r'
theorem tr{Q:Bool→Shared→Prop}{s:Shared}{b c:Bool}(h:Q b s)(e:b=c):Q c s:=e ▸ h
theorem mh{α:Type} [BEq α] [LawfulBEq α]{x y:α}(h:(x == y)=false):x≠y:=fun e=>by rw[e,beq_self_eq_true]at h;cases h
section
variable {prog:Program}{w:World}{A:Around}{E:Value→Shared→Prop}{s:Shared}
inductive DC(A:Around)(s:Shared)(p q:Addr)(x y:eF.α):Prop
 |same (e:EqAt A s (.ref p) (.ref q) true)(h:x=y)
 |other (e:EqAt A s (.ref p) (.ref q) false)(h:x≠y)(l:fh A s (.ref p) (.ref q) (eF.blt x y))
theorem vm{p q:Addr}{x y:eF.α}(hu:A.units < cLine)(wp:ip s.heap p x)(wq:ip s.heap q y):DC A s p q x y:=by
 by_cases pq:p=q
 ·subst pq
  exact .same (.same _) (wp.inj wq)
 cases wp with
 |saw k t u i=>
  cases wq with
  |saw k' t' u' i'=>
   have he:∀j (h1:j < (#[Value.str "saw" t,.int k u]).size) (h2:j < (#[Value.str "saw" t',.int k' u']).size),EqAt A.in1 s (#[Value.str "saw" t,.int k u])[j] (#[Value.str "saw" t',.int k' u'])[j] (if j=0 then true else(k == k')):=fun j h1 h2=>
    match j,h1,h2 with
    |0,_,_=>EqAt.str_str "saw" t "saw" t'
    |1,_,_=>EqAt.int_int k u k' u'
    |j+2,h1,_=>absurd h1 (by show ¬j+2 < 2;omega)
   have rc:=RcAt.tuples (A:=A) (e:=fun j=>if j=0 then true else(k == k')) i i' hu he
   by_cases kk:k=k'
   ·have e1:((List.range (min (#[Value.str "saw" t,.int k u]).size (#[Value.str "saw" t',.int k' u']).size)).all (fun j=>if j=0 then true else(k == k')) && (#[Value.str "saw" t,.int k u]).size == (#[Value.str "saw" t',.int k' u']).size)=true:=by
     subst kk;simp[List.range,List.range.loop]
    rw[e1]at rc
    exact .same (.of_refs pq rc) (by rw[kk])
   ·have kf:(k == k')=false:=by simp[kk]
    have e1:((List.range (min (#[Value.str "saw" t,.int k u]).size (#[Value.str "saw" t',.int k' u']).size)).all (fun j=>if j=0 then true else(k == k')) && (#[Value.str "saw" t,.int k u]).size == (#[Value.str "saw" t',.int k' u']).size)=false:=by
     rw[kf];rfl
    rw[e1]at rc
    refine .other (.of_refs pq rc) (fun e=>kk ?_) ?_
    ·exact congrArg (fun z:List Nat×Int×List Nat=>z.2.1) e
    ·have l:=fh.tuples (A:=A) (k:=fun _=>decide (k < k')) i i' hu he fun j h1 h2=>match j,h1,h2 with
      |0,_,_=>fun h=>by cases h
      |1,_,_=>fun _=>fh.int k k' u u'
      |j+2,h1,_=>absurd h1 (by show ¬j+2 < 2;omega)
     have e2:eF.blt (cps "saw",k,[]) (cps "saw",k',[])=decide (k < k'):=(pf (O:=strKind.toKeyOrd) _ _ _).trans (fZ (O:=strKind.toKeyOrd) kk _ _)
     rw[e2]
     have e3:pD (fun j=>if j=0 then true else(k == k')) (fun _=>decide (k < k')) (decide ((#[Value.str "saw" t,.int k u]).size < (#[Value.str "saw" t',.int k' u']).size)) (List.range (min (#[Value.str "saw" t,.int k u]).size (#[Value.str "saw" t',.int k' u']).size))=decide (k < k'):=by
      rw[kf];rfl
     rw[e3]at l
     exact l
  |heard k' z' t' u' v' i'=>
   have he:∀j (h1:j < (#[Value.str "saw" t,.int k u]).size) (h2:j < (#[Value.str "heard" t',.int k' u',.str z' v']).size),EqAt A.in1 s (#[Value.str "saw" t,.int k u])[j] (#[Value.str "heard" t',.int k' u',.str z' v'])[j] (if j=0 then false else(k == k')):=fun j h1 h2=>
    match j,h1,h2 with
    |0,_,_=>EqAt.str_str "saw" t "heard" t'
    |1,_,_=>EqAt.int_int k u k' u'
    |j+2,h1,_=>absurd h1 (by show ¬j+2 < 2;omega)
   have rc:=RcAt.tuples (A:=A) (e:=fun j=>if j=0 then false else(k == k')) i i' hu he
   have e1:((List.range (min (#[Value.str "saw" t,.int k u]).size (#[Value.str "heard" t',.int k' u',.str z' v']).size)).all (fun j=>if j=0 then false else(k == k')) && (#[Value.str "saw" t,.int k u]).size == (#[Value.str "heard" t',.int k' u',.str z' v']).size)=false:=rfl
   rw[e1]at rc
   refine .other (.of_refs pq rc) (fun e=>absurd (lY (congrArg Prod.fst e)) (by decide)) ?_
   have l:=fh.tuples (A:=A) (k:=fun j=>if j=0 then decide (("saw" :Str).cps.toList < ("heard" :Str).cps.toList) else decide (k < k')) i i' hu he fun j h1 h2=>match j,h1,h2 with
    |0,_,_=>fun _=>fh.str "saw" "heard" t t'
    |1,_,_=>fun _=>fh.int k k' u u'
    |j+2,h1,_=>absurd h1 (by show ¬j+2 < 2;omega)
   have e2:eF.blt (cps "saw",k,[]) (cps "heard",k',cps z')=decide (("saw" :Str).cps.toList < ("heard" :Str).cps.toList):=iL (O:=eP intKind.toKeyOrd strKind.toKeyOrd) (by decide) _ _
   rw[e2]
   exact l
 |heard k z t u v i=>
  cases wq with
  |saw k' t' u' i'=>
   have he:∀j (h1:j < (#[Value.str "heard" t,.int k u,.str z v]).size) (h2:j < (#[Value.str "saw" t',.int k' u']).size),EqAt A.in1 s (#[Value.str "heard" t,.int k u,.str z v])[j] (#[Value.str "saw" t',.int k' u'])[j] (if j=0 then false else(k == k')):=fun j h1 h2=>
    match j,h1,h2 with
    |0,_,_=>EqAt.str_str "heard" t "saw" t'
    |1,_,_=>EqAt.int_int k u k' u'
    |j+2,_,h2=>absurd h2 (by show ¬j+2 < 2;omega)
   have rc:=RcAt.tuples (A:=A) (e:=fun j=>if j=0 then false else(k == k')) i i' hu he
   have e1:((List.range (min (#[Value.str "heard" t,.int k u,.str z v]).size (#[Value.str "saw" t',.int k' u']).size)).all (fun j=>if j=0 then false else(k == k')) && (#[Value.str "heard" t,.int k u,.str z v]).size == (#[Value.str "saw" t',.int k' u']).size)=false:=rfl
   rw[e1]at rc
   refine .other (.of_refs pq rc) (fun e=>absurd (lY (congrArg Prod.fst e)) (by decide)) ?_
   have l:=fh.tuples (A:=A) (k:=fun j=>if j=0 then decide (("heard" :Str).cps.toList < ("saw" :Str).cps.toList) else decide (k < k')) i i' hu he fun j h1 h2=>match j,h1,h2 with
    |0,_,_=>fun _=>fh.str "heard" "saw" t t'
    |1,_,_=>fun _=>fh.int k k' u u'
    |j+2,_,h2=>absurd h2 (by show ¬j+2 < 2;omega)
   have e2:eF.blt (cps "heard",k,cps z) (cps "saw",k',[])=decide (("heard" :Str).cps.toList < ("saw" :Str).cps.toList):=iL (O:=eP intKind.toKeyOrd strKind.toKeyOrd) (by decide) _ _
   rw[e2]
   exact l
  |heard k' z' t' u' v' i'=>
   have he:∀j (h1:j < (#[Value.str "heard" t,.int k u,.str z v]).size) (h2:j < (#[Value.str "heard" t',.int k' u',.str z' v']).size),EqAt A.in1 s (#[Value.str "heard" t,.int k u,.str z v])[j] (#[Value.str "heard" t',.int k' u',.str z' v'])[j] (if j=0 then true else if j=1 then(k == k') else(z == z')):=fun j h1 h2=>
    match j,h1,h2 with
    |0,_,_=>EqAt.str_str "heard" t "heard" t'
    |1,_,_=>EqAt.int_int k u k' u'
    |2,_,_=>EqAt.str_str z v z' v'
    |j+3,h1,_=>absurd h1 (by show ¬j+3 < 3;omega)
   have rc:=RcAt.tuples (A:=A) i i' hu he
   have l:=fh.tuples (A:=A) (k:=fun j=>if j=1 then decide (k < k') else decide (z.cps.toList < z'.cps.toList)) i i' hu he fun j h1 h2=>match j,h1,h2 with
    |0,_,_=>fun h=>by cases h
    |1,_,_=>fun _=>fh.int k k' u u'
    |2,_,_=>fun _=>fh.str z z' v v'
    |j+3,h1,_=>absurd h1 (by show ¬j+3 < 3;omega)
   have re:((List.range (min (#[Value.str "heard" t,.int k u,.str z v]).size (#[Value.str "heard" t',.int k' u',.str z' v']).size)).all (fun j=>if j=0 then true else if j=1 then(k == k') else(z == z')) && (#[Value.str "heard" t,.int k u,.str z v]).size == (#[Value.str "heard" t',.int k' u',.str z' v']).size)=(k == k' && z == z'):=by
    cases (k == k')<;>cases (z == z')<;>rfl
   have le:pD (fun j=>if j=0 then true else if j=1 then(k == k') else(z == z')) (fun j=>if j=1 then decide (k < k') else decide (z.cps.toList < z'.cps.toList)) (decide ((#[Value.str "heard" t,.int k u,.str z v]).size < (#[Value.str "heard" t',.int k' u',.str z' v']).size)) (List.range (min (#[Value.str "heard" t,.int k u,.str z v]).size (#[Value.str "heard" t',.int k' u',.str z' v']).size))=(if(k == k')=true then(if(z == z')=true then false else decide (z.cps.toList < z'.cps.toList)) else decide (k < k')):=by
    cases (k == k')<;>cases (z == z')<;>rfl
   rw[re]at rc
   rw[le]at l
   have b1:eF.blt (cps "heard",k,cps z) (cps "heard",k',cps z')=(eP intKind.toKeyOrd strKind.toKeyOrd).blt (k,cps z) (k',cps z'):=pf (O:=strKind.toKeyOrd) _ _ _
   by_cases kk:k=k'
   ·subst kk
    by_cases zz:z=z'
    ·subst zz
     rw[beq_self_eq_true,beq_self_eq_true]at rc
     exact .same (.of_refs pq rc) rfl
    ·have zf:(z == z')=false:=by simp[zz]
     rw[beq_self_eq_true,zf]at rc l
     refine .other (.of_refs pq rc) (fun e=>zz (lY (congrArg (fun z:List Nat×Int×List Nat=>z.2.2) e))) ?_
     rw[b1,iK (O:=strKind.toKeyOrd)]
     exact l
   ·have kf:(k == k')=false:=by simp[kk]
    rw[kf]at rc l
    refine .other (.of_refs pq rc) (fun e=>kk (congrArg (fun z:List Nat×Int×List Nat=>z.2.1) e)) ?_
    rw[b1,fZ (O:=strKind.toKeyOrd) kk]
    exact l
def fI(as:List Addr)(g:Addr→mL.α):KeyKind where
 toKeyOrd:=mL
 keyOf v:=match v with
  |.ref a=>if a∈as then some (g a) else none
  |_=>none
 dflt:=((0:Int),(0:Int),([]:List Nat),([]:List Nat),(0:Int),([]:List Nat))
theorem DX{p q:Addr}{x y:mL.α}{Q:Bool→Shared→Prop}(hu:A.units < cLine)(rp:jW s.heap p x)(rq:jW s.heap q y)(h:Q (mL.blt x y) s):wpAny (model prog w) A (keyLt' (tuples' true) (.ref p) (.ref q)) Q E s:=by
 obtain⟨i,j,z,pw,x,t,u,v,⟨o,ho,hc,n,hd⟩,hw⟩:=rp
 obtain⟨i',j',z',pw',x',t',u',v',⟨o',ho',hc',n',hd'⟩,hw'⟩:=rq
 refine kat_lt ho hd ho' hd' ?_
 refine kat_cons (EqAt.int_int i t i' t' prog w _ _ (kat_go (fun e=>kat_yes ?_) fun e=>kat_no ?_))
 ·have e:=eq_of_beq e
  subst e
  have h:=tr h (iK (O:=eP intKind.toKeyOrd (eP strKind.toKeyOrd eF)) i (j,cps z,x) (j',cps z',x'))
  refine kat_cons (EqAt.int_int j u j' u' prog w _ _ (kat_go (fun e=>kat_yes ?_) fun e=>kat_no ?_))
  ·have e:=eq_of_beq e
   subst e
   have h:=tr h (iK (O:=eP strKind.toKeyOrd eF) j (cps z,x) (cps z',x'))
   refine kat_cons (EqAt.str_str z v z' v' prog w _ _ (kat_go (fun e=>kat_yes ?_) fun e=>kat_no ?_))
   ·have e:=eq_of_beq e
    subst e
    have h:=tr h (oZ (O:=eF) z x x')
    rcases vm (A:=A) hu hw hw' with ⟨e,rfl⟩|⟨e,_,l⟩
    ·refine kat_cons (e prog w _ _ (kat_yes (kat_nil ?_)))
     exact tr h (eF.irrefl _)
    ·refine kat_cons (e prog w _ _ (kat_no (kat_one _ _ ?_)))
     exact l prog w _ _ h
   ·have h:=tr h (iL (O:=eF) (mh e) x x')
    exact kat_one _ _ (fh.str z z' v v' prog w _ _ h)
  ·have h:=tr h (fZ (O:=eP strKind.toKeyOrd eF) (mh e) (cps z,x) (cps z',x'))
   exact kat_one _ _ (fh.int j j' u u' prog w _ _ h)
 ·have h:=tr h (fZ (O:=eP intKind.toKeyOrd (eP strKind.toKeyOrd eF)) (mh e) (j,cps z,x) (j',cps z',x'))
  exact oneLt_int h
theorem yV{as:List Addr}{g:Addr→mL.α}(hu:A.units < cLine)(hr:∀a∈as,jW s.heap a (g a)):jt prog w A E s (fI as g) (tuples' true):=by
 rintro⟨x,p⟩ ⟨y,q⟩ st Q hk ⟨a,ha⟩ ⟨b,hb⟩ h
 have one:∀{v:Value}{c:mL.α},(fI as g).keyOf v=some c→∃m,v=.ref m∧m∈as∧c=g m:=fun {v c} hv=>by
  cases v<;>try (cases hv)
  rename_i m
  have hv':(if m∈as then some (g m) else none)=some c:=hv
  split at hv'
  ·cases hv'
   exact⟨m,rfl,by assumption,rfl⟩
  ·cases hv'
 obtain⟨m,rfl,mm,rfl⟩:=one ha
 obtain⟨m',rfl,mm',rfl⟩:=one hb
 rw[lt'_eq]
 refine wpS_bind (wpS_get ?_)
 rw[hk]
 have e1:key (fI as g) (.ref m,p)=g m:=by unfold key;rw[show(fI as g).keyOf (Value.ref m,p).1=_ from ha];rfl
 have e2:key (fI as g) (.ref m',q)=g m':=by unfold key;rw[show(fI as g).keyOf (Value.ref m',q).1=_ from hb];rfl
 rw[e1,e2]at h
 exact wpS_bind (wpS_lift (wpAny_attempt (DX hu (hr m mm) (hr m' mm') ⟨rfl,wpS_pure h⟩)))
theorem rh{h:Heap}{g:Addr→mL.α}:∀(as:List Addr),(∀a∈as,jW h a (g a))→∃fs:List Value,fs.length=as.length∧KatTups h (as.map Value.ref) fs∧∀v∈fs,∃i t,v=.int i t
 |[],_=>⟨[],rfl,.nil,fun v hv=>by cases hv⟩
 |a::as,hr=>by
  obtain⟨fs,l,k,f⟩:=rh as fun b hb=>hr b (.tail _ hb)
  have ra:=hr a (.head _)
  generalize g a=x at ra
  obtain⟨i,j,z,q,w,t,u,v,⟨o,ho,hc,n,hd⟩,hw⟩:=ra
  exact⟨.int i t::fs,by rw[length_cons,l];rfl,.cons ho hc hd rfl k,fun v hv=>by
   rcases mem_cons.mp hv with rfl|hv
   ·exact⟨i,t,rfl⟩
   ·exact f v hv⟩
def mw:Value→Addr
 |.ref a=>a
 |_=>0
theorem mI {a:Addr}{as:List Addr}{g:Addr→mL.α}{n:Nat}{P:Fin→Shared→Prop}(ho:s.heap.get? a=some (seqObj "list" (as.map Value.ref).toArray n)) (vl:as.length≤sizeLine) (hu:A.units < cLine)
  (hr:∀x∈as,jW (((s.heap.update a (Obj.mapSeq fun _=> #[])).push (seqObj "tuple" (as.map Value.ref).toArray 0)).push (seqObj "list" #[] 0)) x (g x))
  (fin:∀ys:List Addr,ys.Perm as→P (.done (.ret .none)) { s with heap:=(((s.heap.update a (Obj.mapSeq fun _=> #[])).push (seqObj "tuple" (as.map Value.ref).toArray 0)).push (seqObj "list" #[] 0)).update a (Obj.mapSeq fun _=>(ys.map Value.ref).toArray) }):
  wpAny (model prog w) A (Builtin.«list.sort» ⟨[.ref a],[]⟩) P E s:=by
 have ha:a < s.heap.objs.size:=lt_size ho
 obtain⟨e1,ho1⟩:∃e1,(s.heap.update a (Obj.mapSeq fun _=>(#[]:Array Value))).get? a=some (seqObj "list" #[] e1):=⟨_,get?_update_seq ho fun _=> #[]⟩
 have hN:(s.heap.update a (Obj.mapSeq fun _=>(#[]:Array Value))).objs.size=s.heap.objs.size:=size_update _ _ _
 have ho6:(((s.heap.update a (Obj.mapSeq fun _=> #[])).push (seqObj "tuple" (as.map Value.ref).toArray 0)).push (seqObj "list" #[] 0)).get? a=some (seqObj "list" #[] e1):=by
  rw[get?_push_ne _ _ _ (by rw[size_push',hN];exact ne_of_lt (lt_succ_of_lt ha)),get?_push_ne _ _ _ (by rw[hN];exact ne_of_lt ha)]
  exact ho1
 have sz:(as.map Value.ref).toArray.size=as.length:=by rw[size_toArray,length_map]
 rw[list_sort_plain]
 refine wpAny_bind (listItems_at ho rfl ?_)
 refine wpAny_bind (listUpdate_at ho rfl ?_ (by rw[sz];exact vl) (zero_le _))
 refine wpAny_bind (seqEpoch_at ho1 rfl ?_)
 refine wpAny_bind (wpAny_newTuple ?_ (by show(as.map Value.ref).length≤_;rw[length_map];exact vl))
 refine wpAny_bind (wpAny_newList ?_ (zero_le _))
 refine wpAny_holding ?_
 show wpAny (model prog w) A _ P E { s with heap:=((s.heap.update a (Obj.mapSeq fun _=> #[])).push (seqObj "tuple" (as.map Value.ref).toArray 0)).push (seqObj "list" #[] 0) }
 dsimp only
 have ends:∀(ys:List Addr) (st':SortSt),failedOf st'=none→(arrOf st').map (·.2)=(ys.map Value.ref).toArray→ys.Perm as→
   wpAny (model prog w) A (do
    let touched:=(←seqEpoch a) != e1
    Builtin.List.listUpdate (.ref a) fun _=>(arrOf st').map (·.2)
    if let some e:=failedOf st' then rule "list.sort.comparison-raised";throw e
    if touched then rule "list.sort.modified";raiseError "ValueError" "list modified during sort"
    ret .none) P E { s with heap:=((s.heap.update a (Obj.mapSeq fun _=> #[])).push (seqObj "tuple" (as.map Value.ref).toArray 0)).push (seqObj "list" #[] 0) }:=fun ys st' hf hy hp=>by
  refine wpAny_bind (seqEpoch_at ho6 rfl ?_)
  rw[hy]
  refine wpAny_bind (listUpdate_at ho6 rfl ?_ (zero_le _) (by rw[size_toArray,length_map,hp.length_eq];first|exact vl|exact Nat.le_succ_of_le vl))
  rw[hf]
  simp only[bne_self_eq_false,false_eq_true,if_false]
  exact wpAny_pure (fin ys hp)
 by_cases c2:(as.map Value.ref).toArray.size < 2
 ·rw[if_pos c2]
  refine wpAny_bind (wpAny_pure ?_)
  rw[if_pos c2,StateT.run_pure]
  refine wpAny_bind (wpAny_pure ?_)
  refine ends as _ rfl ?_ (List.Perm.refl _)
  apply toList_inj.mp
  show(((as.map Value.ref).toArray.zip (as.map Value.ref).toArray).map (·.2)).toList=_
  rw[toList_map,toList_zip]
  exact map_snd_zip (le_refl _)
 ·rw[if_neg c2]
  obtain⟨fs,fl,kt,fi⟩:=rh as hr
  refine wpAny_bind (kat_kind (T:=.type "int") kt (by rw[fl];rw[sz]at c2;omega) (fun v hv=>?_) rfl ?_)
  ·obtain⟨i,t,rfl⟩:=fi v hv
   exact .now
  rw[if_neg c2]
  have zl:((as.map Value.ref).toArray.zip (as.map Value.ref).toArray).toList=(as.map Value.ref).zip (as.map Value.ref):=by rw[toList_zip]
  refine wpAny_bind (wpAny_mono (iF (κ:=fI as g) (kd:=tuples' true) (yV hu hr) (st:=SortSt.mk' (tuples' true) ((as.map Value.ref).toArray.zip (as.map Value.ref).toArray) #[] 7 none)
    (Q:=fun _ st'=>failedOf st'=none∧cQ (fI as g) (arrOf st').toList ((as.map Value.ref).zip (as.map Value.ref))) rfl rfl rfl (fun p hp=>?_) fun st' f1 f2 f3=>⟨f1,by rw[←zl];exact f3⟩) ?_ fun _ _ e=>e)
  ·have hp':p∈(as.map Value.ref).zip (as.map Value.ref):=by rw[←zl];exact hp
   obtain⟨x,mx,e⟩:=mem_map.mp (of_mem_zip (show(p.1,p.2)∈(as.map Value.ref).zip (as.map Value.ref) from hp')).1
   refine⟨g x,?_⟩
   rw[←e]
   exact if_pos mx
  ·rintro⟨⟨⟩,st'⟩ s2 ⟨rfl,f1,f3⟩
   have pm:=f3.perm.map (fun p:Keyed=>p.2)
   rw[map_snd_zip (le_refl _)]at pm
   have pm2:=pm.map mw
   rw[map_map,map_map,show(mw ∘ Value.ref)=id from rfl,List.map_id]at pm2
   refine ends _ st' f1 ?_ pm2
   apply toList_inj.mp
   rw[toList_map]
   refine List.map_congr_left ?_ |>.trans (map_map ..).symm
   intro p hp
   obtain⟨x,_,e⟩:=mem_map.mp (pm.mem_iff.mp (mem_map_of_mem hp))
   show p.2=Value.ref (mw p.2)
   rw[←e];rfl
end
end TS
namespace TS
open PySem PyProof.Rows
open PySem.SeqAt (EqAt RcAt)
def CD:KeyOrd:=eP strKind.toKeyOrd (eP intKind.toKeyOrd eF)
inductive FD(h:Heap)(p:Addr):CD.α→Prop
 |mk(z:Str)(i:Int)(q:Addr)(w:eF.α)(t u:Tok)(r:h.IsTuple p #[.str z t,.int i u,.ref q])(hw:ip h q w):FD h p (cps z,i,w)
section
variable {prog:Program}{w:World}{A:Around}{E:Value→Shared→Prop}{s:Shared}
def EF(as:List Addr)(g:Addr→CD.α):KeyKind where
 toKeyOrd:=CD
 keyOf v:=match v with
  |.ref a=>if a∈as then some (g a) else none
  |_=>none
 dflt:=(([]:List Nat),(0:Int),([]:List Nat),(0:Int),([]:List Nat))
end
end TS
namespace TS
open PySem PyProof.Rows
open PySem.SeqAt (EqAt RcAt)
def nM:KeyOrd:=eP intKind.toKeyOrd (eP strKind.toKeyOrd eF)
inductive jT(h:Heap)(p:Addr):nM.α→Prop
 |mk(i:Int)(z:Str)(q:Addr)(w:eF.α)(t u:Tok)(r:h.IsTuple p #[.int i t,.str z u,.ref q])(hw:ip h q w):jT h p (i,cps z,w)
section
variable {prog:Program}{w:World}{A:Around}{E:Value→Shared→Prop}{s:Shared}
def eO(as:List Addr)(g:Addr→nM.α):KeyKind where
 toKeyOrd:=nM
 keyOf v:=match v with
  |.ref a=>if a∈as then some (g a) else none
  |_=>none
 dflt:=((0:Int),([]:List Nat),([]:List Nat),(0:Int),([]:List Nat))
theorem Ak{p q:Addr}{x y:nM.α}{Q:Bool→Shared→Prop}(hu:A.units < cLine)(rp:jT s.heap p x)(rq:jT s.heap q y)(h:Q (nM.blt x y) s):wpAny (model prog w) A (keyLt' (tuples' true) (.ref p) (.ref q)) Q E s:=by
 obtain⟨j,z,pw,x,u,v,⟨o,ho,hc,n,hd⟩,hw⟩:=rp
 obtain⟨j',z',pw',x',u',v',⟨o',ho',hc',n',hd'⟩,hw'⟩:=rq
 refine kat_lt ho hd ho' hd' ?_
 refine kat_cons (EqAt.int_int j u j' u' prog w _ _ (kat_go (fun e=>kat_yes ?_) fun e=>kat_no ?_))
 ·have e:=eq_of_beq e
  subst e
  have h:=tr h (iK (O:=eP strKind.toKeyOrd eF) j (cps z,x) (cps z',x'))
  refine kat_cons (EqAt.str_str z v z' v' prog w _ _ (kat_go (fun e=>kat_yes ?_) fun e=>kat_no ?_))
  ·have e:=eq_of_beq e
   subst e
   have h:=tr h (oZ (O:=eF) z x x')
   rcases vm (A:=A) hu hw hw' with ⟨e,rfl⟩|⟨e,_,l⟩
   ·refine kat_cons (e prog w _ _ (kat_yes (kat_nil ?_)))
    exact tr h (eF.irrefl _)
   ·refine kat_cons (e prog w _ _ (kat_no (kat_one _ _ ?_)))
    exact l prog w _ _ h
  ·have h:=tr h (iL (O:=eF) (mh e) x x')
   exact kat_one _ _ (fh.str z z' v v' prog w _ _ h)
 ·have h:=tr h (fZ (O:=eP strKind.toKeyOrd eF) (mh e) (cps z,x) (cps z',x'))
  exact oneLt_int h
theorem xn{as:List Addr}{g:Addr→nM.α}(hu:A.units < cLine)(hr:∀a∈as,jT s.heap a (g a)):jt prog w A E s (eO as g) (tuples' true):=by
 rintro⟨x,p⟩ ⟨y,q⟩ st Q hk ⟨a,ha⟩ ⟨b,hb⟩ h
 have one:∀{v:Value}{c:nM.α},(eO as g).keyOf v=some c→∃m,v=.ref m∧m∈as∧c=g m:=fun {v c} hv=>by
  cases v<;>try (cases hv)
  rename_i m
  have hv':(if m∈as then some (g m) else none)=some c:=hv
  split at hv'
  ·cases hv'
   exact⟨m,rfl,by assumption,rfl⟩
  ·cases hv'
 obtain⟨m,rfl,mm,rfl⟩:=one ha
 obtain⟨m',rfl,mm',rfl⟩:=one hb
 rw[lt'_eq]
 refine wpS_bind (wpS_get ?_)
 rw[hk]
 have e1:key (eO as g) (.ref m,p)=g m:=by unfold key;rw[show(eO as g).keyOf (Value.ref m,p).1=_ from ha];rfl
 have e2:key (eO as g) (.ref m',q)=g m':=by unfold key;rw[show(eO as g).keyOf (Value.ref m',q).1=_ from hb];rfl
 rw[e1,e2]at h
 exact wpS_bind (wpS_lift (wpAny_attempt (Ak hu (hr m mm) (hr m' mm') ⟨rfl,wpS_pure h⟩)))
theorem o8{h:Heap}{g:Addr→nM.α}:∀(as:List Addr),(∀a∈as,jT h a (g a))→∃fs:List Value,fs.length=as.length∧KatTups h (as.map Value.ref) fs∧∀v∈fs,∃i t,v=.int i t
 |[],_=>⟨[],rfl,.nil,fun v hv=>by cases hv⟩
 |a::as,hr=>by
  obtain⟨fs,l,k,f⟩:=o8 as fun b hb=>hr b (.tail _ hb)
  have ra:=hr a (.head _)
  generalize g a=x at ra
  obtain⟨i,z,q,w,t,u,⟨o,ho,hc,n,hd⟩,hw⟩:=ra
  exact⟨.int i t::fs,by rw[length_cons,l];rfl,.cons ho hc hd rfl k,fun v hv=>by
   rcases mem_cons.mp hv with rfl|hv
   ·exact⟨i,t,rfl⟩
   ·exact f v hv⟩
theorem lu {a:Addr}{as:List Addr}{g:Addr→nM.α}{n:Nat}{P:Fin→Shared→Prop}(ho:s.heap.get? a=some (seqObj "list" (as.map Value.ref).toArray n)) (vl:as.length≤sizeLine) (hu:A.units < cLine)
  (hr:∀x∈as,jT (((s.heap.update a (Obj.mapSeq fun _=> #[])).push (seqObj "tuple" (as.map Value.ref).toArray 0)).push (seqObj "list" #[] 0)) x (g x))
  (fin:∀ys:List Addr,ys.Perm as→P (.done (.ret .none)) { s with heap:=(((s.heap.update a (Obj.mapSeq fun _=> #[])).push (seqObj "tuple" (as.map Value.ref).toArray 0)).push (seqObj "list" #[] 0)).update a (Obj.mapSeq fun _=>(ys.map Value.ref).toArray) }):
  wpAny (model prog w) A (Builtin.«list.sort» ⟨[.ref a],[]⟩) P E s:=by
 have ha:a < s.heap.objs.size:=lt_size ho
 obtain⟨e1,ho1⟩:∃e1,(s.heap.update a (Obj.mapSeq fun _=>(#[]:Array Value))).get? a=some (seqObj "list" #[] e1):=⟨_,get?_update_seq ho fun _=> #[]⟩
 have hN:(s.heap.update a (Obj.mapSeq fun _=>(#[]:Array Value))).objs.size=s.heap.objs.size:=size_update _ _ _
 have ho6:(((s.heap.update a (Obj.mapSeq fun _=> #[])).push (seqObj "tuple" (as.map Value.ref).toArray 0)).push (seqObj "list" #[] 0)).get? a=some (seqObj "list" #[] e1):=by
  rw[get?_push_ne _ _ _ (by rw[size_push',hN];exact ne_of_lt (lt_succ_of_lt ha)),get?_push_ne _ _ _ (by rw[hN];exact ne_of_lt ha)]
  exact ho1
 have sz:(as.map Value.ref).toArray.size=as.length:=by rw[size_toArray,length_map]
 rw[list_sort_plain]
 refine wpAny_bind (listItems_at ho rfl ?_)
 refine wpAny_bind (listUpdate_at ho rfl ?_ (by rw[sz];exact vl) (zero_le _))
 refine wpAny_bind (seqEpoch_at ho1 rfl ?_)
 refine wpAny_bind (wpAny_newTuple ?_ (by show(as.map Value.ref).length≤_;rw[length_map];exact vl))
 refine wpAny_bind (wpAny_newList ?_ (zero_le _))
 refine wpAny_holding ?_
 show wpAny (model prog w) A _ P E { s with heap:=((s.heap.update a (Obj.mapSeq fun _=> #[])).push (seqObj "tuple" (as.map Value.ref).toArray 0)).push (seqObj "list" #[] 0) }
 dsimp only
 have ends:∀(ys:List Addr) (st':SortSt),failedOf st'=none→(arrOf st').map (·.2)=(ys.map Value.ref).toArray→ys.Perm as→
   wpAny (model prog w) A (do
    let touched:=(←seqEpoch a) != e1
    Builtin.List.listUpdate (.ref a) fun _=>(arrOf st').map (·.2)
    if let some e:=failedOf st' then rule "list.sort.comparison-raised";throw e
    if touched then rule "list.sort.modified";raiseError "ValueError" "list modified during sort"
    ret .none) P E { s with heap:=((s.heap.update a (Obj.mapSeq fun _=> #[])).push (seqObj "tuple" (as.map Value.ref).toArray 0)).push (seqObj "list" #[] 0) }:=fun ys st' hf hy hp=>by
  refine wpAny_bind (seqEpoch_at ho6 rfl ?_)
  rw[hy]
  refine wpAny_bind (listUpdate_at ho6 rfl ?_ (zero_le _) (by rw[size_toArray,length_map,hp.length_eq];first|exact vl|exact Nat.le_succ_of_le vl))
  rw[hf]
  simp only[bne_self_eq_false,false_eq_true,if_false]
  exact wpAny_pure (fin ys hp)
 by_cases c2:(as.map Value.ref).toArray.size < 2
 ·rw[if_pos c2]
  refine wpAny_bind (wpAny_pure ?_)
  rw[if_pos c2,StateT.run_pure]
  refine wpAny_bind (wpAny_pure ?_)
  refine ends as _ rfl ?_ (List.Perm.refl _)
  apply toList_inj.mp
  show(((as.map Value.ref).toArray.zip (as.map Value.ref).toArray).map (·.2)).toList=_
  rw[toList_map,toList_zip]
  exact map_snd_zip (le_refl _)
 ·rw[if_neg c2]
  obtain⟨fs,fl,kt,fi⟩:=o8 as hr
  refine wpAny_bind (kat_kind (T:=.type "int") kt (by rw[fl];rw[sz]at c2;omega) (fun v hv=>?_) rfl ?_)
  ·obtain⟨i,t,rfl⟩:=fi v hv
   exact .now
  rw[if_neg c2]
  have zl:((as.map Value.ref).toArray.zip (as.map Value.ref).toArray).toList=(as.map Value.ref).zip (as.map Value.ref):=by rw[toList_zip]
  refine wpAny_bind (wpAny_mono (iF (κ:=eO as g) (kd:=tuples' true) (xn hu hr) (st:=SortSt.mk' (tuples' true) ((as.map Value.ref).toArray.zip (as.map Value.ref).toArray) #[] 7 none)
    (Q:=fun _ st'=>failedOf st'=none∧cQ (eO as g) (arrOf st').toList ((as.map Value.ref).zip (as.map Value.ref))) rfl rfl rfl (fun p hp=>?_) fun st' f1 f2 f3=>⟨f1,by rw[←zl];exact f3⟩) ?_ fun _ _ e=>e)
  ·have hp':p∈(as.map Value.ref).zip (as.map Value.ref):=by rw[←zl];exact hp
   obtain⟨x,mx,e⟩:=mem_map.mp (of_mem_zip (show(p.1,p.2)∈(as.map Value.ref).zip (as.map Value.ref) from hp')).1
   refine⟨g x,?_⟩
   rw[←e]
   exact if_pos mx
  ·rintro⟨⟨⟩,st'⟩ s2 ⟨rfl,f1,f3⟩
   have pm:=f3.perm.map (fun p:Keyed=>p.2)
   rw[map_snd_zip (le_refl _)]at pm
   have pm2:=pm.map mw
   rw[map_map,map_map,show(mw ∘ Value.ref)=id from rfl,List.map_id]at pm2
   refine ends _ st' f1 ?_ pm2
   apply toList_inj.mp
   rw[toList_map]
   refine List.map_congr_left ?_ |>.trans (map_map ..).symm
   intro p hp
   obtain⟨x,_,e⟩:=mem_map.mp (pm.mem_iff.mp (mem_map_of_mem hp))
   show p.2=Value.ref (mw p.2)
   rw[←e];rfl
end
end TS
namespace L2
open PySem PySem.Spec PyProof.Rows
section
variable {X:Cx}
def mw:Value→Addr
 |.ref a=>a
 |_=>0
def Hk(g:Addr→Int)(v:Value)(i:Int):Prop:=∃a,v=.ref a∧g a=i
theorem pE:∀{as:List Addr}{its:List Value},Vals (as.map V.ref) its→its=as.map Value.ref
 |[],[],_=>rfl
 |[],_::_,h=>by cases h
 |_::_,[],h=>by cases h
 |a::as,v::its,h=>by
  cases h with
  |cons r t=>
   cases r
   rw[map_cons,pE t]
theorem kG:∀(as:List Addr),Vals (as.map V.ref) (as.map Value.ref)
 |[]=>.nil
 |a::as=>.cons rfl (kG as)
inductive Jc(K:PySem.W.Frag)(sp:Sp)(xs:List V)(H:Hp)(Q:VK):Prop
 |mk(p:Addr)(as:List Addr)(g:Addr→Int)(e:xs=[.ref p])(s:cL K H p (as.map V.ref))(hs:∀a∈as,∀Q':VK,Q' (.int (g a)) H→sp [.ref a] H Q' E0)
   (q:∀(l:Addr)(zs:List Addr),H l=none→zs.Perm as→zs.Pairwise (fun a b=>g a≤g b)→(∀i,zs.filter (fun a=>decide (g a=i))=as.filter (fun a=>decide (g a=i)))→Q (.ref l) (upd H l (.lst (zs.map V.ref))))
structure Jq(X:Cx)(x:Str)(sp:Sp):Prop where
 ex:∃(k:Nat) (f:Addr) (fd:FuncData) (ps:List Str),dY X.prog X.w X.K X.mg X.base jC k f fd ps sp∧dr (k+2) X.A∧X.mg x=some (.ref f)∧Binds X.K fd ps []
 gl:Gl X x
 db:(x == ("__debug__" :Str))=false
end
end L2
namespace J
open PySem PySem.Spec PyProof.Rows
open L2 (Cx V cL c8)
end J
namespace L2
open PySem PySem.Spec PyProof.Rows
section
variable {X:Cx}
inductive FI(K:PySem.W.Frag)(x y:V)(H:Hp)(Q:Prop):Prop
 |mk(a b:Addr)(xs ys:List V)(hx:x=.ref a)(hy:y=.ref b)(s:cL K H a xs)(t:cL K H b ys)(l:xs.length=ys.length)
   (he:∀(i:Nat) u v,xs[i]? =some u→ys[i]? =some v→∃p q zs,u=.ref p∧v=.ref q∧c8 K H p zs∧c8 K H q zs∧∀z∈zs,je z z=some true)(q:Q)
end
end L2
namespace J
open PySem PySem.Spec PyProof.Rows
open L2 (Cx V cL c8)
end J
namespace L2
open PySem PySem.Spec PyProof.Rows
section
variable {X:Cx}
theorem AD{P:Program}{w:World}{z:Str}{v:Value}(h:(cO P w).is (Sum.inr z) v=true):∃t,v=.str z t:=by
 cases v with
 |str x t=>
  have e:x=z:=by simpa [cO,iG,Value.isStrOf] using h
  exact⟨t,by rw[e]⟩
 |_=>simp[cO,iG,Value.isStrOf]at h
theorem vn:∀{us:List Value}{zs:List Str},us.length=zs.length→(∀(i:Nat) u z,us[i]? =some u→zs[i]? =some z→∃t,u=.str z t)→StrsAre us zs
 |[],[],_,_=>.nil
 |[],_::_,l,_=>by cases l
 |_::_,[],l,_=>by cases l
 |u::us,z::zs,l,h=>by
  obtain⟨t,rfl⟩:=h 0 u z rfl rfl
  exact .cons _ _ (vn (Nat.succ.inj l) fun i u z h1 h2=>h (i+1) u z h1 h2)
inductive Ej(xs:List V)(H:Hp)(Q:VK):Prop
 |mk(p:Addr)(kvs:List (Key×V))(zs:List Str)(e:xs=[.ref p])(s:H p=some (.dK kvs))(k:kvs.map (·.1)=zs.map Sum.inr)(l:zs.length < 64)(q:∀l zs',H l=none→zs.Nodup→zs'.Perm zs→sortedS zs'=true→Q (.ref l) (upd H l (.lst (zs'.map V.str))))
theorem eZ(hc:X.calm=true):d9 X (.builtin "sorted") (fun xs H Q=>Ej xs H Q):=by
 intro pins s σ H xs us Q I r h
 obtain⟨p,kvs,zs,rfl,hp,hk,l64,q⟩:=h
 obtain⟨u,rfl,rx⟩:=vals1 r
 cases rx
 obtain⟨kz,hsm,vs,kv,o,es,ep,ho,ed,hdat,kof,prs,nd⟩:=BJ I.hok hp
 have kl:vs.length=zs.length:=by
  have:=congrArg List.length hk
  rw[length_map,length_map,kv.length]at this
  exact this
 have hsz:sizeLine=16777216:=sizeLine_eq
 have zat:∀{j:Nat}{k:Key}{x:Value},vs[j]? =some (k,x)→∃z,zs[j]? =some z∧k=Sum.inr z:=fun {j k x} e=>by
  have e1:(vs.map (·.1))[j]? =some k:=by rw[getElem?_map,e];rfl
  rw[←kv.keys,hk,getElem?_map]at e1
  obtain⟨z,h1,h2⟩:=map_eq_some_iff.mp e1
  exact⟨z,h1,h2.symm⟩
 have znd:zs.Nodup:=by
  rw[←kv.keys,hk]at nd
  exact(List.pairwise_map.mp nd).imp fun h e=>h (by rw[e])
 refine call_function_entry_kw kind_sorted plain_sorted entry_sorted (args_sorted1 _) ?_
 unfold Builtin.«sorted»
 refine wpAny_bind (m:=checkCount "sorted" 1 1 _) (wpAny_pure ?_)
 refine wpAny_bind (PySem.W.kdu_collect (PySem.W.kdl_dict (knd:=cO X.prog X.w) (kvs:=vs) (ep:=ep) hsm) (I.ok.hd hc) ⟨o,es,ho,ed,hdat,kof,prs,nd⟩ (by omega) fun h' tk acc kp it=>?_)
 obtain⟨al,ai⟩:=it
 have sa:StrsAre acc.toList zs:=vn (by rw[length_toList];omega) fun i u z h1 h2=>by
  rw[getElem?_toList]at h1
  obtain⟨k,x,e1,e2⟩:=ai i u h1
  obtain⟨z',e3,rfl⟩:=zat e1
  rw[h2]at e3
  cases e3
  exact AD e2
 have al':acc.toList.length=zs.length:=by rw[length_toList];omega
 have pl:(h'.push (seqObj "list" acc.toList.toArray 0)).get? h'.objs.size=some (seqObj "list" acc.toList.toArray 0):=get?_push_size _ rfl
 refine wpAny_bind (wpAny_newList ?_ (by omega))
 refine wpAny_bind (wpAny_holding (wpAny_call_entry slot_list_sort ⟨_,pl,rfl⟩ entry_list_sort (list_sort_treeK strKind_oneLt pl sa.keysOf (fun v₁ v₂ rest e=>keyKind_strs (e ▸ sa)) (by omega) fun st' a1 a2=>?_) (args_list_sort _)))
 obtain⟨ss',b1,b2,b3⟩:=sorted_out_str sa a1 a2
 obtain⟨e,he⟩:=sortedHeap_at (out:=(arrOf st').map (·.2)) pl
 have I':Inv X pins σ H { s with heap:=h',toks:=tk }:=I.un (t':=tk) (Un.kept kp) (I.hok.kept kp)
 refine⟨_,rfl,wpAny_pure ⟨_,rfl,.ref h'.objs.size,_,I'.laid (t':=tk) (o:=.lst (ss'.map V.str)) (fun b u hb=>?_) (le_refl _) ⟨by rw[length_map,b2.length_eq];omega,_,e,oF b1,he⟩,rfl,q _ _ (I'.hok.fresh (le_refl _)) znd b2 b3⟩⟩
 have lt:=lt_size hb
 exact(sortedHeap_old (ne_of_lt lt) (by rw[size_push'];exact lt_succ_of_lt lt)).trans ((get?_push_ne _ _ _ (ne_of_lt lt)).trans hb)
inductive Es(K:PySem.W.Frag)(H:Hp)(z y:V):Prop
 |flat (e:z=y)(f:je z z=some true)
 |tup (w v:Addr)(ws:List V)(hz:z=.ref w)(hy:y=.ref v)(s:c8 K H w ws)(t:c8 K H v ws)(f:∀x∈ws,je x x=some true)
inductive DU(K:PySem.W.Frag)(x y:V)(H:Hp)(Q:Prop):Prop
 |mk(a b:Addr)(xs ys:List V)(hx:x=.ref a)(hy:y=.ref b)(s:cL K H a xs)(t:cL K H b ys)(l:xs.length=ys.length)
   (he:∀(i:Nat) u v,xs[i]? =some u→ys[i]? =some v→∃p q zs ws,u=.ref p∧v=.ref q∧c8 K H p zs∧c8 K H q ws∧zs.length=ws.length∧∀(j:Nat) z y,zs[j]? =some z→ws[j]? =some y→Es K H z y)(q:Q)
end
end L2
namespace J
open PySem PySem.Spec PyProof.Rows
open L2 (Cx V cL c8)
theorem eZ{X:Cx}(hc:X.calm=true):JF X (.builtin "sorted") (fun xs H Q=>L2.Ej xs H Q):=⟨L2.eZ hc⟩
end J
namespace L2
open PySem PySem.Spec PyProof.Rows
section
variable {X:Cx}
inductive E8(K:PySem.W.Frag)(H:Hp)(z y:V):Prop
 |flat (e:z=y)(f:je z z=some true)
 |rows (h:FI K z y H True)
inductive Iw(K:PySem.W.Frag)(x y:V)(H:Hp)(Q:VK):Prop
 |same (a b:Addr)(zs ws:List V)(hx:x=.ref a)(hy:y=.ref b)(s:c8 K H a zs)(t:c8 K H b ws)(l:zs.length=ws.length)(e:∀(j:Nat) z y,zs[j]? =some z→ws[j]? =some y→E8 K H z y)(q:Q (.bl false) H)
end
theorem kO{X:Cx}{e d:Expr}{ty td:TE}{pos:Pos}(hu:X.A.units+1 < cLine)(hi:PE X e ty)(ho:PE X d td)(hm:behindInMarks .NotIn d=false:=by rfl):PE X (.Compare e [.NotIn] [d] pos) (iX ty td):=zq (oT hu hi ho) hm
end L2
namespace J
open PySem PySem.Spec PyProof.Rows
open L2 (Cx V cL c8 TE)
theorem kO{X:Cx}{e d:Expr}{ty td:TE}{pos:Pos}(hu:X.A.units+1 < cLine)(hi:JE X e ty)(ho:JE X d td)(hm:behindInMarks .NotIn d=false:=by rfl):JE X (.Compare e [.NotIn] [d] pos) (L2.iX ty td):=⟨L2.kO hu hi.out ho.out hm⟩
end J
namespace L2
open PySem PySem.Spec PyProof.Rows
section
variable {X:Cx}
inductive Kb(K:PySem.W.Frag)(rv:Bool)(sp:Sp)(xs:List V)(H:Hp)(Q:VK):Prop
 |mk(p:Addr)(as:List Addr)(g:Addr→Int)(e:xs=[.ref p])(s:cL K H p (as.map V.ref))(hs:∀a∈as,∀Q':VK,Q' (.int (g a)) H→sp [.ref a] H Q' E0)
   (q:∀(l:Addr)(ys:List Addr),H l=none→ys.Perm as→ys.Pairwise (fun a b=>g a≤g b)→(∀i,ys.filter (fun a=>decide (g a=i))=(if rv=true then as.reverse else as).filter (fun a=>decide (g a=i)))→Q (.ref l) (upd H l (.lst ((if rv=true then ys.reverse else ys).map V.ref))))
end
end L2
namespace J
open PySem PySem.Spec PyProof.Rows
open L2 (Cx V cL c8)
end J
namespace L2
open PySem PySem.Spec PyProof.Rows
def IE(d:Addr)(o:Obj)(kvs:List (Key×V)):It:=⟨fun i H=>H d=some (.frz o (.dK kvs))∧i < kvs.length,fun i H x H'=>H'=H∧∃z y,kvs[i]? =some (Sum.inr z,y)∧x=.str z,fun i H=>H d=some (.frz o (.dK kvs))∧kvs.length≤i⟩
inductive FG(x:V)(H:Hp)(R:It→Hp→Prop):Prop
 |mk(d:Addr)(kvs:List (Key×V))(e:x=.ref d)(r:Rd H d (.dK kvs))(sk:∀kv∈kvs,∃z,kv.1=Sum.inr z)(q:∀(o:Obj)(H':Hp),(∀b,b≠d→H' b=H b)→H' d=some (.frz o (.dK kvs))→R (IE d o kvs) H')
def IS(tl:TE):TI:=fun σ H R=>tl σ H fun x H1=>FG x H1 R
section
variable {X:Cx}{tg:Expr}
end
end L2
namespace J
open PySem PySem.Spec PyProof.Rows L2
section
variable {X:Cx}{tg e:Expr}{te:TE}
end
end J
namespace L2
open PySem PySem.Spec PyProof.Rows
section
variable {X:Cx}
inductive FU(K:PySem.W.Frag)(H:Hp)(q:Addr):Prop
 |saw (k:Int) (s:c8 K H q [.str "saw",.int k])
 |heard (k:Int) (z:Str) (s:c8 K H q [.str "heard",.int k,.str z])
inductive HZ(K:PySem.W.Frag)(H:Hp)(a:Addr):Prop
 |mk(i j:Int)(z:Str)(q:Addr)(s:c8 K H a [.int i,.int j,.str z,.ref q])(w:FU K H q)
inductive Fh(K:PySem.W.Frag)(xs:List V)(H:Hp)(Q:VK):Prop
 |mk(p:Addr)(as:List Addr)(e:xs=[.ref p])(s:cL K H p (as.map V.ref))(hs:∀a∈as,HZ K H a)
   (q:∀(l:Addr)(ys:List Addr),H l=none→ys.Perm as→Q (.ref l) (upd H l (.lst (ys.map V.ref))))
theorem gT{x:V}{xs:List V}{us:List Value}(r:Vals (x::xs) us):∃u us',us=u::us'∧RelV x u∧Vals xs us':=by
 cases r with
 |cons a b=>exact⟨_,_,rfl,a,b⟩
theorem jH{h h':Heap}{p:Addr}{xs:Array Value}(i:IsTup h p xs)(k:∀b,b < h.objs.size→h'.get? b=h.get? b):h'.IsTuple p xs:=by
 obtain⟨o,ho,r⟩:=i
 exact⟨o,(k _ (lt_size ho)).trans ho,r⟩
theorem zd{pins:List (Addr×Obj)}{σ:St}{H:Hp}{s:Shared}(I:Inv X pins σ H s){h':Heap}(k:∀b,b < s.heap.objs.size→h'.get? b=s.heap.get? b){q:Addr}(w:FU X.K H q):∃x,TS.ip h' q x:=by
 rcases w with ⟨n,t⟩|⟨n,z,t⟩
 ·obtain⟨its,r0,pl,_⟩:=I.tuple t
  obtain⟨u1,us,rfl,⟨t1,rfl⟩,r1⟩:=gT r0
  obtain⟨u2,us,rfl,⟨t2,rfl⟩,r2⟩:=gT r1
  obtain rfl:=Vals.zero r2
  exact⟨_,.saw n t1 t2 (jH pl k)⟩
 ·obtain⟨its,r0,pl,_⟩:=I.tuple t
  obtain⟨u1,us,rfl,⟨t1,rfl⟩,r1⟩:=gT r0
  obtain⟨u2,us,rfl,⟨t2,rfl⟩,r2⟩:=gT r1
  obtain⟨u3,us,rfl,⟨t3,rfl⟩,r3⟩:=gT r2
  obtain rfl:=Vals.zero r3
  exact⟨_,.heard n z t1 t2 t3 (jH pl k)⟩
theorem DF{pins:List (Addr×Obj)}{σ:St}{H:Hp}{s:Shared}(I:Inv X pins σ H s){h':Heap}(k:∀b,b < s.heap.objs.size→h'.get? b=s.heap.get? b){a:Addr}(e:HZ X.K H a):∃x,TS.jW h' a x:=by
 obtain⟨i,j,z,q,t,w⟩:=e
 obtain⟨x,hx⟩:=zd I k w
 obtain⟨its,r0,pl,_⟩:=I.tuple t
 obtain⟨u1,us,rfl,⟨t1,rfl⟩,r1⟩:=gT r0
 obtain⟨u2,us,rfl,⟨t2,rfl⟩,r2⟩:=gT r1
 obtain⟨u3,us,rfl,⟨t3,rfl⟩,r3⟩:=gT r2
 obtain⟨u4,us,rfl,rfl,r4⟩:=gT r3
 obtain rfl:=Vals.zero r4
 exact⟨_,.mk i j z q x t1 t2 t3 (jH pl k) hx⟩
theorem gE(hu:X.A.units+2 < cLine):d9 X (.builtin "sorted") (fun xs H Q=>Fh X.K xs H Q):=by
 intro pins s σ H xs us Q I r h
 obtain⟨p,as,rfl,hq,hs,q⟩:=h
 obtain⟨u,rfl,rx⟩:=vals1 r
 cases rx
 obtain⟨its,rvl,pl,hz⟩:=I.list hq
 obtain rfl:=pE rvl
 rw[length_map]at hz
 refine call_function_entry_kw kind_sorted plain_sorted entry_sorted (args_sorted1 _) ?_
 unfold Builtin.«sorted»
 refine wpAny_bind (m:=checkCount "sorted" 1 1 _) (wpAny_pure ?_)
 refine wpAny_bind (collect_list pl.isList ?_)
 refine wpAny_bind (wpAny_newList ?_)
 have hsz:((s.heap.push (seqObj "list" #[] 0)).update s.heap.objs.size (Obj.mapSeq (· ++(as.map Value.ref).toArray))).objs.size=s.heap.objs.size+1:=by
  rw[size_update,size_push']
 have hoL:(((s.heap.push (seqObj "list" #[] 0)).update s.heap.objs.size (Obj.mapSeq (· ++(as.map Value.ref).toArray))).push (seqObj "list" (as.map Value.ref).toArray 0)).get? (s.heap.objs.size+1)=some (seqObj "list" (as.map Value.ref).toArray 0):=by
  rw[←hsz]
  exact get?_push_size _ rfl
 show wpAny _ _ _ _ _ { s with heap:=((s.heap.push (seqObj "list" #[] 0)).update s.heap.objs.size (Obj.mapSeq (· ++(as.map Value.ref).toArray))).push (seqObj "list" (as.map Value.ref).toArray 0) }
 rw[hsz]
 have hold:∀b,b < s.heap.objs.size→(((s.heap.push (seqObj "list" #[] 0)).update s.heap.objs.size (Obj.mapSeq (· ++(as.map Value.ref).toArray))).push (seqObj "list" (as.map Value.ref).toArray 0)).get? b=s.heap.get? b:=fun b hb=>by
  rw[get?_push_ne _ _ _ (by rw[hsz];exact ne_of_lt (lt_succ_of_lt hb)),get?_update_ne _ _ _ _ (ne_of_lt hb),get?_push_ne _ _ _ (ne_of_lt hb)]
 have hs2:(((s.heap.push (seqObj "list" #[] 0)).update s.heap.objs.size (Obj.mapSeq (· ++(as.map Value.ref).toArray))).push (seqObj "list" (as.map Value.ref).toArray 0)).objs.size=s.heap.objs.size+2:=by rw[size_push',hsz]
 generalize ((s.heap.push (seqObj "list" #[] 0)).update s.heap.objs.size (Obj.mapSeq (· ++(as.map Value.ref).toArray))).push (seqObj "list" (as.map Value.ref).toArray 0)=h2 at hoL hold hs2
 have k1:∀b,b < s.heap.objs.size→(((h2.update (s.heap.objs.size+1) (Obj.mapSeq fun _=> #[])).push (seqObj "tuple" (as.map Value.ref).toArray 0)).push (seqObj "list" #[] 0)).get? b=s.heap.get? b:=fun b hb=>by
  rw[get?_push_ne _ _ _ (ne_of_lt (by rw[size_push',size_update,hs2];omega)),get?_push_ne _ _ _ (ne_of_lt (by rw[size_update,hs2];omega)),get?_update_ne _ _ _ _ (ne_of_lt (by omega)),hold b hb]
 obtain⟨g,hg⟩:∃g:Addr→TS.mL.α,∀a∈as,TS.jW (((h2.update (s.heap.objs.size+1) (Obj.mapSeq fun _=> #[])).push (seqObj "tuple" (as.map Value.ref).toArray 0)).push (seqObj "list" #[] 0)) a (g a):=by
  have ex:=fun a (ha:a∈as)=>DF I k1 (hs a ha)
  haveI:Nonempty TS.mL.α:=⟨((0:Int),(0:Int),([]:List Nat),([]:List Nat),(0:Int),([]:List Nat))⟩
  exact⟨fun a=>Classical.epsilon fun x=>TS.jW _ a x,fun a ha=>Classical.epsilon_spec (ex a ha)⟩
 refine wpAny_bind (wpAny_holding (wpAny_call_entry slot_list_sort ⟨_,hoL,rfl⟩ entry_list_sort (TS.mI (g:=g) hoL hz (by show X.A.units+1+1 < cLine;omega) hg fun ys pm=>?_) (args_list_sort _)))
 refine⟨_,rfl,wpAny_pure ⟨_,rfl,?_⟩⟩
 have ho6:∃e1,(((h2.update (s.heap.objs.size+1) (Obj.mapSeq fun _=> #[])).push (seqObj "tuple" (as.map Value.ref).toArray 0)).push (seqObj "list" #[] 0)).get? (s.heap.objs.size+1)=some (seqObj "list" #[] e1):=by
  obtain⟨e1,he⟩:∃e1,(h2.update (s.heap.objs.size+1) (Obj.mapSeq fun _=>(#[]:Array Value))).get? (s.heap.objs.size+1)=some (seqObj "list" #[] e1):=⟨_,get?_update_seq hoL fun _=> #[]⟩
  exact⟨e1,by
   rw[get?_push_ne _ _ _ (ne_of_lt (by rw[size_push',size_update,hs2];omega)),get?_push_ne _ _ _ (ne_of_lt (by rw[size_update,hs2];omega))]
   exact he⟩
 obtain⟨e1,ho6⟩:=ho6
 have hend:=get?_update_seq ho6 (fun _=>(ys.map Value.ref).toArray)
 refine⟨.ref (s.heap.objs.size+1),_,I.laid (t':=s.toks) (o:=.lst (ys.map V.ref)) (fun b u hb=>?_) (le_succ _) ⟨by rw[length_map,pm.length_eq];exact hz,_,_,kG ys,hend⟩,rfl,q _ _ (I.hok.fresh (le_succ _)) pm⟩
 have lt:=lt_size hb
 rw[get?_update_ne _ _ _ _ (ne_of_lt (lt_succ_of_lt lt)),k1 b lt]
 exact hb
end
end L2
namespace J
open PySem L2
theorem gE{X:Cx}(hu:X.A.units+2 < cLine):JF X (.builtin "sorted") (fun xs H Q=>L2.Fh X.K xs H Q):=⟨L2.gE hu⟩
end J
namespace L2
open PySem PySem.Spec PyProof.Rows
structure Gv(P:Program)(w:World)(outer:List Env)(H H':Hp)(s:Shared)(ea:Addr)(cls:Value)(B:Heap)(s':Shared):Prop where
 os:s'.os=s.os
 bare:AllBare s'.gens
 un:Un (tH outer) [] H H' s.heap s'.heap
 hok:jb P w H' s'.heap
 tr:∀b o,H' b≠none→s'.heap.get? b=some o→B.get? b=some o
 kp:∀b o,s.heap.get? b=some o→H b=none→b ∉ tH outer→B.get? b=some o
 th:∀b o,s.heap.get? b=some o→b ∉ tH outer→∃o',B.get? b=some o'
 fl:∃a0,Heap.FlyingW B outer ea cls a0 s'.heap
def FV(P:Program)(w:World):xH:=fun outer H s E e s'=>∃ea cls B H',e=.ref ea∧Gv P w outer H H' s ea cls B s'∧E cls none H'
section
variable {P:Program}{w:World}{outer:List Env}{H H':Hp}{s s':Shared}{ea:Addr}{cls:Value}{B:Heap}
end
def qN:List Str:=["__init__", "__getattribute__", "__getattr__", "__class__"]
def DP:List Value:=[.type "ValueError",.type "Exception",.type "BaseException",.type "object"]
structure ue(K:PySem.W.Frag)(C:Addr)(bm:List Value):Prop where
 ex:∃(nm q:Str) (N:Addr) (bs:List Value) (hdct:Bool) (sn:List Str) (sub:List Value) (ab:Bool) (col:Option Bool) (dd:Option Addr) (k0 k1 k2 k3 k5:Option Value),
  K.lookup C=some (excClassObj nm q C N bs bm hdct sn sub ab col dd k0 k1 k2 k3 k5 "ValueError.__new__")∧PySem.W.nsOkIn K N=true∧(∀n∈qN,nsIn K N n=some none)∧PySem.W.tailIn K DP bm=true
section
variable {X:Cx}
end
structure Iu(P:Program)(w:World)(K:PySem.W.Frag)(mg:Str→Option Value)(base:Heap)(k:Nat)(x:Str)(sp:Sp):Prop where
 ex:∃(f:Addr) (fd:FuncData) (ps:List Str),dY P w K mg base (FV P w) k f fd ps sp∧mg x=some (.ref f)∧keepIn K (.ref f)=true∧Binds K fd ps []
def HD(ea C:Addr):Heap→Prop:=fun h=>∃ob,h.get? ea=some ob∧ob.cls=.ref C
inductive XP(X:Cx)(pins:List (Addr×Obj))(σ:St)(E:XK)(e:Value)(s':Shared):Prop
 |mk(H H':Hp)(s:Shared)(ea:Addr)(cls:Value)(B:Heap)(I:Inv X pins σ H s)(he:e=.ref ea)(F:Gv X.prog X.w X.stack H H' s ea cls B s')(q:E cls none H')
def J3(X:Cx)(st:List Stmt)(t:XK→TS):Prop:=∀(pins:List (Addr×Obj)) (s:Shared) (σ:St) (H:Hp) (D:Ends) (E:XK),Inv X pins σ H s→t E D σ H→wpAny (model X.prog X.w) X.A (execs st X.env) (SP X pins D) (XP X pins σ E) s
section
variable {X:Cx}
abbrev Cx.mk'(X:Cx)(e:Value):Cx:={ X with A:=X.A.mark (some e),calm:=false,xe:=fun _ _=>False }
end
section
variable {X:Cx}
end
section
variable {X:Cx}
inductive I0(X:Cx)(Ck:Addr)(i j:Nat)(D:Ends)(σ:St)(cls:Value)(H':Hp):Prop
 |mk(C:Addr)(bm:List Value)(e:cls=.ref C)(O:ue X.K C bm)(sub:(Value.ref C::bm).contains (.ref Ck)=true)(q:∀ea,H' ea=none→D.nx (((σ.set i (some (.ref ea))).set j (some (.ref ea))).set i none) (upd H' ea (.ext (HD ea C))))
end
section
variable {prog:Program}{w:World}{A:Around}{E:Value→Shared→Prop}{h:Heap}{g:Array GenState}{d:Drawn}{t:Nat}{os:OsState}{a:Addr}{o:Obj}{vs:Array Value}
structure Ks(h:Heap)(C Kc:Addr):Prop where
 ex:∃(nm q:Str) (N:Addr) (bs:List Value) (hdct:Bool) (sn:List Str) (sub:List Value) (ab:Bool) (col:Option Bool) (dd:Option Addr) (k0 k1 k2 k3 k5:Option Value) (newId:String) (mN:Str→Option Value),
  h.get? C=some (excClassObj nm q C N bs (.ref Kc::DP) hdct sn sub ab col dd k0 k1 k2 k3 k5 newId)∧h.Ns N mN∧∀n∈qN,mN n=none
 ek:∃(nm q:Str) (N:Addr) (bs:List Value) (hdct:Bool) (sn:List Str) (sub:List Value) (ab:Bool) (col:Option Bool) (dd:Option Addr) (k0 k1 k2 k3 k5:Option Value) (newId:String) (mN:Str→Option Value),
  h.get? Kc=some (excClassObj nm q Kc N bs DP hdct sn sub ab col dd k0 k1 k2 k3 k5 newId)∧h.Ns N mN∧∀n∈qN,mN n=none
end
section
open PySem.F
variable {prog:Program}{w:World}{A:Around}{E:Value→Shared→Prop}{h:Heap}{g:Array GenState}{d:Drawn}{t:Nat}{os:OsState}{a C Kc:Addr}{o:Obj}
end
inductive JQ(K:PySem.W.Frag)(xs:List V)(H:Hp)(Q:VK):Prop
 |own (ea C Kc D:Addr)(b:Bool)(e:xs=[.ref ea,.ref D])(h:H ea=some (.ext (HD ea C)))(OC:ue K C (.ref Kc::DP))(OK:ue K Kc DP)(k:kitOne K (.ref C) (.ref D)=some b)(q:Q (.bl b) H)
 |ty (ea C Kc:Addr)(n:String)(b:Bool)(e:xs=[.ref ea,.ty n])(h:H ea=some (.ext (HD ea C)))(OC:ue K C (.ref Kc::DP))(OK:ue K Kc DP)(k:kitOne K (.ref C) (.type n)=some b)(q:Q (.bl b) H)
section
variable {X:Cx}
inductive CL(K:PySem.W.Frag)(H:Hp)(z y:V):Prop
 |flat (e:z=y)(f:je z z=some true)
 |rows (h:DU K z y H True)
inductive GA(K:PySem.W.Frag)(x y:V)(H:Hp)(Q:VK):Prop
 |same (a b:Addr)(zs ws:List V)(hx:x=.ref a)(hy:y=.ref b)(s:c8 K H a zs)(t:c8 K H b ws)(l:zs.length=ws.length)(e:∀(j:Nat) z y,zs[j]? =some z→ws[j]? =some y→CL K H z y)(q:Q (.bl false) H)
end
end L2
namespace J
open PySem PySem.Spec PyProof.Rows
open L2 (Cx V Hp St VK TE TT TA TS TG nJ TI TO R2 Sp XK E0 jC dY dr Gl Binds RelV Vals cL c8 eX lM cJ Here Iu FV ue)
section
variable {P:Program}{w:World}{K:PySem.W.Frag}{mg:Str→Option Value}{base:Heap}{x qual m:Str}{st:Stmt}{f C:Addr}{fd:FuncData}{N ps:List Str}{k:Nat}{sp:Sp}{xr:Str}{bF:List Value}
end
section
variable {P:Program}{w:World}{K:PySem.W.Frag}{mg:Str→Option Value}{base:Heap}{x qual m:Str}{st:Stmt}{f C:Addr}{fd:FuncData}{N ps:List Str}{k j:Nat}{sp:Sp}
structure Km(X:Cx)(st:List Stmt)(t:XK→TS):Prop where
 out:L2.J3 X st t
end
end J
namespace L2
open PySem PySem.Spec PyProof.Rows
section
variable {M:Model}{A:Around}{Ex:Value→Shared→Prop}{s:Shared}
end
def J1(X:Cx)(E:XK):Prop:=∀(pins:List (Addr×Obj)) (σ:St) (H1 H':Hp) (s1 s2:Shared) (ea:Addr) (cls:Value) (B:Heap) (C:Addr) (m:Str→Option Value) (cenv:Env) (use:Option (Value→Sem Unit)) (Q:Value→Shared→Prop) (acc:Value),Inv X pins σ H1 s1→Gv X.prog X.w X.stack H1 H' s1 ea cls B s2→E cls none H'→s1.heap.Ns C m→H1 C=none→C ∉ tH X.stack→X.s₀.heap.get? C=none→cenv.frame=X.env.frame→
 notedBy (model X.prog X.w) X.A cenv (fun e s'=>compPost (model X.prog X.w) X.A X.xe use Q acc C (.error e) s') (.ref ea) s2
def IU(X:Cx)(c:Expr)(t:XK→St→Hp→Prop):Prop:=∀(pins:List (Addr×Obj)) (s:Shared) (σ:St) (H:Hp) (E:XK),Inv X pins σ H s→t E σ H→wpAny (model X.prog X.w) X.A (isTrue c X.env (eval c X.env)) (fun _ _=>False) (XP X pins σ E) s
structure Gy(J:It)(n:Nat)(is:List Nat)(g:TG)(tx:XK→St→Hp→Prop)(E:XK)(σ:St)(H1:Hp):Prop where
 h:∀D,H1 D=none→J.go 0 (upd H1 D (.lst []))∧∀(os:St) v H3,os.length=n→J.yld 0 (upd H1 D (.lst [])) v H3→g v (os++dJ is σ) H3 fun σ' H4=>(∃os':St,os'.length=n∧σ'=os'++dJ is σ)∧tx E σ' H4
section
variable {X:Cx}{xs:List Str}{tg:Expr}{pos:Pos}{elt iter:Expr}{ct:Expr}{scope:Scope}{wi:TI}{g:TG}{tx:XK→St→Hp→Prop}{is:List Nat}{ns:List Str}{E:XK}
end
structure IQ(X:Cx)(x:Str)(sp:Sp):Prop where
 ex:∃(k:Nat) (f:Addr) (fd:FuncData) (ps:List Str),dY X.prog X.w X.K X.mg X.base (FV X.prog X.w) k f fd ps sp∧dr k X.A∧X.mg x=some (.ref f)∧keepIn X.K (.ref f)=true∧Binds X.K fd ps []
 db:(x == ("__debug__" :Str))=false
end L2
namespace J
open PySem PySem.Spec PyProof.Rows
open L2 (Cx V Hp St VK TE TT TA TS TG nJ TI TO R2 Sp XK E0 jC dY dr Gl Binds RelV Vals cL c8 eX lM cJ Here Iu FV ue)
section
variable {P:Program}{w:World}{K:PySem.W.Frag}{mg:Str→Option Value}{base:Heap}{x qual m:Str}{st:Stmt}{f C:Addr}{fd:FuncData}{N ps:List Str}{k j:Nat}{sp:Sp}
structure Kn(X:Cx)(c:Expr)(t:XK→L2.St→Hp→Prop):Prop where
 out:L2.IU X c t
end
end J
namespace L2
open PySem PySem.Spec PyProof.Rows
def kT(c:Addr)(qual:Str):Heap→Prop:=fun h=>∃oc vs t,h.get? c=some oc∧oc.data=.fields vs∧vs[1]? =some (.str qual t)
def FJ(env:Env)(scope:Scope)(cl:List (Str×Addr)):Prop:=(∀y c,cl.lookup y=some c→env.cells.lookup y=some c)∧∀y∈scope.names,y.2=.free→cl.lookup y.1=env.cells.lookup y.1
def kj(env:Env)(name qual:Str)(params:Arguments)(body:List Stmt)(scope:Scope)(c q:Addr):Heap→Prop:=fun h=>∃cl ctv doc pm,FJ env scope cl∧h.get? q=some (fnMade name qual params body scope cl doc pm c ctv)
theorem yD{env:Env}{name qual:Str}{params:Arguments}{body:List Stmt}{scope:Scope}{c q:Addr}:∀h1 h2:Heap,kj env name qual params body scope c q h1→(∀o,h1.get? q=some o→h2.get? q=some o)→kj env name qual params body scope c q h2:=fun h1 h2 h k=>by
 obtain⟨cl,ctv,doc,pm,e,g⟩:=h
 exact⟨cl,ctv,doc,pm,e,k _ g⟩
theorem DV{c:Addr}{qual:Str}:∀h1 h2:Heap,kT c qual h1→(∀o,h1.get? c=some o→h2.get? c=some o)→kT c qual h2:=fun h1 h2 h k=>by
 obtain⟨oc,vs,t,e,r⟩:=h
 exact⟨oc,vs,t,k _ e,r⟩
theorem kT.rec{h:Heap}{c:Addr}{qual:Str}(x:kT c qual h):h.CodeRec (.ref c) qual:=by
 obtain⟨oc,vs,t,e,d,v⟩:=x
 exact⟨c,oc,vs,t,rfl,e,d,v⟩
structure l5(ps loc fs:List Str)(sc:Scope):Prop where
 kind:sc.kind=.function
 co:sc.isCoroutine=false
 gen:sc.isGenerator=false
 nd:(ps++loc++fs).Nodup
 par:∀x∈ps,sc.names.lookup x=some .local
 fre:∀x∈fs,sc.names.lookup x=some .free
 nocell:∀y∈sc.names,y.2≠.cell
structure BI(scope:Scope)(cl:List (Str×Addr))(fs:List Str)(fv:List V)(s:Shared)(H:Hp):Prop where
 inj:∀x y c,cl.lookup x=some c→cl.lookup y=some c→x=y
 has:∀x,scope.names.lookup x=some .free→∃c,cl.lookup x=some c
 cell:∀x c,cl.lookup x=some c→(∃v,s.heap.IsCell c v)∧H c=none
 val:∀(i:Nat) x v,fs[i]? =some x→fv[i]? =some v→∃c u,cl.lookup x=some c∧s.heap.IsCell c (some u)∧RelV v u
def wH(P:Program)(w:World)(K:PySem.W.Frag)(mg:Str→Option Value)(base:Heap)(N:List Str)(qual:Str)(scope:Scope)(f:Addr)(cd:Value)(cl:List (Str×Addr))(A:Around)(outer:List Env)(s:Shared)(H:Hp)(E:XK):Cx where
 prog:=P
 w:=w
 K:=K
 mg:=mg
 base:=base
 A:=A.deeper (envX qual scope s.heap.objs.size f cd cl)
 N:=N
 s₀:=s
 H₀:=H
 env:=envX qual scope s.heap.objs.size f cd cl
 outer:=outer
 stack:=envX qual scope s.heap.objs.size f cd cl::outer
 ex:=[]
 calm:=true
 fn:=fun _=>false
 pn:=[]
 xe:=fun e s'=>wpAny (model P w) (A.deeper (envX qual scope s.heap.objs.size f cd cl)) (leaving (envX qual scope s.heap.objs.size f cd cl) e) (fun _ s''=>jC outer H s E e s'') (fun e' s''=>jC outer H s E e' s'') s'
def fH(vs:List V)(loc:List Str)(fv:List V):St:=vs.map some++List.replicate loc.length none++fv.map some
theorem nF{ps:List Str}{us:List Value}{i:Nat}{x:Str}{u:Value}(nd:ps.Nodup)(hp:ps[i]? =some x)(hu:us[i]? =some u)(hl:us.length=ps.length):(ps.zip us).reverse.lookup x=some u:=by
 have m:(x,u)∈(ps.zip us).reverse:=mem_reverse.mpr (mem_of_getElem? (i:=i) (by rw[List.getElem?_zip_eq_some];exact⟨hp,hu⟩))
 have key:∀{l:List (Str×Value)},(l.map (·.1)).Nodup→(x,u)∈l→l.lookup x=some u:=by
  intro l
  induction l with
  |nil=>intro _ h;cases h
  |cons a r ih=>
   intro n h
   obtain⟨k,v⟩:=a
   rw[lookup_cons]
   rcases mem_cons.mp h with e|h'
   ·cases e
    simp
   ·have n':k ∉ r.map (·.1):=(nodup_cons.mp n).1
    have ne:(x == k)=false:=by
     rw[beq_eq_false_iff_ne]
     rintro rfl
     exact n' (mem_map.mpr ⟨_,h',rfl⟩)
    rw[ne]
    exact ih (nodup_cons.mp n).2 h'
 refine key ?_ m
 rw[List.map_reverse,(List.reverse_perm _).nodup_iff]
 have e:(ps.zip us).map (fun x=>x.fst)=ps:=List.map_fst_zip (by omega)
 rw[e]
 exact nd
theorem zx{P:Program}{w:World}{K:PySem.W.Frag}{mg:Str→Option Value}{base:Heap}{k:Nat}{q c':Addr}{name qual:Str}{params:Arguments}{body:List Stmt}{scope:Scope}{cl:List (Str×Addr)}{doc pm ctv:Value}{ps loc fs:List Str}{fv vs:List V}{us:List Value}{A:Around}{outer:List Env}{s:Shared}{H:Hp}{args:Args}{Q:VK}{E:XK}
  (hq:s.heap.get? q=some (fnMade name qual params body scope cl doc pm c' ctv))(hcd:s.heap.CodeRec (.ref c') qual)(S:l5 ps loc fs scope)(hr:dr (k+1) A)(e0:qB P w K mg base A outer s H)
  (hb:BindsTo s (fnX name qual params body scope cl .none .none doc pm none (.ref c') ctv) args (ps.zip us))(r:Vals vs us)(hl:vs.length=ps.length)(hf:fv.length=fs.length)(ce:BI scope cl fs fv s H)
  (hbody:∃t,tE (wH P w K mg base (ps++loc++fs) qual scope q (.ref c') cl A outer s H E) body t∧t { nx:=fun _ H'=>Q .non H',rt:=Q } (fH vs loc fv) H):
  codeAny (model P w) A (.call (.ref q) args) (CR jC outer P w H s Q E) s:=by
 have lim:s.heap.NoLimit:=e0.mod.nolimit.keeps fun b o e=>(e0.bs b o e).1
 have ul:us.length=ps.length:=by rw[←r.length];exact hl
 refine codeAny_call_function hr.depth hq rfl S.co S.gen rfl hcd (hb _ _ _ _ ?_)
 refine wpAny_newFunctionEnv (hk:=S.kind) S.nocell (fun y hy=>S.par _ (of_mem_zip hy).1) fun h1 hns hsb=>?_
 have kp:∀b o,s.heap.get? b=some o→h1.get? b=some o:=fun b o e=>hsb.extBut b o (ne_of_lt (lt_size e)) (get?_push_of_some _ e)
 refine⟨lim.keeps kp,codeAny_func ?_⟩
 obtain⟨t,ht,hq'⟩:=hbody
 have ndP:ps.Nodup:=(nodup_append.mp (nodup_append.mp S.nd).1).1
 have I:Inv (wH P w K mg base (ps++loc++fs) qual scope q (.ref c') cl A outer s H E) [] (fH vs loc fv) H { s with heap:=h1,toks:=s.toks+(ps.zip us).length }:=by
  have noA:∀b:Addr,b ∉ (wH P w K mg base (ps++loc++fs) qual scope q (.ref c') cl A outer s H E).ex:=fun b z=>absurd (show b∈([]:List Addr) from z) (by simp)
  refine⟨⟨e0.mod,S.kind,rfl,rfl,le_refl _,fun y z c h1 h2=>ce.inj y z c h1 h2,fun y hy=>?_,fun y c h1 h2=>?_,fun _=>hr.hd,Around.frames_deeper e0.frames,.inr ⟨rfl,rfl⟩,fun b z=>absurd z (noA b),e0.bs,e0.bsz,fun b _ _=>noA b,fun b z=>absurd z (noA b),e0.kP,e0.frf⟩,
   rfl,e0.bare,Un.kept kp,⟨_,hns,fun i y v h1 h2 h3=>?_⟩,fun y c h=>?_,e0.hok.fresh (le_refl _),fun y c h=>(ce.cell y c h).2,fun p hp=>absurd (show p∈([]:List (Addr×Obj)) from hp) (by simp),e0.hok.kept kp,?_⟩
  ·have hy:scope.names.lookup y=some .cell∨scope.names.lookup y=some .free:=hy
   rcases hy with hy|hy
   ·exact absurd rfl (S.nocell _ (PySem.mem_of_lookup hy))
   ·exact ce.has y hy
  ·exact nomatch (show false=true from h1)
  ·have h1:(ps++loc++fs)[i]? =some y:=h1
   unfold fH at h2
   have ml:(vs.map (some:V→Option V)).length=ps.length:=by rw[length_map,hl]
   by_cases hi:i < ps.length
   ·rw[append_assoc,getElem?_append_left hi]at h1
    rw[append_assoc,getElem?_append_left (by rw[ml];exact hi),getElem?_map]at h2
    obtain⟨v',hv',e⟩:=map_eq_some_iff.mp h2
    cases e
    obtain⟨u,hu,rv⟩:=r.get hv'
    exact⟨u,rv,.inl ⟨S.par y (mem_of_getElem? h1),nF ndP h1 hu ul⟩⟩
   ·by_cases hj:i < ps.length+loc.length
    ·rw[getElem?_append_left (by rw[length_append,ml,length_replicate];exact hj),getElem?_append_right (by rw[ml];omega),ml,List.getElem?_replicate,if_pos (by omega)]at h2
     cases h2
    ·rw[getElem?_append_right (by rw[length_append,ml,length_replicate];omega),length_append,ml,length_replicate,getElem?_map]at h2
     rw[getElem?_append_right (by rw[length_append];omega),length_append]at h1
     obtain⟨v',hv',e⟩:=map_eq_some_iff.mp h2
     cases e
     obtain⟨c,u,h4,h5,rv⟩:=ce.val _ y v h1 hv'
     obtain⟨o,ho,hd⟩:=h5
     exact⟨u,rv,.inr ⟨.inr (S.fre y (mem_of_getElem? h1)),c,h4,o,kp _ _ ho,hd⟩⟩
  ·obtain⟨⟨v,o,ho,hd⟩,_⟩:=ce.cell y c h
   exact⟨v,o,kp _ _ ho,hd⟩
  ·unfold fH
   show _=(ps++loc++fs).length
   simp only[length_append,length_map,length_replicate]
   omega
 refine wpAny_mono (ht [] _ (fH vs loc fv) H _ I hq') (fun fl s' hs=>?_) fun e s' hs=>hs
 have fin:∀{σ':St}{H':Hp}{v:V}{u:Value},Inv (wH P w K mg base (ps++loc++fs) qual scope q (.ref c') cl A outer s H E) [] σ' H' s'→RelV v u→Q v H'→CE outer P w H s Q u s':=
  fun {σ' H' v u} J rv q=>⟨v,H',J.os,J.bare,J.base,J.hok,rv,q⟩
 cases fl with
 |ret u=>
  obtain⟨v,σ',H',J,rv,q⟩:=hs
  exact fin J rv q
 |next=>
  obtain⟨σ',H',J,q⟩:=hs
  exact fin (v:=V.non) (u:=Value.none) J rfl q
 |brk=>
  obtain⟨_,_,_,q⟩:=hs
  exact False.elim q
 |cont=>
  obtain⟨_,_,_,q⟩:=hs
  exact False.elim q
def jE(mg:Str→Option Value)(base:Heap):Prop:=∃bm o,mg "__builtins__" =some (.ref bm)∧bm≠builtinsNs∧bm≠mainGlobals∧base.get? bm=some o∧o.cls=.type "module" ∧o.dict=some builtinsNs∧o.data=.plain
def B8(env:Env)(P0:Addr)(name qual:Str)(params:Arguments)(body:List Stmt)(scope:Scope)(pos:Pos)(i:Nat):TS:=fun D σ H=>∃ps,H P0=some (.tbl ps)∧TriplesOk ps.toList∧
 ((codeAmong pos ps.toList=none∧∀c q,H c=none→H q=none→q≠c→D.nx (σ.set i (some (.ref q))) (upd (upd (upd H P0 (.tbl (ps++ #[rawInt pos.line,rawInt pos.col,.ref c]))) c (.ext (kT c qual))) q (.ext (kj env name qual params body scope c q))))∨
  ∃c,codeAmong pos ps.toList=some (.ref c)∧H c=some (.ext (kT c qual))∧∀q,H q=none→D.nx (σ.set i (some (.ref q))) (upd H q (.ext (kj env name qual params body scope c q))))
theorem Cf{X:Cx}{name qual:Str}{params:Arguments}{body:List Stmt}{scope:Scope}{pos:Pos}{i:Nat}{c0 P0:Addr}(hnd:X.N.Nodup)(hi:X.N[i]? =some name)(hl:Loc X.env.scope name)(hf:X.fn name=true∨X.env.scope.names.lookup name=some .local)
  (hd0:params.defaults=[])(hk0:params.kw_defaults=[])(ha:annTrees params none X.env=[])(hq:qualnameIn X.env name name=qual)(hcode:X.env.code=.ref c0)(C:CodeHd X.base c0 P0)(hb:jE X.mg X.base)
  (hfr:∀y∈scope.names,y.2=.free→X.env.scope.names.lookup y.1=some .cell):PS X (.FunctionDef name params body [] none [] scope none name pos) (B8 X.env P0 name qual params body scope pos i):=by
 intro pins s σ H D I h
 obtain⟨ps,hP,ht,h⟩:=h
 obtain⟨cl,hcl,cA,cB⟩:=nA (env:=X.env) (scope:=scope) (fun y hy hf=>I.ok.has y.1 (.inl (hfr y hy hf)))
 have hPo:s.heap.get? P0=some (tabObj ps):=I.hok P0 _ hP
 have hg:s.heap.Ns mainGlobals X.mg:=I.mod.glob.keeps I.bk
 obtain⟨bm,ob,b1,b2,b3,b4,b5⟩:=hb
 have nP:∀b o,X.base.get? b=some o→b≠P0:=fun b o e z=>by
  have:=(I.bs b o e).2
  rw[z,hP]at this
  cases this
 have hgP:mainGlobals≠P0:=by
  obtain⟨o,_,_,e,_⟩:=I.mod.glob
  exact nP _ o e
 have hbA:s.heap.BuiltinsAt X.mg P0:=⟨bm,ob,b1,b2,b3,nP _ _ b4,I.bk _ _ b4,b5⟩
 have neP:∀{b:Addr},H b=none→b≠P0:=fun {b} n z=>by
  rw[z,hP]at n
  cases n
 refine PySem.W.nestDef_K hd0 hk0 ha ?_
 rw[hq]
 rcases h with ⟨hn,h⟩|⟨c,hc,hcd,h⟩
 ·refine PySem.W.makeFunction_K hcl I.ok.glob hg hcode (C.keeps I.bk) hPo ht hn hgP hbA fun c' ctv doc h' tk hx hge hlt hrec htb=>?_
  have szl:s.heap.objs.size≤h'.objs.size:=le_of_lt (Nat.lt_of_le_of_lt hge hlt)
  have nc:H c'=none:=I.hok.fresh hge
  have nq:H h'.objs.size=none:=I.hok.fresh szl
  have ncq:h'.objs.size≠c':=ne_of_gt hlt
  have hqo:(h'.push (fnMade name qual params body scope cl doc ((X.mg "__name__").getD .none) c' ctv)).get? h'.objs.size=some (fnMade name qual params body scope cl doc ((X.mg "__name__").getD .none) c' ctv):=get?_push_size _ rfl
  generalize hF:fnMade name qual params body scope cl doc ((X.mg "__name__").getD .none) c' ctv=F at hqo ⊢
  have kp:∀b o,b≠P0→s.heap.get? b=some o→(h'.push F).get? b=some o:=fun b o n e=>get?_push_of_some _ (hx b o n e)
  have htb':(h'.push F).get? P0=some (tabObj (ps++ #[rawInt pos.line,rawInt pos.col,.ref c'])):=get?_push_of_some _ htb
  have up3:∀{b:Addr}{o o1 o2 o3:HO},H b=some o→b≠P0→upd (upd (upd H P0 o1) c' o2) h'.objs.size o3 b=some o:=fun {b o o1 o2 o3} e n=>by
   rw[cH (cF e nq),cH (cF e nc),cH n]
   exact e
  have neT:∀{b:Addr}{o:HO},H b=some o→(∀ps,o≠.tbl ps)→b≠P0:=fun {b o} e n z=>by
   rw[z,hP]at e
   cases e
   exact n _ rfl
  have hok:jb X.prog X.w (upd (upd (upd H P0 (.tbl (ps++ #[rawInt pos.line,rawInt pos.col,.ref c']))) c' (.ext (kT c' qual))) h'.objs.size (.ext (kj X.env name qual params body scope c' h'.objs.size))) (h'.push F):=by
   intro b u e
   by_cases hbq:b=h'.objs.size
   ·subst hbq
    rw[cE]at e
    cases e
    exact⟨⟨cl,ctv,doc,_,⟨cA,cB⟩,by rw[hqo,←hF]⟩,⟨_,hqo⟩,yD⟩
   ·rw[cH hbq]at e
    by_cases hbc:b=c'
    ·subst hbc
     rw[cE]at e
     cases e
     obtain⟨c2,oc,vs,t,e2,e3,e4,e5⟩:=hrec
     cases e2
     exact⟨⟨oc,vs,t,get?_push_of_some _ e3,e4,e5⟩,⟨_,get?_push_of_some _ e3⟩,DV⟩
    ·rw[cH hbc]at e
     by_cases hbP:b=P0
     ·subst hbP
      rw[cE]at e
      cases e
      exact htb'
     ·rw[cH hbP]at e
      refine(I.hok b u e).nG (fun d v hd q=>kp d v ?_ q) (fun d q=>up3 q (neT q (by intro _ z;cases z))) fun d xs q=>up3 q (neT q (by intro _ z;cases z))
      rintro rfl
      rcases hd with z|z
      ·exact hbP z.symm
      ·rw[hP]at z
       cases z
  have I':Inv X pins σ (upd (upd (upd H P0 (.tbl (ps++ #[rawInt pos.line,rawInt pos.col,.ref c']))) c' (.ext (kT c' qual))) h'.objs.size (.ext (kj X.env name qual params body scope c' h'.objs.size))) { s with heap:=h'.push F,toks:=tk }:=by
   refine I.step (g':=s.gens) (d':=s.drawn) (ch:=[]) (fun _ z=>nomatch z) (fun b o _ _ _ e n=>kp b o (neP n) e) (fun b o _ _ _ e n=>⟨o.slots,kp b o (neP n) e⟩) (fun b o _ e n=>?_) (fun b o _ e=>?_) (fun b xs q=>up3 q (neT q (by intro _ z;cases z))) (fun b o u q=>up3 q (neT q (by intro _ z;cases z))) (fun b ps' q=>?_) (fun m hm=>?_) hok I.bare
   ·have hb:=lt_size e
    rw[cH (ne_of_lt (lt_of_lt_of_le hb szl)),cH (ne_of_lt (lt_of_lt_of_le hb hge)),cH (neP n)]
    exact n
   ·by_cases z:b=P0
    ·subst z
     exact⟨_,htb'⟩
    ·exact⟨o,kp b o z e⟩
   ·by_cases z:b=P0
    ·subst z
     rw[hP]at q
     cases q
     refine⟨#[rawInt pos.line,rawInt pos.col,.ref c'],?_⟩
     rw[cH (cF hP nq),cH (cF hP nc),cE]
    ·exact⟨#[],by rw[up3 q z];simp⟩
   ·obtain⟨o,es,ep,e,r⟩:=hm
    exact⟨o,es,ep,kp _ o (neP I.free) e,r⟩
  exact j9 (v:=.ref h'.objs.size) I' hnd hi hl rfl (fun s' I''=>⟨_,_,I'',h c' h'.objs.size nc nq ncq⟩) hf
 ·refine PySem.W.makeFunction_hit hcl I.ok.glob hg hcode (C.keeps I.bk) hPo ht hc hbA fun ctv doc h' tk hk hsz=>?_
  have nq:H h'.objs.size=none:=I.hok.fresh hsz
  have I':=I.laid (a:=h'.objs.size) (o:=.ext (kj X.env name qual params body scope c h'.objs.size)) (t':=tk) (h':=h'.push (fnMade name qual params body scope cl doc ((X.mg "__name__").getD .none) c ctv)) (fun b u e=>get?_push_of_some _ (hk b u e)) hsz
   ⟨⟨cl,ctv,doc,_,⟨cA,cB⟩,get?_push_size _ rfl⟩,⟨_,get?_push_size _ rfl⟩,yD⟩
  exact j9 (v:=.ref h'.objs.size) I' hnd hi hl rfl (fun s' I''=>⟨_,_,I'',h h'.objs.size nq⟩) hf
def jN(H:Hp)(P0:Addr)(pos:Pos)(qual:Str):Prop:=∃ps,H P0=some (.tbl ps)∧TriplesOk ps.toList∧(codeAmong pos ps.toList=none∨∃c,codeAmong pos ps.toList=some (.ref c)∧H c=some (.ext (kT c qual)))
def jg(P0:Addr)(H H':Hp):Prop:=∀b o,b≠P0→H b=some o→H' b=some o
theorem jg.of{P0:Addr}{H H':Hp}(s:cI H H'):jg P0 H H':=fun b o _ e=>s b o e
theorem jg.trans{P0:Addr}{H H1 H2:Hp}(s:jg P0 H H1)(s':jg P0 H1 H2):jg P0 H H2:=fun b o n e=>s' b o n (s b o n e)
theorem jN.mono{H H':Hp}{P0:Addr}{pos:Pos}{qual:Str}(s:cI H H')(T:jN H P0 pos qual):jN H' P0 pos qual:=by
 obtain⟨ps,h1,h2,h3⟩:=T
 refine⟨ps,s _ _ h1,h2,?_⟩
 rcases h3 with h3|⟨c,h3,h4⟩
 ·exact .inl h3
 ·exact .inr ⟨c,h3,s _ _ h4⟩
theorem Ao{env:Env}{P0:Addr}{name qual:Str}{params:Arguments}{body:List Stmt}{scope:Scope}{pos:Pos}{i:Nat}{D:Ends}{σ:St}{H:Hp}(T:jN H P0 pos qual)
  (k:∀c q H',jg P0 H H'→jN H' P0 pos qual→H q=none→q≠P0→H' q=some (.ext (kj env name qual params body scope c q))→H' c=some (.ext (kT c qual))→D.nx (σ.set i (some (.ref q))) H'):B8 env P0 name qual params body scope pos i D σ H:=by
 obtain⟨ps,h1,h2,h3⟩:=T
 refine⟨ps,h1,h2,?_⟩
 rcases h3 with h3|⟨c,h3,h4⟩
 ·refine .inl ⟨h3,fun c q nc nq ne=>?_⟩
  have e1:upd (upd (upd H P0 (.tbl (ps++ #[rawInt pos.line,rawInt pos.col,.ref c]))) c (.ext (kT c qual))) q (.ext (kj env name qual params body scope c q)) c=some (.ext (kT c qual)):=by
   rw[cH (Ne.symm ne),cE]
  refine k c q _ (fun b o n e=>?_) ⟨ps++ #[rawInt pos.line,rawInt pos.col,.ref c],?_,?_,.inr ⟨c,?_,e1⟩⟩ nq (Ne.symm (cF h1 nq)) cE e1
  ·rw[cH (cF e nq),cH (cF e nc),cH n]
   exact e
  ·rw[cH (cF h1 nq),cH (cF h1 nc),cE]
  ·rw[toList_append]
   exact TriplesOk_snoc _ _ _ _ h2
  ·rw[toList_append]
   exact codeAmong_snoc _ h2 h3
 ·refine .inr ⟨c,h3,h4,fun q nq=>?_⟩
  have s:=cI.upd (o:=.ext (kj env name qual params body scope c q)) nq
  exact k c q _ (.of s) (jN.mono s ⟨ps,h1,h2,.inr ⟨c,h3,h4⟩⟩) nq (Ne.symm (cF h1 nq)) cE (s _ _ h4)
section
variable {X:Cx}{pins3 pins:List (Addr×Obj)}{σ3 σ':St}{H3 H:Hp}{s3 s:Shared}{N':List Str}{scope0:Scope}{cl0:List (Str×Addr)}{fp:List Addr}{C:Addr}
theorem o5(I3:Inv X pins3 σ3 H3 s3)(hfp:∀b∈fp,iu X pins3 H3 b)(I:Inv (cZ X N' scope0 cl0 fp s3 H3 C) pins σ' H s){x:Str}{c:Addr}(e:X.env.cells.lookup x=some c):(∀v,s3.heap.IsCell c v→s.heap.IsCell c v)∧H c=none:=by
 obtain⟨v0,o,ho,hd⟩:=I3.cell x c e
 have nf:c ∉ fp:=fun z=>(hfp c z).2.2.2.2.1 x c e rfl
 have n3:=I3.freeC x c e
 have hu:Un (tH X.stack) fp H3 H s3.heap s.heap:=I.base
 obtain⟨sl,e1⟩:=hu.any ho n3 nf
 refine⟨fun v h=>?_,hu.free c o ho n3 nf⟩
 obtain⟨o',ho',hd'⟩:=h
 rw[ho]at ho'
 cases ho'
 exact⟨_,e1,hd'⟩
theorem xQ{scope:Scope}{cl:List (Str×Addr)}{fs:List Str}{fv:List V}{js:List Nat}(I3:Inv X pins3 σ3 H3 s3)(hfp:∀b∈fp,iu X pins3 H3 b)(I:Inv (cZ X N' scope0 cl0 fp s3 H3 C) pins σ' H s)(ci:FJ X.env scope cl)
  (hfr:∀y∈scope.names,y.2=.free→X.env.scope.names.lookup y.1=some .cell)(hjs:fs.map some=js.map fun j=>X.N[j]?)(hv:fv.map some=dJ js σ3)(hfc:∀x∈fs,scope.names.lookup x=some .free):BI scope cl fs fv s H:=by
 have has:∀x,scope.names.lookup x=some .free→∃c,cl.lookup x=some c∧X.env.cells.lookup x=some c:=fun x hx=>by
  have m:=PySem.mem_of_lookup hx
  obtain⟨c,hc⟩:=I3.ok.has x (.inl (hfr _ m rfl))
  exact⟨c,(ci.2 _ m rfl).trans hc,hc⟩
 refine⟨fun x y c h1 h2=>I3.ok.inj x y c (ci.1 _ _ h1) (ci.1 _ _ h2),fun x hx=>?_,fun x c h=>?_,fun i x v h1 h2=>?_⟩
 ·obtain⟨c,h,_⟩:=has x hx
  exact⟨c,h⟩
 ·obtain⟨k1,k2⟩:=o5 I3 hfp I (ci.1 _ _ h)
  obtain⟨v,hv⟩:=I3.cell x c (ci.1 _ _ h)
  exact⟨⟨v,k1 v hv⟩,k2⟩
 ·have e1:(fs.map some)[i]? =some (some x):=by rw[getElem?_map,h1];rfl
  have e2:(fv.map some)[i]? =some (some v):=by rw[getElem?_map,h2];rfl
  rw[hjs,getElem?_map]at e1
  unfold dJ at hv
  rw[hv,getElem?_map]at e2
  obtain⟨j,hj,e1⟩:=map_eq_some_iff.mp e1
  rw[hj]at e2
  have e2:(σ3[j]?).join=some v:=Option.some.inj e2
  have e3:σ3[j]? =some (some v):=by
   cases q:σ3[j]? with
   |none=>rw[q]at e2;cases e2
   |some o=>
    rw[q]at e2
    have e2:o=some v:=e2
    rw[e2]
  have fx:=hfc x (mem_of_getElem? h1)
  have cx:=hfr _ (PySem.mem_of_lookup fx) rfl
  obtain⟨m,hn,hl⟩:=I3.loc
  obtain⟨u,r,l⟩:=hl j x v e1 e3 (.inr (.inl cx))
  rcases l with ⟨hk,_⟩|⟨_,c,hc,z⟩
  ·have hk:X.env.scope.names.lookup x=some .local:=hk
   rw[cx]at hk
   cases hk
  ·obtain⟨c',k1,k2⟩:=has x fx
   rw[hc]at k2
   cases k2
   exact⟨c,u,k1,(o5 I3 hfp I hc).1 _ z,r⟩
end
abbrev Cp:=List V→List V→Hp→VK→Prop
structure yw(P:Program)(w:World)(K:PySem.W.Frag)(mg:Str→Option Value)(base:Heap)(k:Nat)(name qual:Str)(params:Arguments)(body:List Stmt)(scope:Scope)(ps loc fs:List Str)(sp:Cp):Prop where
 sc:l5 ps loc fs scope
 len:∀fv vs H Q,sp fv vs H Q→vs.length=ps.length∧fv.length=fs.length
 bind:∀(cl:List (Str×Addr)) (doc pm:Value) (c:Addr) (ctv:Value) (us:List Value),us.length=ps.length→bindArgs (fnX name qual params body scope cl .none .none doc pm none (.ref c) ctv) ⟨us,[]⟩=pure (ps.zip us)
 body:∀(f:Addr) (cd:Value) (cl:List (Str×Addr)) (A:Around) (outer:List Env) (s:Shared) (H:Hp) (E:XK) (fv vs:List V) (Q:VK),dr k (A.deeper (envX qual scope s.heap.objs.size f cd cl))→sp fv vs H Q→
  ∃t,tE (wH P w K mg base (ps++loc++fs) qual scope f cd cl A outer s H E).zF body t∧t { nx:=fun _ H'=>Q .non H',rt:=Q } (fH vs loc fv) H
def BM(env:Env)(name qual:Str)(params:Arguments)(body:List Stmt)(scope:Scope)(i:Nat)(js:List Nat)(sp:Cp)(t:TA)(σ:St):TE:=fun σ' H Q=>∃q c fv,σ'[i]? =some (some (.ref q))∧fv.map some=dJ js σ∧H q=some (.ext (kj env name qual params body scope c q))∧
 t σ' H fun vs H1=>H1 q=some (.ext (kj env name qual params body scope c q))∧H1 c=some (.ext (kT c qual))∧sp fv vs H1 Q
theorem vy{P:Program}{w:World}{H:Hp}{h:Heap}{env:Env}{name qual:Str}{params:Arguments}{body:List Stmt}{scope:Scope}{c q:Addr}(ok:jb P w H h)(e:H q=some (.ext (kj env name qual params body scope c q))):PySem.W.FnAt q h:=by
 obtain⟨⟨cl,ctv,doc,pm,_,g⟩,_,_⟩:=ok q _ e
 exact⟨_,_,_,_,g⟩
section
variable {X:Cx}{pins3:List (Addr×Obj)}{σ3:St}{H3:Hp}{s3:Shared}{N':List Str}{scope0:Scope}{cl0:List (Str×Addr)}{fp:List Addr}{C:Addr}
theorem AA{k i:Nat}{name qual:Str}{params:Arguments}{body:List Stmt}{scope:Scope}{ps loc fs:List Str}{sp:Cp}{js:List Nat}{x:Str}{p pos:Pos}{e:Expr}{es:List Expr}{t:TA}(I3:Inv X pins3 σ3 H3 s3)(hfp:∀b∈fp,iu X pins3 H3 b)
  (G:yw X.prog X.w X.K X.mg X.base k name qual params body scope ps loc fs sp)(hr:dr (k+1) X.A)(hfr:∀y∈scope.names,y.2=.free→X.env.scope.names.lookup y.1=some .cell)(hjs:fs.map some=js.map fun j=>X.N[j]?)
  (hn:PE (cZ X N' scope0 cl0 fp s3 H3 C) (.Name x p) (dE i))(ha:PA (cZ X N' scope0 cl0 fp s3 H3 C) (e::es) t)(h1:notStar e=true:=by rfl)(h2:es.all notStar=true:=by rfl):
  PE (cZ X N' scope0 cl0 fp s3 H3 C) (.Call (.Name x p) (e::es) [] pos) (BM X.env name qual params body scope i js sp t σ3):=by
 intro pins s σ' H Q I h
 obtain⟨q,c,fv,hσ,hv,hq,h⟩:=h
 refine wpAny_Call_Name_kw (dq (hn pins s σ' H (fun v H'=>v=.ref q∧H'=H) I ⟨_,hσ,rfl,rfl⟩) fun u s1 hp=>?_)
 obtain⟨v,H',I1,r,rfl,rfl⟩:=hp
 obtain rfl:u=Value.ref q:=r
 refine PySem.W.callWith_F (vy I1.hok hq) (dq (ha pos pins s1 σ' H' _ I1 h) fun us s2 hp=>?_) (c9 h1) (ee h2)
 obtain⟨vs,H2,I2,r2,e1,e2,hsp⟩:=hp
 refine⟨vy I2.hok e1,?_⟩
 obtain⟨⟨cl,ctv,doc,pm,ci,hget⟩,_,_⟩:=I2.hok q _ e1
 obtain⟨hcd,_,_⟩:=I2.hok c _ e2
 obtain⟨l1,l2⟩:=G.len _ _ _ _ hsp
 have e0:qB X.prog X.w X.K X.mg X.base X.A X.stack s2 H2:=I2.CF
 show wpAny _ _ (call (.ref q) us) _ _ s2
 refine wpAny_call (codeAny_mono (zx (E:=E0) (Q:=Q) (vs:=vs) (us:=us) (args:=⟨us,[]⟩) hget hcd.rec G.sc hr e0 (.of_eq (G.bind _ _ _ _ _ us (by rw[←r2.length];exact l1))) r2 l1 l2 (xQ I3 hfp I2 ci hfr hjs hv fun x hx=>G.sc.fre x hx) ?_) fun r s' hq=>?_)
 ·obtain⟨t',a1,a2⟩:=G.body q (.ref c) cl X.A X.stack s2 H2 E0 fv vs Q (hr.deeper _) hsp
  exact⟨t',a1.zF,a2⟩
 ·cases r with
  |error e=>exact False.elim hq
  |ok fl=>
   cases fl with
   |ret u=>exact I2.after hq
   |next=>exact False.elim hq
   |brk=>exact False.elim hq
   |cont=>exact False.elim hq
end
def Ea(wi:TI)(n:Nat)(is:List Nat)(g:TG)(tc:TT)(te:St→TE):TE:=fun σ H Q=>wi σ H fun J H1=>eI J n is g tc (te σ) σ H1 Q
theorem Cn{X:Cx}{xs:List Str}{tg:Expr}{pos:Pos}{elt iter:Expr}{cts:List Expr}{scope:Scope}{wi:TI}{g:TG}{tc:TT}{te:St→TE}{is:List Nat}{ns:List Str}{sc:Scope}{N:List Str}(hc:X.calm=true)(hi:PI X tg iter wi)(L:mq sc N xs scope is ns)(hg:∀cl fp s3 H3 C,PG (cZ X (xs++ns) scope cl fp s3 H3 C) tg g)(hct:∀cl fp s3 H3 C,BW (cZ X (xs++ns) scope cl fp s3 H3 C) cts tc)
  (he:∀pins σ cl fp s3 H3 C,Inv X pins σ H3 s3→(∀b∈fp,iu X pins H3 b)→PE (cZ X (xs++ns) scope cl fp s3 H3 C) elt (te σ))
  (hsc:X.env.scope=sc)(hN:X.N=N)(hs:∀x,foldedSetIterable iter X.env x=pure x):PE X (.ListComp elt [⟨tg,iter,cts,0⟩] scope pos) (Ea wi xs.length is g tc te):=by
 intro pins s σ H Q I h
 rw[eval_ListComp]
 exact iV I h (fun _ _ z=>z) kA hc hi L hg hct (fun cl fp s3 H3 C I3 f3=>he pins σ cl fp s3 H3 C I3 f3) hsc hN hs
def Fj(P0:Addr)(H:Hp):Prop:=∀b,H b=none∨(∃o xs,H b=some (.frz o (.lst xs)))∨(b=P0∧H b=some (.tbl #[]))
theorem wb{P:Program}{w:World}{K:PySem.W.Frag}{mg mb:Str→Option Value}{CX:xH}{k:Nat}{fa a c0 P0:Addr}{fd:FuncData}{x:Str}{sp:Sp}{s₁:Shared}{vs:List Value}{ns:List Int}
  (KX:K.In s₁.heap) (hns:s₁.heap.Ns mainGlobals mg) (hb:s₁.heap.Ns builtinsNs mb) (hbb:∀x:Str,x≠ "__name__" →mb x=bootBuiltins x) (hlim:s₁.heap.NoLimit) (hg:s₁.gens= #[])
  (hT:s₁.heap.get? P0=some (tabObj #[]))(hC0:CodeHd s₁.heap c0 P0)(hKP:K.lookup P0=none)(hbm:jE mg s₁.heap)
  (ha:s₁.heap.get? a=some { cls:=.type "list",data:=.seq vs.toArray }) (hi:IntsAre vs ns) (hl:ns.length≤sizeLine) (hr:dr k callerA)
  (F:∀base:Heap,K.In base→base.Ns mainGlobals mg→jE mg base→dY P w K mg base CX k fa fd [x] sp)(hbind:∀(s:Shared)(u:Value),BindsTo s fd ⟨[u],[]⟩ [(x,u)])
  (hsp:∀H:Hp,H P0=some (.tbl #[])→cL K H a (ns.map V.int)→sp [.ref a] H (fun v _=>v=.bl true) fun _ _ _=>False)
  (hCX:∀H e s',CX [] H s₁ (fun _ _ _=>False) e s'→False):
  codeAny (model P w) callerA (.call (.ref fa) ⟨[.ref a],[]⟩) (fun r s'=>r=.ok (.ret (.bool true))∧OldK s₁.heap s'.heap∧s'.os=s₁.os∧AllBare s'.gens) s₁:=by
 have rv:=oY hi
 have lenV:=hi.length
 have haP:a≠P0:=fun z=>by
  rw[z,hT]at ha
  cases ha
 have core:∀H:Hp,Fj P0 H→cL K H a (ns.map V.int)→jb P w H s₁.heap→(∀b,H b≠none→b=a∨b=P0)→(H a≠none→K.lookup a=none)→H P0=some (.tbl #[])→
   codeAny (model P w) callerA (.call (.ref fa) ⟨[.ref a],[]⟩) (fun r s'=>r=.ok (.ret (.bool true))∧OldK s₁.heap s'.heap∧s'.os=s₁.os∧AllBare s'.gens) s₁:=by
  intro H hO hS hok hA hK hP
  have base_of:∀{b:Addr}{o:Obj},s₁.heap.get? b=some o→H b=none→(n8 s₁.heap H).get? b=some o:=fun e n=>zv e n
  have noA:∀{b:Addr}{o:Obj},s₁.heap.get? b=some o→(∀its n,o.data≠.seq its n)→(∀fs,o.data≠.fields fs)→H b=none:=fun {b o} e d1 d2=>by
   cases q:H b with
   |none=>rfl
   |some u=>
    exfalso
    rcases hA b (by rw[q];simp) with e'|e'
    ·subst e'
     rw[ha]at e
     cases e
     exact d1 _ _ rfl
    ·subst e'
     rw[hT]at e
     cases e
     exact d2 _ rfl
  have nsK:∀{b:Addr}{m:Str→Option Value},s₁.heap.Ns b m→(n8 s₁.heap H).Ns b m:=fun {b m} hm=>by
   obtain⟨o,es,ep,e,d,r⟩:=hm
   exact⟨o,es,ep,base_of e (noA e (by intro _ _ z;rw[d]at z;cases z) (by intro _ z;rw[d]at z;cases z)),d,r⟩
  have hKb:K.In (n8 s₁.heap H):=fun b o e=>base_of (KX b o e) (by
   cases q:H b with
   |none=>rfl
   |some u=>
    exfalso
    rcases hA b (by rw[q];simp) with e'|e'
    ·subst e'
     rw[hK (by rw[q];simp)]at e
     cases e
    ·subst e'
     rw[hKP]at e
     cases e)
  have hbm':jE mg (n8 s₁.heap H):=by
   obtain⟨bm,o,b1,b2,b3,b4,b5,b6,b7⟩:=hbm
   exact⟨bm,o,b1,b2,b3,base_of b4 (noA b4 (by intro _ _ z;rw[b7]at z;cases z) (by intro _ z;rw[b7]at z;cases z)),b5,b6,b7⟩
  have hM:Mod K mg (n8 s₁.heap H):=⟨hKb,nsK hns,⟨mb,nsK hb,hbb⟩,let ⟨mc,h1,h2⟩:=hlim;⟨mc,nsK h1,h2⟩⟩
  have e0:qB P w K mg (n8 s₁.heap H) callerA [] s₁ H:=⟨rfl,hM,fun b o e=>zT e,le_of_eq (wA _ _),trivial,fun b hb=>absurd (show b∈([]:List Addr) from hb) (by simp),hok,.of_eq hg⟩
  refine codeAny_mono ((F _ hKb (nsK hns) hbm').run callerA [] s₁ H ⟨[.ref a],[]⟩ [.ref a] [.ref a] _ _ hr e0 (hbind s₁ (.ref a)) (.cons rfl .nil) (hsp H hP hS)) fun r s' h=>?_
  cases r with
  |error e=>exact(hCX H e s' h).elim
  |ok fl=>
   cases fl with
   |next=>exact False.elim h
   |brk=>exact False.elim h
   |cont=>exact False.elim h
   |ret u=>
    obtain⟨v,H',os,bare,un,hok',r',q⟩:=h
    have q':v=.bl true:=q
    subst q'
    obtain rfl:u=Value.bool true:=r'
    refine⟨rfl,⟨fun b o e=>?_,fun b o e=>un.there b o e (by simp)⟩,os,bare⟩
    cases q:H b with
    |none=>exact .inl (un.keep b o e q (by intro z;exact absurd (show b∈([]:List Addr) from z) (by simp)) (by simp))
    |some u=>
     rcases hO b with z|⟨ob,xs,z⟩|⟨z,z'⟩
     ·rw[q]at z
      cases z
     ·have z2:=un.frzs b ob _ z
      obtain⟨e1,_⟩:=hok b _ z
      obtain⟨e2,_⟩:=hok' b _ z2
      rw[e]at e1
      cases e1
      exact .inl e2
     ·subst z
      obtain⟨more,z2⟩:=un.tbls b _ z'
      have e2:s'.heap.get? b=some { cls:=.none,data:=.fields (#[]++more) }:=hok' b _ z2
      rw[hT]at e
      cases e
      exact .inr (.inl ⟨(hC0.tab hT).isCodeTable,rfl,#[],more,rfl,e2⟩)
 cases hk:K.lookup a with
 |some o=>
  have e:=KX a o hk
  rw[ha]at e
  cases e
  refine core (fun b=>if b=P0 then some (.tbl #[]) else none) (fun b=>?_) (.inr ⟨_,vs.toArray,_,hk,rfl,rfl,rfl,by rw[size_toArray,lenV];exact hl,by simpa using rv⟩) (fun b u z=>?_) (fun b z=>?_) (fun z=>absurd (if_neg haP) z) (if_pos rfl)
  ·by_cases hb:b=P0
   ·exact .inr (.inr ⟨hb,if_pos hb⟩)
   ·exact .inl (if_neg hb)
  ·by_cases hb:b=P0
   ·have z':=(if_pos hb).symm.trans z
    cases z'
    subst hb
    exact hT
   ·have z':=(if_neg hb).symm.trans z
    cases z'
  ·by_cases hb:b=P0
   ·exact .inr hb
   ·exact absurd (if_neg hb) z
 |none=>
  refine core (fun b=>if b=P0 then some (.tbl #[]) else if b=a then some (.frz { cls:=.type "list",data:=.seq vs.toArray } (.lst (ns.map V.int))) else none) (fun b=>?_) (.inl (.inr ⟨{ cls:=.type "list",data:=.seq vs.toArray },(if_neg haP).trans (if_pos rfl)⟩)) (fun b u z=>?_) (fun b z=>?_) (fun _=>hk) (if_pos rfl)
  ·by_cases hb:b=P0
   ·exact .inr (.inr ⟨hb,if_pos hb⟩)
   ·by_cases hb2:b=a
    ·exact .inr (.inl ⟨_,_,(if_neg hb).trans (if_pos hb2)⟩)
    ·exact .inl ((if_neg hb).trans (if_neg hb2))
  ·by_cases hb:b=P0
   ·have z':=(if_pos hb).symm.trans z
    cases z'
    subst hb
    exact hT
   ·by_cases hb2:b=a
    ·have z':=((if_neg hb).trans (if_pos hb2)).symm.trans z
     cases z'
     subst hb2
     exact⟨ha,by rw[length_map];exact hl,vs,_,rv,ha⟩
    ·have z':=((if_neg hb).trans (if_neg hb2)).symm.trans z
     cases z'
  ·by_cases hb:b=P0
   ·exact .inr hb
   ·by_cases hb2:b=a
    ·exact .inl hb2
    ·exact absurd ((if_neg hb).trans (if_neg hb2)) z
theorem xX{l:PySem.W.OpenLaw}{n k:Nat}{q:Program}{loose:List Str}{XP:(Str→Option Value)→Heap→Prop}{YP:World→Heap→Prop}{d:DefRec}{K:Params→PySem.W.Frag}{CX:World→xH}{sp:World→Sp}{x:Str}{P0:Addr}
  (hn:l.most=some n)(hn2:n≤sizeLine)(hdf:d.params.defaults=[])(hr:dr k callerA)
  (hY:∀(w:World)(h:Heap),YP w h→(K w.params).In h∧h.get? P0=some (tabObj #[]))
  (F:∀(w:World)(mg:Str→Option Value)(fa:Addr)(h:Heap),(K w.params).In h→h.Ns mainGlobals mg→mg d.name=some (.ref fa)→
   (∃c0,codeHdIn (K w.params) c0 P0=true)∧(K w.params).lookup P0=none∧∃fd:FuncData,(∀(s:Shared) (u:Value),BindsTo s fd ⟨[u],[]⟩ [(x,u)])∧
    ∀base:Heap,(K w.params).In base→base.Ns mainGlobals mg→jE mg base→dY l.prog w (K w.params) mg base (CX w) k fa fd [x] (sp w))
  (hsp:∀(w:World) (H:Hp) (a:Addr) (ns:List Int),ns.length≤n→H P0=some (.tbl #[])→cL (K w.params) H a (ns.map V.int)→sp w [.ref a] H (fun v _=>v=.bl true) fun _ _ _=>False)
  (hCX:∀(w:World) (H:Hp) (s:Shared) (e:Value) (s':Shared),CX w [] H s (fun _ _ _=>False) e s'→False):
  PySem.W.WalkO q loose XP YP l.row.toRowW d [] (fun f vs=>PySem.call f vs):=by
 refine Att.rN hn hdf fun w s₀ s₁ mg mb fa o pm cd doc a vs ns G Y ho hd hcd hmg hobj hints hlen hg=>?_
 obtain⟨KX,hT⟩:=hY w _ Y
 obtain⟨⟨c0,hc0⟩,hKP,fd,hb,hF⟩:=F w mg fa _ KX G.T.g hmg
 obtain⟨bm,ob,b1,b2,b3,b4,b5,b6⟩:=G.T.bmain
 have hbG:bm≠mainGlobals:=fun z=>by
  obtain⟨o,es,ep,e,hd,_⟩:=G.T.g
  rw[z,e]at b3
  cases b3
  rw[hd]at b6
  cases b6
 exact wb KX G.T.g G.T.b G.T.builtins G.T.nolimit hg hT (PySem.W.codeHd_of_K KX hc0) hKP ⟨bm,ob,b1,b2,hbG,b3,b4,b5,b6⟩ hobj hints (le_trans hlen hn2) hr hF hb (fun H hP hS=>hsp w H a ns hlen hP hS) fun H e s'=>hCX w H s₁ e s'
end L2
namespace L2
open PySem PySem.Spec PyProof.Rows
structure eN(X:Cx)(P:Program)(w:World)(K:PySem.W.Frag)(mg:Str→Option Value)(base:Heap)(sc:Scope)(N:List Str)(k:Nat):Prop where
 pr:X.prog=P
 wd:X.w=w
 fK:X.K=K
 gm:X.mg=mg
 bs:X.base=base
 calm:X.calm=true
 own:PassesOwn (model X.prog X.w) X.A X.env X.xe
 hsc:X.env.scope=sc
 hN:X.N=N
 nd:X.N.Nodup
 room:dr k X.A
section
variable {X:Cx}{P:Program}{w:World}{K:PySem.W.Frag}{mg:Str→Option Value}{base:Heap}{sc:Scope}{N:List Str}{k j:Nat}{x m:Str}{sp:Sp}{C:Addr}
theorem eN.slot (h:eN X P w K mg base sc N k) (i:Nat) (hN:N[i]? =some x) (lc:Loc sc x) (db:(x == ("__debug__" :Str))=false) (cd:(x == ("__classdict__" :Str))=false) (hl:sc.names.lookup x=some .local:=by rfl):Slot X i x:=
 ⟨by rw[h.hN];exact hN,by rw[h.hsc];exact lc,.inr (by rw[h.hsc];exact hl),db,cd⟩
theorem eN.sl (h:eN X P w K mg base sc N k) (i:Nat) (x:Str) (hN:N[i]? =some x:=by rfl) (lc:Loc sc x:=by first|exact .inl rfl|exact .inr rfl) (db:(x == ("__debug__" :Str))=false:=by decide) (cd:(x == ("__classdict__" :Str))=false:=by decide) (hl:sc.names.lookup x=some .local:=by rfl):Slot X i x:=h.slot i hN lc db cd hl
theorem eN.gl(h:eN X P w K mg base sc N k)(hg:sc.names.lookup x=some .globalImplicit):Gl X x:=by
 show X.env.scope.names.lookup x=_
 rw[h.hsc]
 exact hg
theorem eN.bt (h:eN X P w K mg base sc N k) (hm:mg x=none) (hg:sc.names.lookup x=some .globalImplicit) (hn:x≠ "__name__") (db:(x == ("__debug__" :Str))=false):Bt X x:=⟨h.gl hg,by rw[h.gm];exact hm,hn,db⟩
theorem eN.b (h:eN X P w K mg base sc N k) (hm:mg x=none) (hg:sc.names.lookup x=some .globalImplicit:=by rfl) (hn:x≠ "__name__" :=by decide) (db:(x == ("__debug__" :Str))=false:=by decide):Bt X x:=h.bt hm hg hn db
theorem eN.Gn (h:eN X P w K mg base sc N k) (G:Gd P w K mg base j x sp) (hg:sc.names.lookup x=some .globalImplicit) (hj:j≤k) (db:(x == ("__debug__" :Str))=false):AN X x sp:=by
 obtain⟨f,fd,ps,h1,h2,h3,h4⟩:=G.ex
 obtain⟨rfl,rfl,rfl,rfl,rfl⟩:=And.intro h.pr (And.intro h.wd (And.intro h.fK (And.intro h.gm h.bs)))
 exact⟨⟨j,f,fd,ps,h1,h.room.mono hj,h2,h3,h4⟩,h.gl hg,db⟩
theorem eN.c (h:eN X P w K mg base sc N k) (G:Gd P w K mg base j x sp) (hg:sc.names.lookup x=some .globalImplicit:=by rfl) (hj:j≤k:=by first|decide|exact le_refl _) (db:(x == ("__debug__" :Str))=false:=by decide):AN X x sp:=h.Gn G hg hj db
theorem eN.Gm (h:eN X P w K mg base sc N k) (i:Nat) (hN:N[i]? =some x) (hf:sc.names.lookup x=some .free) (db:(x == ("__debug__" :Str))=false) (cd:(x == ("__classdict__" :Str))=false):∀{p:Pos},J.JE X (.Name x p) (dE i):=fun {p}=>
 ⟨jh (by rw[h.hN];exact hN) (by rw[h.hsc];exact .inr (.inr hf)) db cd⟩
end
def yS(x:Str)(st:Stmt)(name:Str):Str:=qualnameIn (envOfC x (cG st) 0 0 .none) name name
def CP(s:Stmt):Pos:=match s with
 |.FunctionDef _ _ _ _ _ _ _ _ _ p=>p
 |_=>⟨0,0,0,0⟩
end L2
namespace J
open PySem PySem.Spec PyProof.Rows L2
section
variable {P:Program}{w:World}{K:PySem.W.Frag}{mg:Str→Option Value}{base:Heap}{x qual name:Str}{st:Stmt}{f c0 P0:Addr}{N ps loc fs:List Str}{k j:Nat}{sp:Sp}{cp:Cp}
theorem zJ(S:l5 ps loc fs (L2.cG st))(len:∀fv vs H Q,cp fv vs H Q→vs.length=ps.length∧fv.length=fs.length)
  (bind:∀(cl:List (Str×Addr))(doc pm:Value)(c:Addr)(ctv:Value)(us:List Value),us.length=ps.length→bindArgs (fnX name qual (L2.cW st) (L2.cN st) (L2.cG st) cl .none .none doc pm none (.ref c) ctv) ⟨us,[]⟩=pure (ps.zip us))
  (hbody:∀(X:Cx)(H:Hp)(fv vs:List V)(Q:VK),eN X P w K mg base (L2.cG st) (ps++loc++fs) k→cp fv vs H Q→∃t,tF X (L2.cN st) t∧t { nx:=fun _ H'=>Q .non H',rt:=Q } (fH vs loc fv) H):
  yw P w K mg base k name qual (L2.cW st) (L2.cN st) (L2.cG st) ps loc fs cp:=by
 refine⟨S,len,bind,fun f cd cl A outer s H E fv vs Q hr h=>?_⟩
 obtain⟨t,h1,h2⟩:=hbody ((wH P w K mg base (ps++loc++fs) qual (L2.cG st) f cd cl A outer s H E).zF) H fv vs Q ⟨rfl,rfl,rfl,rfl,rfl,rfl,PassesOwn.never,rfl,rfl,S.nd,hr⟩ h
 exact⟨t,h1.out,h2⟩
theorem A9{oc kV doc pm ct:Value}{od an:Option Addr}{osl:Array (Option Value)}(lk:K.lookup f=some ⟨oc,od,.func (fnOf x x (L2.cW st) (L2.cN st) (L2.cG st) .none kV doc pm an (.ref c0) ct),osl⟩)(hcd:codeIn K (.ref c0) x=true)(kp:keepIn K (.ref f)=true)(nm:mg x=some (.ref f))
  (bi:∀us:List Value,us.length=ps.length→bindArgs (fnOf x x (L2.cW st) (L2.cN st) (L2.cG st) .none kV doc pm an (.ref c0) ct) ⟨us,[]⟩=pure (ps.zip us))(S:cJ N ps (L2.cG st))(len:∀vs H Q E,sp vs H Q E→vs.length=ps.length)
  (hbody:∀(X:Cx)(H:Hp)(vs:List V)(Q:VK)(E:XK),Here X P w K mg base (L2.cG st) N k→X.env.code=.ref c0→(∀name,qualnameIn X.env name name=yS x st name)→sp vs H Q E→∃t,tF X (L2.cN st) t∧t { nx:=fun _ H'=>Q .non H',rt:=Q } (L2.start N vs) H):Gd P w K mg base (k+1) x sp:=by
 refine⟨f,_,ps,Bs lk hcd S len fun A outer s H vs Q E hr hsp=>?_,nm,kp,.all bi⟩
 obtain⟨t,h1,h2⟩:=hbody ((L2.qO jC P w K mg base N x (L2.cG st) f (.ref c0) A outer s H E).zF) H vs Q E ⟨rfl,rfl,rfl,rfl,rfl,rfl,PassesOwn.never,rfl,rfl,S.nd,hr,fun _=>rfl⟩ rfl (fun _=>rfl) hsp
 exact⟨t,h1.out.zF,h2⟩
variable {X:Cx}{sc:Scope}{params:Arguments}{body:List Stmt}{scope:Scope}{pos:Pos}{i:Nat}
theorem Hw(hh:Here X P w K mg base sc N k)(hcode:X.env.code=.ref c0)(hq:qualnameIn X.env name name=qual)(hC:codeHdIn K c0 P0=true)(hM:K.In base)(hb:jE mg base)(S:L2.Slot X i name)(hd0:params.defaults=[])(hk0:params.kw_defaults=[])(ha:annTrees params none X.env=[])
  (hfr:∀y∈scope.names,y.2=.free→sc.names.lookup y.1=some .cell):JS X (.FunctionDef name params body [] none [] scope none name pos) (L2.B8 X.env P0 name qual params body scope pos i):=
 ⟨L2.Cf hh.nd S.hN S.lc S.fn hd0 hk0 ha hq hcode (by rw[hh.bs];exact PySem.W.codeHd_of_K hM hC) (by rw[hh.gm,hh.bs];exact hb) (by rw[hh.hsc];exact hfr)⟩
theorem ID{xs ns:List Str}{tg it e:Expr}{es cts:List Expr}{p p2:Pos}{y:Str}{wi:TI}{g:TG}{tc:TT}{t:TA}{is js:List Nat}{cs:Scope}(hh:Here X P w K mg base sc N k)(G:yw P w K mg base j name qual params body cs ps loc fs cp)(hj:j+1≤k)(hi:JI X tg it wi)(L:L2.mq sc N xs scope is ns)(hg:∀cl fp s3 H3 C,JG (L2.cZ X (xs++ns) scope cl fp s3 H3 C) tg g)(hct:∀cl fp s3 H3 C,Fn (L2.cZ X (xs++ns) scope cl fp s3 H3 C) cts tc)
  (hn:∀cl fp s3 H3 C,JE (L2.cZ X (xs++ns) scope cl fp s3 H3 C) (.Name y p) (L2.dE i))(ha:∀cl fp s3 H3 C,JA (L2.cZ X (xs++ns) scope cl fp s3 H3 C) (e::es) t)(hfr:∀y∈cs.names,y.2=.free→sc.names.lookup y.1=some .cell)(hjs:fs.map some=js.map fun j=>N[j]?)(h1:L2.notStar e=true:=by rfl)(h2:es.all L2.notStar=true:=by rfl)
  (hs:∀x,foldedSetIterable it X.env x=pure x:=by intro _;rfl):JE X (.ListComp (.Call (.Name y p) (e::es) [] p2) [⟨tg,it,cts,0⟩] scope pos) (L2.Ea wi xs.length is g tc (L2.BM X.env name qual params body cs i js cp t)):=by
 obtain⟨rfl,rfl,rfl,rfl,rfl⟩:=And.intro hh.pr (And.intro hh.wd (And.intro hh.fK (And.intro hh.gm hh.bs)))
 exact⟨L2.Cn hh.calm hi.out L (fun cl fp s3 H3 C=>(hg cl fp s3 H3 C).out) (fun cl fp s3 H3 C=>(hct cl fp s3 H3 C).out) (fun pins σ cl fp s3 H3 C I3 f3=>L2.AA I3 f3 G (hh.room.mono hj) (by rw[hh.hsc];exact hfr) (by rw[hh.hN];exact hjs) (hn cl fp s3 H3 C).out (ha cl fp s3 H3 C).out h1 h2) hh.hsc hh.hN hs⟩
end
end J
namespace L2
open PySem PySem.Spec PyProof.Rows
section
variable {X:Cx}
inductive Ki(K:PySem.W.Frag)(H:Hp)(a:Addr):Prop
 |mk(z:Str)(i:Int)(q:Addr)(s:c8 K H a [.str z,.int i,.ref q])(w:FU K H q)
inductive J8(K:PySem.W.Frag)(xs:List V)(H:Hp)(Q:VK):Prop
 |mk(p:Addr)(as:List Addr)(e:xs=[.ref p])(s:cL K H p (as.map V.ref))(hs:∀a∈as,Ki K H a)
   (q:∀(l:Addr)(ys:List Addr),H l=none→ys.Perm as→Q (.ref l) (upd H l (.lst (ys.map V.ref))))
end
end L2
namespace J
open PySem L2
end J
namespace L2
open PySem PySem.Spec PyProof.Rows
theorem yd{ta tb:TE}{σ:St}{H:Hp}{Q:VK}(b1 b2:Bool)(h1:∀Q':VK,Q' (.bl b1) H→ta σ H Q')(h2:b1=true→∀Q':VK,Q' (.bl b2) H→tb σ H Q')(k:Q (.bl (b1 && b2)) H):xJ ta tb σ H Q:=by
 refine h1 _ ⟨b1,rfl,?_⟩
 cases b1 with
 |true=>exact d6 (h2 rfl _ k)
 |false=>exact dt k
theorem dS(a b:Str):decide (V.str a=V.str b)=decide (a=b):=decide_eq_decide.mpr ⟨V.str.inj,congrArg _⟩
theorem dI(a b:Int):decide (V.int a=V.int b)=decide (a=b):=decide_eq_decide.mpr ⟨V.int.inj,congrArg _⟩
end L2
namespace J
open PySem L2
theorem kL{X:Cx}:JC X .Lt (fun x y H Q=>∃i j,x=.str i∧y=.str j∧Q (.bl (decide (i.cps.toList < j.cps.toList))) H):=⟨L2.kL⟩
end J
namespace L2
open PySem PySem.Spec PyProof.Rows
section
variable {X:Cx}
inductive Ih(K:PySem.W.Frag)(H:Hp)(a:Addr):Prop
 |mk(i:Int)(z:Str)(q:Addr)(s:c8 K H a [.int i,.str z,.ref q])(w:FU K H q)
inductive Em(K:PySem.W.Frag)(xs:List V)(H:Hp)(Q:VK):Prop
 |mk(p:Addr)(as:List Addr)(e:xs=[.ref p])(s:cL K H p (as.map V.ref))(hs:∀a∈as,Ih K H a)
   (q:∀(l:Addr)(ys:List Addr),H l=none→ys.Perm as→Q (.ref l) (upd H l (.lst (ys.map V.ref))))
theorem C1{pins:List (Addr×Obj)}{σ:St}{H:Hp}{s:Shared}(I:Inv X pins σ H s){h':Heap}(k:∀b,b < s.heap.objs.size→h'.get? b=s.heap.get? b){a:Addr}(e:Ih X.K H a):∃x,TS.jT h' a x:=by
 obtain⟨i,z,q,t,w⟩:=e
 obtain⟨x,hx⟩:=zd I k w
 obtain⟨its,r0,pl,_⟩:=I.tuple t
 obtain⟨u1,us,rfl,⟨t1,rfl⟩,r1⟩:=gT r0
 obtain⟨u2,us,rfl,⟨t2,rfl⟩,r2⟩:=gT r1
 obtain⟨u3,us,rfl,rfl,r3⟩:=gT r2
 obtain rfl:=Vals.zero r3
 exact⟨_,.mk i z q x t1 t2 (jH pl k) hx⟩
theorem gF(hu:X.A.units+2 < cLine):d9 X (.builtin "sorted") (fun xs H Q=>Em X.K xs H Q):=by
 intro pins s σ H xs us Q I r h
 obtain⟨p,as,rfl,hq,hs,q⟩:=h
 obtain⟨u,rfl,rx⟩:=vals1 r
 cases rx
 obtain⟨its,rvl,pl,hz⟩:=I.list hq
 obtain rfl:=pE rvl
 rw[length_map]at hz
 refine call_function_entry_kw kind_sorted plain_sorted entry_sorted (args_sorted1 _) ?_
 unfold Builtin.«sorted»
 refine wpAny_bind (m:=checkCount "sorted" 1 1 _) (wpAny_pure ?_)
 refine wpAny_bind (collect_list pl.isList ?_)
 refine wpAny_bind (wpAny_newList ?_)
 have hsz:((s.heap.push (seqObj "list" #[] 0)).update s.heap.objs.size (Obj.mapSeq (· ++(as.map Value.ref).toArray))).objs.size=s.heap.objs.size+1:=by
  rw[size_update,size_push']
 have hoL:(((s.heap.push (seqObj "list" #[] 0)).update s.heap.objs.size (Obj.mapSeq (· ++(as.map Value.ref).toArray))).push (seqObj "list" (as.map Value.ref).toArray 0)).get? (s.heap.objs.size+1)=some (seqObj "list" (as.map Value.ref).toArray 0):=by
  rw[←hsz]
  exact get?_push_size _ rfl
 show wpAny _ _ _ _ _ { s with heap:=((s.heap.push (seqObj "list" #[] 0)).update s.heap.objs.size (Obj.mapSeq (· ++(as.map Value.ref).toArray))).push (seqObj "list" (as.map Value.ref).toArray 0) }
 rw[hsz]
 have hold:∀b,b < s.heap.objs.size→(((s.heap.push (seqObj "list" #[] 0)).update s.heap.objs.size (Obj.mapSeq (· ++(as.map Value.ref).toArray))).push (seqObj "list" (as.map Value.ref).toArray 0)).get? b=s.heap.get? b:=fun b hb=>by
  rw[get?_push_ne _ _ _ (by rw[hsz];exact ne_of_lt (lt_succ_of_lt hb)),get?_update_ne _ _ _ _ (ne_of_lt hb),get?_push_ne _ _ _ (ne_of_lt hb)]
 have hs2:(((s.heap.push (seqObj "list" #[] 0)).update s.heap.objs.size (Obj.mapSeq (· ++(as.map Value.ref).toArray))).push (seqObj "list" (as.map Value.ref).toArray 0)).objs.size=s.heap.objs.size+2:=by rw[size_push',hsz]
 generalize ((s.heap.push (seqObj "list" #[] 0)).update s.heap.objs.size (Obj.mapSeq (· ++(as.map Value.ref).toArray))).push (seqObj "list" (as.map Value.ref).toArray 0)=h2 at hoL hold hs2
 have k1:∀b,b < s.heap.objs.size→(((h2.update (s.heap.objs.size+1) (Obj.mapSeq fun _=> #[])).push (seqObj "tuple" (as.map Value.ref).toArray 0)).push (seqObj "list" #[] 0)).get? b=s.heap.get? b:=fun b hb=>by
  rw[get?_push_ne _ _ _ (ne_of_lt (by rw[size_push',size_update,hs2];omega)),get?_push_ne _ _ _ (ne_of_lt (by rw[size_update,hs2];omega)),get?_update_ne _ _ _ _ (ne_of_lt (by omega)),hold b hb]
 obtain⟨g,hg⟩:∃g:Addr→TS.nM.α,∀a∈as,TS.jT (((h2.update (s.heap.objs.size+1) (Obj.mapSeq fun _=> #[])).push (seqObj "tuple" (as.map Value.ref).toArray 0)).push (seqObj "list" #[] 0)) a (g a):=by
  have ex:=fun a (ha:a∈as)=>C1 I k1 (hs a ha)
  haveI:Nonempty TS.nM.α:=⟨((0:Int),([]:List Nat),([]:List Nat),(0:Int),([]:List Nat))⟩
  exact⟨fun a=>Classical.epsilon fun x=>TS.jT _ a x,fun a ha=>Classical.epsilon_spec (ex a ha)⟩
 refine wpAny_bind (wpAny_holding (wpAny_call_entry slot_list_sort ⟨_,hoL,rfl⟩ entry_list_sort (TS.lu (g:=g) hoL hz (by show X.A.units+1+1 < cLine;omega) hg fun ys pm=>?_) (args_list_sort _)))
 refine⟨_,rfl,wpAny_pure ⟨_,rfl,?_⟩⟩
 have ho6:∃e1,(((h2.update (s.heap.objs.size+1) (Obj.mapSeq fun _=> #[])).push (seqObj "tuple" (as.map Value.ref).toArray 0)).push (seqObj "list" #[] 0)).get? (s.heap.objs.size+1)=some (seqObj "list" #[] e1):=by
  obtain⟨e1,he⟩:∃e1,(h2.update (s.heap.objs.size+1) (Obj.mapSeq fun _=>(#[]:Array Value))).get? (s.heap.objs.size+1)=some (seqObj "list" #[] e1):=⟨_,get?_update_seq hoL fun _=> #[]⟩
  exact⟨e1,by
   rw[get?_push_ne _ _ _ (ne_of_lt (by rw[size_push',size_update,hs2];omega)),get?_push_ne _ _ _ (ne_of_lt (by rw[size_update,hs2];omega))]
   exact he⟩
 obtain⟨e1,ho6⟩:=ho6
 have hend:=get?_update_seq ho6 (fun _=>(ys.map Value.ref).toArray)
 refine⟨.ref (s.heap.objs.size+1),_,I.laid (t':=s.toks) (o:=.lst (ys.map V.ref)) (fun b u hb=>?_) (le_succ _) ⟨by rw[length_map,pm.length_eq];exact hz,_,_,kG ys,hend⟩,rfl,q _ _ (I.hok.fresh (le_succ _)) pm⟩
 have lt:=lt_size hb
 rw[get?_update_ne _ _ _ _ (ne_of_lt (lt_succ_of_lt lt)),k1 b lt]
 exact hb
end
end L2
namespace J
open PySem L2
theorem gF{X:Cx}(hu:X.A.units+2 < cLine):JF X (.builtin "sorted") (fun xs H Q=>L2.Em X.K xs H Q):=⟨L2.gF hu⟩
end J
namespace L2
open PySem
theorem xG:0≤sizeLine:=by decide
theorem Jb:1≤sizeLine:=by decide
theorem zD:2≤sizeLine:=by decide
theorem n9:3≤sizeLine:=by decide
theorem D0:4≤sizeLine:=by decide
theorem kI {K:PySem.W.Frag}{T n:String}(hT:T∈tys:=by decide) (hn:n∈["int", "bool", "str", "list", "tuple"]:=by decide):kitOne K (.type T) (.type n)=some (xi T n):=du hT hn
theorem iP{c A B:Prop} [Decidable c] (h:A)(hc:c:=by decide+kernel):if c then A else B:=fD hc h
theorem iN{c A B:Prop} [Decidable c] (h:B)(hc:¬c:=by decide+kernel):if c then A else B:=gW hc h
end L2
namespace K16
open PySem L2
variable {P:Program}{w:World}{K:PySem.W.Frag}{mg:Str→Option Value}{base:Heap}{kw C:Addr}{f:Addr}{fd:FuncData}
def kept:List Str:=["person", "talk", "saw", "knew", "heard", "told", "not", "nobody", "never", "by", "from", "to"]
def qU:V→Bool
 |.int i=>decide (0≤i) && decide (i≤10 ^ Int.toNat 18)
 |_=>false
def ir:V→Bool
 |.str w=> !decide (w.cps.toList < ("a" :Str).cps.toList) && !decide (("z" :Str).cps.toList < w.cps.toList)
 |_=>false
def dR(z:Str):Bool:=decide (1≤(z.length:Int)) && (decide ((z.length:Int)≤12) && (((signs z).map ir).all id && !tG (.str z) (kept.map V.str)))
def uW:V→Bool
 |.str z=>dR z
 |_=>false
def lQ(K:PySem.W.Frag):Sp:=fun vs H Q _=>∃x T,vs=[x]∧eX K H x (.type T)∧T∈tys∧Q (.bl (T == "int")) H
def kD(K:PySem.W.Frag):Sp:=fun vs H Q _=>∃x T,vs=[x]∧eX K H x (.type T)∧T∈tys∧Q (.bl (qU x)) H
def mO(K:PySem.W.Frag):Sp:=fun vs H Q _=>∃x T,vs=[x]∧eX K H x (.type T)∧T∈tys∧(∀z,x=.str z→z.length≤sizeLine)∧∀H',cI H H'→Q (.bl (uW x)) H'
def lets:Str:= "bcdfghijklmnpqrstuvwxz"
def iC(z:Str):Prop:=∀c∈z.cps.toList,c∈lets.cps.toList
theorem mj:lets.cps.toList.length=22:=by decide+kernel
theorem zM:lets.cps.toList.Nodup:=by decide+kernel
theorem vU:∀c∈lets.cps.toList,ir (.str ⟨#[c]⟩)=true:=by decide+kernel
theorem xM:∀w∈kept,(w.cps.toList.any fun c=> !lets.cps.toList.contains c)=true:=by decide+kernel
theorem jP(a b:Str):(a++b).cps.toList=a.cps.toList++b.cps.toList:=by
 show(a.cps++b.cps).toList=_
 rw[toList_append]
theorem lT(a b:Str):(a++b).length=a.length+b.length:=Array.size_append
theorem pG(a:Str):a.cps.toList.length=a.length:=length_toList
theorem uR{a b:Str}(h:a.cps.toList=b.cps.toList):a=b:=by
 obtain⟨x⟩:=a
 obtain⟨y⟩:=b
 have:x=y:=Array.ext' h
 rw[this]
theorem rJ{z:Str}(h:iC z)(h1:1≤z.length)(h2:z.length≤12):dR z=true:=by
 unfold dR
 rw[decide_eq_true (by omega),decide_eq_true (by omega),Bool.true_and,Bool.true_and,and_eq_true]
 refine⟨?_,?_⟩
 ·rw[all_map,all_eq_true]
  intro v hv
  obtain⟨c,hc,rfl⟩:=mem_map.mp hv
  exact vU c (h c hc)
 ·cases e:tG (.str z) (kept.map V.str) with
  |false=>rfl
  |true=>
   have e':(kept.map V.str).any (fun y=>qE y (.str z))=true:=e
   rw[any_map,any_eq_true]at e'
   obtain⟨w,hw,e2⟩:=e'
   have e3:(w == z)=true:=e2
   have e4:w=z:=eq_of_beq e3
   have ko:=xM w hw
   rw[any_eq_true]at ko
   obtain⟨c,hc,nc⟩:=ko
   rw[e4]at hc
   have:=h c hc
   rw[←List.contains_iff_mem]at this
   rw[this]at nc
   cases nc
theorem Ci{z:Str}{k:Nat}(hk:k≤z.length):(lA z none (some (k:Int))).cps.toList=z.cps.toList.take k:=by
 show((z.cps.toList.drop (HT.gu z.length 0 none)).take (HT.gu z.length z.length (some (k:Int)) - HT.gu z.length 0 none))=_
 rw[HT.f9,HT.iW,drop_zero,Nat.sub_zero,min_eq_left hk]
theorem Dg{z:Str}{k:Nat}(hk:k≤z.length):(lA z (some (k:Int)) none).cps.toList=z.cps.toList.drop k:=by
 show((z.cps.toList.drop (HT.gu z.length 0 (some (k:Int)))).take (HT.gu z.length z.length none - HT.gu z.length 0 (some (k:Int))))=_
 rw[HT.f9,HT.iW,min_eq_left hk]
 refine take_of_length_le ?_
 rw[length_drop,pG]
 exact le_refl _
def putIn(z:Str)(k:Int)(c:Nat):Str:=(lA z none (some k)++(⟨#[c]⟩:Str))++lA z (some k) none
theorem iT{z:Str}{k:Nat}{c:Nat}(hk:k≤z.length):(putIn z k c).cps.toList=z.cps.toList.take k++([c]++z.cps.toList.drop k):=by
 unfold putIn
 rw[jP,jP,Ci hk,Dg hk,append_assoc]
theorem wL{z:Str}{k:Nat}{c:Nat}(hk:k≤z.length):(putIn z k c).length=z.length+1:=by
 rw[←pG,iT hk,length_append,length_append,length_take,length_drop,pG]
 show min k z.length+(1+(z.length - k))=_
 omega
theorem wO{z:Str}{k:Nat}{c:Nat}(hk:k≤z.length)(hz:iC z)(hc:c∈lets.cps.toList):iC (putIn z k c):=by
 intro d hd
 rw[iT hk,mem_append,mem_append,mem_singleton]at hd
 rcases hd with hd|rfl|hd
 ·exact hz d (mem_of_mem_take hd)
 ·exact hc
 ·exact hz d (mem_of_mem_drop hd)
theorem xv{z:Str}{k:Nat}{c d:Nat}(hk:k≤z.length)(h:putIn z k c=putIn z k d):c=d:=by
 have e:=congrArg (fun s:Str=>s.cps.toList) h
 try dsimp only at e
 rw[iT hk,iT hk]at e
 have e2:=List.append_cancel_left e
 exact(List.cons.inj e2).1
theorem qm{a b:Str}(ha:iC a)(hb:iC b):iC (a++b):=by
 intro c hc
 rw[jP,mem_append]at hc
 exact hc.elim (ha c) (hb c)
theorem vJ{c:Nat}(hc:c∈lets.cps.toList):iC ⟨#[c]⟩:=by
 intro d hd
 have:d∈[c]:=hd
 rw[mem_singleton]at this
 rw[this]
 exact hc
theorem sr(sep:Str)(hs:iC sep):∀zs:List Str,(∀z∈zs,iC z)→iC (Str.join sep zs)
 |[],_=>fun c hc=>by
  have:c∈([]:List Nat):=hc
  cases this
 |[x],h=>h x (mem_cons_self ..)
 |x::y::r,h=>by
  show iC (x++sep++Str.join sep (y::r))
  exact qm (qm (h x (mem_cons_self ..)) hs) (sr sep hs (y::r) fun z hz=>h z (mem_cons_of_mem _ hz))
def nQ(f:Nat→Str)(more:Str):Nat→List Str
 |0=>[]
 |i+1=>nQ f more i++[f i,f i++more]
theorem nv(f:Nat→Str)(more:Str):∀i,(nQ f more i).length=2 * i
 |0=>rfl
 |i+1=>by
  show(nQ f more i++[f i,f i++more]).length=_
  rw[length_append,nv f more i]
  show 2 * i+2=_
  omega
theorem mK(f:Nat→Str)(more:Str)(x:Str):∀i,x∈nQ f more i→∃j,j < i∧(x=f j∨x=f j++more)
 |0,h=>by cases h
 |i+1,h=>by
  have h':x∈nQ f more i++[f i,f i++more]:=h
  rw[mem_append]at h'
  rcases h' with h'|h'
  ·obtain⟨j,hj,e⟩:=mK f more x i h'
   exact⟨j,by omega,e⟩
  ·rw[mem_cons,mem_singleton]at h'
   exact⟨i,lt_succ_self i,h'⟩
theorem nD(f:Nat→Str)(more:Str)(L:Nat)(hL:∀j,(f j).length=L)(hm:more.length=1):∀i,(∀j k,j < i→k < i→f j=f k→j=k)→(nQ f more i).Nodup
 |0,_=>nodup_nil
 |i+1,h=>by
  show(nQ f more i++[f i,f i++more]).Nodup
  have ih:=nD f more L hL hm i fun j k hj hk=>h j k (by omega) (by omega)
  have lm:∀j,(f j++more).length=L+1:=fun j=>by rw[lT,hL,hm]
  have cancel:∀j k,f j++more=f k++more→f j=f k:=fun j k e=>by
   have e':=congrArg (fun s:Str=>s.cps.toList) e
   try dsimp only at e'
   rw[jP,jP]at e'
   exact uR (List.append_cancel_right e')
  rw[nodup_append]
  refine⟨ih,?_,?_⟩
  ·rw[nodup_cons,mem_singleton]
   refine⟨fun e=>?_,nodup_cons.mpr ⟨(by intro z;cases z),nodup_nil⟩⟩
   have:=congrArg Str.length e
   rw[lm,hL]at this
   omega
  ·intro x hx y hy e
   subst e
   obtain⟨j,hj,e⟩:=mK f more x i hx
   rw[mem_cons,mem_singleton]at hy
   rcases e with rfl|rfl<;>rcases hy with hy|hy
   ·have:=h j i (by omega) (by omega) hy
    omega
   ·have:=congrArg Str.length hy
    rw[lm,hL]at this
    omega
   ·have:=congrArg Str.length hy
    rw[lm,hL]at this
    omega
   ·have:=h j i (by omega) (by omega) (cancel j i hy)
    omega
structure pB(us:List Str):Prop where
 len:us.length=24
 nd:us.Nodup
 nm:∀z∈us,dR z=true
theorem zh(f:Nat→Str)(more:Str)(L:Nat)(hL:∀j,(f j).length=L)(hl:∀j,iC (f j))(h1:1≤L)(h2:L≤11)(hm:more.length=1)(lm:iC more)(inj:∀j k,j < 12→k < 12→f j=f k→j=k):pB (nQ f more 12):=by
 refine⟨nv f more 12,nD f more L hL hm 12 inj,fun z hz=>?_⟩
 obtain⟨j,_,e⟩:=mK f more z 12 hz
 rcases e with rfl|rfl
 ·exact rJ (hl j) (by rw[hL];exact h1) (by rw[hL];omega)
 ·exact rJ (qm (hl j) lm) (by rw[lT,hL];omega) (by rw[lT,hL,hm];omega)
def fJ(i:Int):Nat:=lets.cps.toList.getD i.toNat 0
theorem gx{i:Int}(h0:0≤i)(h1:i < 22):um lets.cps.toList i=some (fJ i)∧fJ i∈lets.cps.toList:=by
 have hj:i.toNat < lets.cps.toList.length:=by rw[mj];omega
 have e:((i.toNat:Nat):Int)=i:=Int.toNat_of_nonneg h0
 have eg:lets.cps.toList.getD i.toNat 0=lets.cps.toList[i.toNat]:=by
  rw[getD_eq_getElem?_getD,getElem?_eq_getElem hj]
  rfl
 have:=dv (xs:=lets.cps.toList) (j:=i.toNat) (v:=lets.cps.toList[i.toNat]) (getElem?_eq_getElem hj)
 rw[e]at this
 refine⟨?_,?_⟩
 ·rw[this]
  exact congrArg some eg.symm
 ·show lets.cps.toList.getD i.toNat 0∈_
  rw[eg]
  exact getElem_mem hj
theorem v9{i j:Int}(h0:0≤i)(h1:i < 22)(g0:0≤j)(g1:j < 22)(e:fJ i=fJ j):i=j:=by
 have hi:i.toNat < lets.cps.toList.length:=by rw[mj];omega
 have hj:j.toNat < lets.cps.toList.length:=by rw[mj];omega
 have e':lets.cps.toList.getD i.toNat 0=lets.cps.toList.getD j.toNat 0:=e
 rw[getD_eq_getElem?_getD,getD_eq_getElem?_getD,getElem?_eq_getElem hi,getElem?_eq_getElem hj]at e'
 have e2:lets.cps.toList[i.toNat]=lets.cps.toList[j.toNat]:=e'
 have e3:=(getElem_inj zM).mp e2
 omega
theorem oH(us:List Str)(lo hi:Option Int):dz (us.map V.str) lo hi=(((us.drop (HT.gu us.length 0 lo)).take (HT.gu us.length us.length hi - HT.gu us.length 0 lo))).map V.str:=by
 unfold dz
 rw[length_map,List.map_take,List.map_drop]
theorem wrap{L x:Int}(h0:0≤x)(h1:x < 2 * L):x % L=if x < L then x else x - L:=by
 by_cases h:x < L
 ·rw[if_pos h,Int.emod_eq_of_lt h0 h]
 ·rw[if_neg h]
  have e:x % L=(x - L) % L:=by rw[Int.sub_emod_right]
  rw[e,Int.emod_eq_of_lt (by omega) (by omega)]
theorem rF{n r L:Int}(hL:2≤L)(r0:0≤r)(r1:r < L - 1):(n+1+r) % L≠n % L:=by
 have m0:0≤n % L:=Int.emod_nonneg n (by omega)
 have m1:n % L < L:=Int.emod_lt_of_pos n (by omega)
 have e:(n+1+r) % L=(n % L+(1+r)) % L:=by
  rw[Int.emod_add_emod]
  congr 1
  omega
 rw[e,wrap (x:=n % L+(1+r)) (by omega) (by omega)]
 split<;>omega
def cT(h:Int):Prop:=0≤h∧h≤10 ^ Int.toNat 18
theorem gj{h:Int}(k:cT h):qU (.int h)=true:=by
 show(decide (0≤h) && decide (h≤10 ^ Int.toNat 18))=true
 rw[decide_eq_true k.1,decide_eq_true k.2]
 rfl
theorem xN{z:Str}(h:dR z=true):z.length≤12:=by
 unfold dR at h
 rw[and_eq_true,and_eq_true,decide_eq_true_iff,decide_eq_true_iff]at h
 have:=h.2.1
 omega
theorem xA{z:Str}(h:dR z=true):z.length≤sizeLine:=by
 have h1:=xN h
 have:sizeLine=16777216:=sizeLine_eq
 omega
theorem kN{z:Str}(h:dR z=true):∀y,V.str z=V.str y→y.length≤sizeLine:=fun y e=>by
 cases e
 exact xA h
structure eR(ps:List Str):Prop where
 lo:1≤ps.length
 hi:ps.length≤24
 nd:ps.Nodup
 nm:∀z∈ps,dR z=true
inductive ej  (ps:List Str)(H:Hp)(v:V):Prop
 |mk(a:Addr)(z:Str)(h:Int)(ta:Addr)(ws:List Str)(h0:v=.ref a)(h1:H a=some (.tup [.str z,.int h,.ref ta]))(h2:z∈ps)(h3:cT h)(h4:H ta=some (.tup (ws.map V.str)))(h5:1≤ws.length)(h6:ws.length≤6)(h7:∀x∈ws,dR x=true)
inductive eQ  (ps:List Str)(H:Hp)(v:V):Prop
 |mk (a:Addr) (h:Int) (p q w:Str) (h0:v=.ref a) (h1:H a=some (.tup [.int h,.str p,.str q,.str w])) (h2:cT h) (h3:p∈ps) (h4:q∈ps) (h5:p≠q) (h6:(w= "both" ∨w= "one"))
inductive gB  (ps:List Str)(H:Hp)(v:V):Prop
 |mk (a:Addr) (h0:v=.ref a) (h1:((∃(p:Str) (h:Int),H a=some (.tup [.str "knew",.str p,.int h])∧p∈ps∧cT h)∨    (∃(p:Str) (b:V),H a=some (.tup [.str "unheard",.str p,b])∧p∈ps∧(b=.non∨∃h:Int,b=.int h∧cT h))∨    (∃(p:Str) (h k:Int),H a=some (.tup [.str "silent",.str p,.int h,.int k])∧p∈ps∧cT h∧cT k∧h≤k)∨    (∃p q:Str,H a=some (.tup [.str "barred",.str p,.str q])∧p∈ps∧q∈ps∧p≠q)))
def Tk(H H':Hp):Prop:=∀b xs,H b=some (.tup xs)→H' b=some (.tup xs)
theorem Tk.of{H H':Hp}(s:cI H H'):Tk H H':=fun b _ e=>s b _ e
theorem Tk.trans{H H1 H2:Hp}(a:Tk H H1)(b:Tk H1 H2):Tk H H2:=fun c xs e=>b c xs (a c xs e)
theorem Tk.upd{H:Hp}{l:Addr}{xs ys:List V}(h:H l=some (.lst xs)):Tk H (upd H l (.lst ys)):=fun b zs e=>by
 rw[cH (eW e h (by intro z;cases z))]
 exact e
theorem ej.mono{ps:List Str}{H H':Hp}{v:V}(s:Tk H H')(h:ej ps H v):ej ps H' v:=by
 obtain⟨a,z,h,ta,ws,e,ha,hz,hh,ht,r1,r2,r3⟩:=h
 exact⟨a,z,h,ta,ws,e,s _ _ ha,hz,hh,s _ _ ht,r1,r2,r3⟩
theorem eQ.mono{ps:List Str}{H H':Hp}{v:V}(s:Tk H H')(h:eQ ps H v):eQ ps H' v:=by
 obtain⟨a,h,p,q,w,e,ha,r1,r2,r3,r4,r5⟩:=h
 exact⟨a,h,p,q,w,e,s _ _ ha,r1,r2,r3,r4,r5⟩
theorem gB.mono{ps:List Str}{H H':Hp}{v:V}(s:Tk H H')(h:gB ps H v):gB ps H' v:=by
 obtain⟨a,e,h⟩:=h
 refine⟨a,e,?_⟩
 rcases h with ⟨p,h,ha,r⟩|⟨p,b,ha,r⟩|⟨p,h,k,ha,r⟩|⟨p,q,ha,r⟩
 ·exact .inl ⟨p,h,s _ _ ha,r⟩
 ·exact .inr (.inl ⟨p,b,s _ _ ha,r⟩)
 ·exact .inr (.inr (.inl ⟨p,h,k,s _ _ ha,r⟩))
 ·exact .inr (.inr (.inr ⟨p,q,s _ _ ha,r⟩))
theorem yt{z:Str}{ps:List Str}(h:z∈ps):tG (.str z) (ps.map V.str)=true:=by
 show(ps.map V.str).any (fun y=>qE y (.str z))=true
 rw[any_map,any_eq_true]
 exact⟨z,h,by show(z == z)=true;exact beq_self_eq_true z⟩
theorem wI(ps:List Str):(ps.map V.str).all de=true:=by
 rw[all_map,all_eq_true]
 intro z _
 rfl
theorem all_true{α:Type}{f:α→Bool}{xs:List α}(h:∀x∈xs,f x=true):(xs.map f).all id=true:=by
 rw[all_map,all_eq_true]
 exact fun x hx=>h x hx
theorem jv{xs:List V}{n:Nat}{m:Int}(h:xs.length=n)(hm:(n:Int)≠m):¬decide (V.int (xs.length:Nat)=V.int m)=true:=by
 rw[decide_eq_true_iff,h]
 intro e
 injection e with e
 exact hm e
theorem pZ{xs:List V}{n:Nat}{m:Int}(h:xs.length=n)(hm:(n:Int)=m):decide (V.int (xs.length:Nat)=V.int m)=true:=by
 rw[decide_eq_true_iff,h,hm]
inductive vN  (vs:List V)(H:Hp)(Q:VK):Prop
 |mk(p:Addr)(xs:List V)(m:Int)(h0:vs=[.ref p,.int m])(h1:H p=some (.lst xs))(h2:(xs.length:Int)≤m)(h3:Q (.bl true) H)
def gf  :Sp:=fun vs H Q _=>vN  vs H Q
inductive yH  (vs:List V)(H:Hp)(Q:VK):Prop
 |mk(p:Addr)(xs:List V)(m:Int)(h0:vs=[.ref p,.int m])(h1:H p=some (.tup xs))(h2:(xs.length:Int)=m)(h3:Q (.bl true) H)
def lU  :Sp:=fun vs H Q _=>yH  vs H Q
inductive wN  (vs:List V)(H:Hp)(Q:VK):Prop
 |mk(p:Addr)(ps:List Str)(z:Str)(h0:vs=[.ref p,.str z])(h1:H p=some (.lst (ps.map V.str)))(h2:eR ps)(h3:z∈ps)(h4:∀H',cI H H'→Q (.bl true) H')
def gn  :Sp:=fun vs H Q _=>wN  vs H Q
inductive wU  (vs:List V)(H:Hp)(Q:VK):Prop
 |mk(p:Addr)(ps:List Str)(y z:Str)(h0:vs=[.ref p,.str y,.str z])(h1:H p=some (.lst (ps.map V.str)))(h2:eR ps)(h3:y∈ps)(h4:z∈ps)(h5:y≠z)(h6:∀H',cI H H'→Q (.bl true) H')
def jK  :Sp:=fun vs H Q _=>wU  vs H Q
inductive Ab  (vs:List V)(H:Hp)(Q:VK):Prop
 |mk(t:Addr)(ws:List Str)(h0:vs=[.ref t])(h1:H t=some (.tup (ws.map V.str)))(h2:1≤ws.length)(h3:ws.length≤6)(h4:(∀x∈ws,dR x=true))(h5:∀H',cI H H'→Q (.bl true) H')
def tO  :Sp:=fun vs H Q _=>Ab  vs H Q
inductive za  (vs:List V)(H:Hp)(Q:VK):Prop
 |mk(p:Addr)(ps:List Str)(v:V)(h0:vs=[.ref p,v])(h1:H p=some (.lst (ps.map V.str)))(h2:eR ps)(h3:ej ps H v)(h4:∀H',cI H H'→Q (.bl true) H')
def pC  :Sp:=fun vs H Q _=>za  vs H Q
inductive Dx  (vs:List V)(H:Hp)(Q:VK):Prop
 |mk (w:Str) (h0:vs=[.str w]) (h1:(w= "both" ∨w= "one")) (h2:∀H',cI H H'→Q (.bl true) H')
def yy  :Sp:=fun vs H Q _=>Dx  vs H Q
inductive As  (vs:List V)(H:Hp)(Q:VK):Prop
 |mk(p:Addr)(ps:List Str)(v:V)(h0:vs=[.ref p,v])(h1:H p=some (.lst (ps.map V.str)))(h2:eR ps)(h3:eQ ps H v)(h4:∀H',cI H H'→Q (.bl true) H')
def t6  :Sp:=fun vs H Q _=>As  vs H Q
inductive Az  (vs:List V)(H:Hp)(Q:VK):Prop
 |mk(h k:Int)(h0:vs=[.int h,.int k])(h1:cT h)(h2:cT k)(h3:h≤k)(h4:Q (.bl true) H)
def uw  :Sp:=fun vs H Q _=>Az  vs H Q
inductive x4  (vs:List V)(H:Hp)(Q:VK):Prop
 |mk (p:Addr) (ps:List Str) (kd y:Str) (b:V) (h0:vs=[.ref p,.str kd,.str y,b]) (h1:H p=some (.lst (ps.map V.str))) (h2:eR ps) (h3:y∈ps) (h4:((kd= "barred" ∧∃z,b=.str z∧z∈ps∧y≠z)∨(kd= "unheard" ∧(b=.non∨∃h:Int,b=.int h∧cT h))∨(kd= "knew" ∧∃h:Int,b=.int h∧cT h))) (h5:∀H',cI H H'→Q (.bl true) H')
def p5  :Sp:=fun vs H Q _=>x4  vs H Q
inductive wm  (vs:List V)(H:Hp)(Q:VK):Prop
 |mk(p:Addr)(ps:List Str)(v:V)(h0:vs=[.ref p,v])(h1:H p=some (.lst (ps.map V.str)))(h2:eR ps)(h3:gB ps H v)(h4:∀H',cI H H'→Q (.bl true) H')
def mJ  :Sp:=fun vs H Q _=>wm  vs H Q
inductive tY  (vs:List V)(H:Hp)(Q:VK):Prop
 |mk(p:Addr)(ps:List Str)(h0:vs=[.ref p])(h1:H p=some (.lst (ps.map V.str)))(h2:eR ps)(h3:∀H',cI H H'→Q (.bl true) H')
def kW  :Sp:=fun vs H Q _=>tY  vs H Q
inductive AK  (M:List Str→Hp→V→Prop)(n:Nat)(vs:List V)(H:Hp)(Q:VK):Prop
 |mk(p q:Addr)(ps:List Str)(xs:List V)(h0:vs=[.ref p,.ref q])(h1:H p=some (.lst (ps.map V.str)))(h2:eR ps)(h3:H q=some (.lst xs))(h4:xs.length≤n)(h5:(∀v∈xs,M ps H v))(h6:∀H',cI H H'→Q (.bl true) H')
def gR  (M:List Str→Hp→V→Prop)(n:Nat):Sp:=fun vs H Q _=>AK M n vs H Q
def lx(p s t y:Addr):List (Str×V):=eT "kept_sayings" (.ref y) (eT "kept_talks" (.ref t) (eT "kept_sights" (.ref s) (eT "kept_persons" (.ref p) [])))
theorem BG(p s t y:Addr):(lx p s t y).lookup ("kept_persons" :Str)=some (.ref p):=by
 unfold lx
 rw[cP,if_neg (by decide+kernel),cP,if_neg (by decide+kernel),cP,if_neg (by decide+kernel),cP,if_pos rfl]
theorem By(p s t y:Addr):(lx p s t y).lookup ("kept_sights" :Str)=some (.ref s):=by
 unfold lx
 rw[cP,if_neg (by decide+kernel),cP,if_neg (by decide+kernel),cP,if_pos rfl]
theorem ye(p s t y:Addr):(lx p s t y).lookup ("kept_talks" :Str)=some (.ref t):=by
 unfold lx
 rw[cP,if_neg (by decide+kernel),cP,if_pos rfl]
theorem vI(p s t y:Addr):(lx p s t y).lookup ("kept_sayings" :Str)=some (.ref y):=by
 unfold lx
 rw[cP,if_pos rfl]
theorem fc (p s t y:Addr){m:Str}(h1:¬m= "kept_sayings") (h2:¬m= "kept_talks") (h3:¬m= "kept_sights") (h4:¬m= "kept_persons"):(lx p s t y).lookup m=none:=by
 unfold lx
 rw[cP,if_neg h1,cP,if_neg h2,cP,if_neg h3,cP,if_neg h4]
 rfl
structure Parts(H:Hp)(ps:List Str)(ss ts ys:List V):Prop where
 ok:eR ps
 sl:ss.length≤24
 sg:∀v∈ss,ej ps H v
 tl:ts.length≤120
 tg:∀v∈ts,eQ ps H v
 yl:ys.length≤60
 yg:∀v∈ys,gB ps H v
theorem Parts.mono{H H':Hp}{ps:List Str}{ss ts ys:List V}(s:Tk H H')(g:Parts H ps ss ts ys):Parts H' ps ss ts ys:=
 ⟨g.ok,g.sl,fun v h=>(g.sg v h).mono s,g.tl,fun v h=>(g.tg v h).mono s,g.yl,fun v h=>(g.yg v h).mono s⟩
structure Bk(C:Addr)(H:Hp)(x p s t y:Addr)(ps:List Str)(ss ts ys:List V):Prop where
 ob:∃dx,H x=some (.ins C dx (lx p s t y))
 hp:H p=some (.lst (ps.map V.str))
 hs:H s=some (.lst ss)
 ht:H t=some (.lst ts)
 hy:H y=some (.lst ys)
theorem Bk.mono{C:Addr}{H H':Hp}{x p s t y:Addr}{ps:List Str}{ss ts ys:List V}(m:cI H H')(b:Bk C H x p s t y ps ss ts ys):Bk C H' x p s t y ps ss ts ys:=by
 obtain⟨⟨dx,e⟩,h1,h2,h3,h4⟩:=b
 exact⟨⟨dx,m _ _ e⟩,m _ _ h1,m _ _ h2,m _ _ h3,m _ _ h4⟩
inductive zU  (C:Addr)(vs:List V)(H:Hp)(Q:VK):Prop
 |mk(x dx p a b c:Addr)(ps:List Str)(ss ts ys:List V)(h0:vs=[.ref x,.ref p,.ref a,.ref b,.ref c])(h1:H x=some (.ins C dx []))(h2:H p=some (.lst (ps.map V.str)))(h3:H a=some (.lst ss))(h4:H b=some (.lst ts))(h5:H c=some (.lst ys))(h6:Parts H ps ss ts ys)(h7:∀(p' s' t' y':Addr)(H':Hp),H p'=none→H s'=none→H t'=none→H y'=none→Bk C H' x p' s' t' y' ps ss ts ys→(∀d o,H d=some o→d≠x→H' d=some o)→Q .non H')
def l8  (C:Addr):Sp:=fun vs H Q _=>zU C vs H Q
structure Txt(K:PySem.W.Frag)(mg:Str→Option Value)(kw C:Addr):Prop where
 b_isinstance:mg "isinstance" =none
 b_int:mg "int" =none
 b_bool:mg "bool" =none
 b_str:mg "str" =none
 b_len:mg "len" =none
 b_all:mg "all" =none
 b_range:mg "range" =none
 b_list:mg "list" =none
 b_tuple:mg "tuple" =none
 b_set:mg "set" =none
 b_zip:mg "zip" =none
 b_enumerate:mg "enumerate" =none
 b_min:mg "min" =none
 b_max:mg "max" =none
 b_any:mg "any" =none
 b_sorted:mg "sorted" =none
 b_dict:mg "dict" =none
 b_sum:mg "sum" =none
 b_reversed:mg "reversed" =none
 kwm:mg "KEPT_WORDS" =some (.ref kw)
 kwt:∃(o:Obj) (its:Array Value) (n:Nat),K.lookup kw=some o∧o.cls=.type "tuple" ∧o.data=.seq its n∧its.size≤sizeLine∧Vals (kept.map V.str) its.toList
 g_MOST_PERSONS:∃u,mg "MOST_PERSONS" =some u∧RelV (.int 24) u
 g_MOST_SIGHTS:∃u,mg "MOST_SIGHTS" =some u∧RelV (.int 24) u
 g_MOST_TALKS:∃u,mg "MOST_TALKS" =some u∧RelV (.int 120) u
 g_MOST_SAYINGS:∃u,mg "MOST_SAYINGS" =some u∧RelV (.int 60) u
 g_MOST_WORDS:∃u,mg "MOST_WORDS" =some u∧RelV (.int 6) u
 cl:qJ K C
 nP:fe K C "kept_persons"
 nS:fe K C "kept_sights"
 nT:fe K C "kept_talks"
 nY:fe K C "kept_sayings"
theorem Jz:cJ ["thing"] ["thing"] (cG gQ):={}
theorem tf (F:lM K "is_whole" "is_whole" gQ f fd) (T:Txt K mg kw C):dY P w K mg base jC 1 f fd ["thing"] (lQ K):=by
 refine F.ok Jz (fun vs H Q E h=>?_) (fun cdv A outer s H vs Q E hr h=>?_)
 ·obtain⟨x,t,rfl,_⟩:=h
  rfl
 ·obtain⟨x,t,rfl,ty,ht,k⟩:=h
  refine⟨_,jM (mF (qx (f7 jR rfl T.b_isinstance cY (eK (pv 0) (eK (lP (v:=.ty "int") rfl T.b_int xP rfl) jw)))
   (qw (mv (f7 jR rfl T.b_isinstance cY (eK (pv 0) (eK (lP (v:=.ty "bool") rfl T.b_bool Bq rfl) jw))))))),?_⟩
  refine⟨_,rfl,_,_,_,_,rfl,ty,du ht (by decide),_,rfl,?_⟩
  refine dG (fun h1=>?_) (fun h1=>?_)
  ·refine⟨_,rfl,_,_,_,_,rfl,ty,du ht (by decide),_,rfl,?_⟩
   have e:(!xi t "bool")=(t == "int"):=by
    simp only[tys,mem_cons,not_mem_nil,or_false]at ht
    rcases ht with rfl|rfl|rfl|rfl|rfl|rfl|rfl<;>first|rfl| (exfalso;revert h1;decide)
   show Q (.bl (!xi t "bool")) H
   rw[e]
   exact k
  ·have e:(t == "int")=false:=by
    simp only[tys,mem_cons,not_mem_nil,or_false]at ht
    rcases ht with rfl|rfl|rfl|rfl|rfl|rfl|rfl<;>first|rfl| (exfalso;revert h1;decide)
   show Q (.bl false) H
   rw[←e]
   exact k
theorem Jy:cJ ["thing"] ["thing"] (cG k8):={}
theorem zK {f fW:Addr}{fd fdW:FuncData}(F:lM K "is_hour" "is_hour" k8 f fd) (DW:Df K mg "is_whole" gQ ["thing"] fW fdW) (T:Txt K mg kw C):dY P w K mg base jC 2 f fd ["thing"] (kD K):=by
 have GW:dY P w K mg base jC 1 fW fdW ["thing"] (lQ K):=tf DW.fn T
 refine F.ok Jy (fun vs H Q E h=>?_) (fun cdv A outer s H vs Q E hr h=>?_)
 ·obtain⟨x,t,rfl,_⟩:=h
  rfl
 ·obtain⟨x,t,rfl,ty,ht,k⟩:=h
  refine⟨_,jM (mF (qx (vF GW hr rfl DW.nm DW.fn.kp DW.bi .nil ro (eK (pv 0) jw))
   (qw (fg qI qI kJ (pv 0) (BK yB kJ kJ))))),?_⟩
  refine⟨_,rfl,x,t,rfl,ty,ht,_,rfl,?_⟩
  refine dG (fun h1=>?_) (fun h1=>?_)
  ·have e:t= "int" :=eq_of_beq h1
   subst e
   obtain⟨i,rfl⟩:=ty_int ty
   ·refine⟨_,rfl,_,_,rfl,rfl,_,rfl,?_⟩
    refine dG (fun h2=>?_) (fun h2=>?_)
    ·refine⟨_,_,rfl,rfl,⟨by decide,by decide,by decide⟩,_,_,rfl,rfl,?_⟩
     have e2:qU (.int i)=decide (i≤10 ^ Int.toNat 18):=by
      show(decide (0≤i) && decide (i≤10 ^ Int.toNat 18))=_
      rw[h2,Bool.true_and]
     rw[e2]at k
     exact k
    ·have e2:qU (.int i)=false:=by
      show(decide (0≤i) && decide (i≤10 ^ Int.toNat 18))=_
      rw[eq_false_iff.mpr h2,Bool.false_and]
     rw[e2]at k
     exact k
  ·have e2:qU x=false:=by
    cases x with
    |int i=>exact absurd (beq_iff_eq.mpr (wF ty)) h1
    |_=>rfl
   rw[e2]at k
   exact k
theorem JY:cJ ["thing"] ["thing"] (cG iU):={}
theorem AF (F:lM K "is_name" "is_name" iU f fd) (T:Txt K mg kw C):dY P w K mg base jC 1 f fd ["thing"] (mO K):=by
 refine F.ok JY (fun vs H Q E h=>?_) (fun cdv A outer s H vs Q E hr h=>?_)
 ·obtain⟨x,t,rfl,_⟩:=h
  rfl
 ·obtain⟨x,t,rfl,ty,ht,hz,k⟩:=h
  refine⟨_,sI (Bz (PW.pt (BE (uC (t8 (f7 jR rfl T.b_isinstance cY (eK (pv 0) (eK (lP (v:=.ty "str") rfl T.b_str tZ rfl) jw)))))
    (zt (uC (iq qI qI kJ (f7 qv rfl T.b_len cV (eK (pv 0) jw)) kJ))))) (jM (mF Bx)) vB)
   (jM (mF (qx (f7 (oJ rfl) rfl T.b_all iz (eK (yW (sc:=cG iU) (N:=["thing"]) (is:=[]) (ns:=[]) rfl (DR (pv 0))
     {} (fun _ _ _ _ _=>fg oB oB uI (pv 0) uI)) jw))
    (qw (uS ei (pv 0) (l6 (v:=.ref kw) rfl T.kwm rfl) (by with_unfolding_all rfl)))))),?_⟩
  refine⟨_,rfl,_,_,_,_,rfl,ty,du ht (by decide),_,rfl,?_⟩
  by_cases hs:t= "str"
  ·subst hs
   obtain⟨z,rfl⟩:=ty_str ty
   ·have hz':=hz z rfl
    refine dt ?_
    refine⟨_,rfl,z,rfl,hz',_,_,rfl,rfl,_,rfl,?_⟩
    by_cases h1:1≤(z.length:Int)
    ·rw[decide_eq_true h1]
     refine d6 ⟨_,_,rfl,rfl,_,rfl,?_⟩
     by_cases h2:(z.length:Int)≤12
     ·rw[decide_eq_true h2]
      refine dt ?_
      refine⟨_,rfl,z,rfl,CT (fun v=>.bl (ir v)) hz' (fun v H2 Q' hv sm q'=>?_) fun D hD=>?_⟩
      ·obtain⟨c,_,rfl⟩:=mem_map.mp hv
       refine⟨_,rfl,_,_,rfl,rfl,_,rfl,dG (fun h=>⟨_,_,rfl,rfl,?_⟩) (fun h=>?_)⟩
       ·have e:ir (.str ⟨#[c]⟩)= !decide (("z" :Str).cps.toList < (⟨#[c]⟩:Str).cps.toList):=by
         show(!decide ((⟨#[c]⟩:Str).cps.toList < ("a" :Str).cps.toList) && _)=_
         rw[h,Bool.true_and]
        rw[e]at q'
        exact q'
       ·have e:ir (.str ⟨#[c]⟩)=false:=by
         show(!decide ((⟨#[c]⟩:Str).cps.toList < ("a" :Str).cps.toList) && _)=_
         rw[eq_false_iff.mpr h,Bool.false_and]
        rw[e]at q'
        exact q'
      ·refine⟨D,(signs z).map ir,rfl,cL.of (cE.trans (by rw[map_map];rfl)),_,rfl,?_⟩
       have e:dR z=(((signs z).map ir).all id && !tG (.str z) (kept.map V.str)):=by
        unfold dR
        rw[decide_eq_true h1,decide_eq_true h2,Bool.true_and,Bool.true_and]
       have k':=k _ (cI.upd (o:=.lst (((signs z).map fun v=>V.bl (ir v)))) hD)
       have k2:Q (.bl (dR z)) _:=k'
       rw[e]at k2
       refine dG (fun h=>?_) (fun h=>?_)
       ·rw[h,Bool.true_and]at k2
        refine⟨_,rfl,kw,_,rfl,.inr (.inr T.kwt),rfl,?_,k2⟩
        decide+kernel
       ·rw[eq_false_iff.mpr h,Bool.false_and]at k2
        exact k2
     ·rw[decide_eq_false h2]
      refine d6 ?_
      have e:dR z=false:=by
       unfold dR
       rw[decide_eq_false h2,Bool.false_and,Bool.and_false]
      have k2:Q (.bl (dR z)) H:=k H (cI.refl H)
      rw[e]at k2
      exact k2
    ·rw[decide_eq_false h1]
     refine dt ⟨_,rfl,d6 ?_⟩
     have e:dR z=false:=by
      unfold dR
      rw[decide_eq_false h1,Bool.false_and]
     have k2:Q (.bl (dR z)) H:=k H (cI.refl H)
     rw[e]at k2
     exact k2
  ·have e:xi t "str" =false:=by
    unfold xi
    rw[beq_eq_false_iff_ne.mpr hs,Bool.false_or]
    exact Bool.and_false _
   rw[e]
   refine d6 (d6 ?_)
   have e2:uW x=false:=by
    cases x with
    |str z=>exact absurd (wt ty) hs
    |_=>rfl
   have k2:=k H (cI.refl H)
   rw[e2]at k2
   exact k2
theorem zo{α:Type}{xs:List α}{i:Int}(h0:0≤i)(h1:i < xs.length):∃v,um xs i=some v∧v∈xs:=by
 have hj:i.toNat < xs.length:=by omega
 have e:((i.toNat:Nat):Int)=i:=Int.toNat_of_nonneg h0
 refine⟨xs[i.toNat],?_,getElem_mem hj⟩
 have:=dv (xs:=xs) (j:=i.toNat) (v:=xs[i.toNat]) (by simp[hj])
 rw[e]at this
 exact this
theorem kZ:cJ ["thing", "most"] ["thing", "most"] (cG eU):={}
theorem ua (D:Df K mg "is_list_up_to" eU ["thing", "most"] f fd) (T:Txt K mg kw C):Gd P w K mg base 1 "is_list_up_to" gf:=by
 refine aH D kZ fun X H vs Q E hh h=>?_
 obtain⟨p,xs,m,rfl,hp,hm,k⟩:=h
 obtain⟨S0,S1,_⟩:=hh.eE [0,1]
 have B_isinstance:=hh.b T.b_isinstance
 have B_len:=hh.b T.b_len
 have B_list:=hh.b T.b_list
 refine⟨_,(aj (au (aT (aE B_isinstance cq L2.cY (aD (aa S0) (J.ty B_list L2.eY))) (aY (aU bH (aE B_len aZ L2.cV (ak (aa S0))) (aa S1) (L2.cK _)))))),?_⟩
 refine⟨_,rfl,_,_,_,_,rfl,.lst hp,du (T:= "list") (by decide) (by decide),_,rfl,iP ?_⟩
 refine⟨_,rfl,p,xs,rfl,.inl (cL.of hp),_,rfl,_,_,rfl,rfl,?_⟩
 show Q (.bl (decide ((xs.length:Int)≤m))) H
 rw[decide_eq_true hm]
 exact k
theorem nh:cJ ["thing", "length"] ["thing", "length"] (cG fL):={}
theorem wM (D:Df K mg "is_tuple_of" fL ["thing", "length"] f fd) (T:Txt K mg kw C):Gd P w K mg base 1 "is_tuple_of" lU:=by
 refine aH D nh fun X H vs Q E hh h=>?_
 obtain⟨p,xs,m,rfl,hp,hm,k⟩:=h
 obtain⟨S0,S1,_⟩:=hh.eE [0,1]
 have B_isinstance:=hh.b T.b_isinstance
 have B_len:=hh.b T.b_len
 have B_tuple:=hh.b T.b_tuple
 refine⟨_,(aj (au (aT (aE B_isinstance cq L2.cY (aD (aa S0) (J.ty B_tuple L2.j8))) (aY (aU aK (aE B_len aZ L2.cV (ak (aa S0))) (aa S1) (L2.cK _)))))),?_⟩
 refine⟨_,rfl,_,_,_,_,rfl,.tup hp,du (T:= "tuple") (by decide) (by decide),_,rfl,iP ?_⟩
 refine⟨_,rfl,p,xs,rfl,.inr (c8.of hp),_,rfl,rfl,?_⟩
 rw[hm,decide_eq_true rfl]
 exact k
theorem qg:cJ ["persons", "thing"] ["persons", "thing"] (cG ic):={}
theorem xk (D:Df K mg "is_person" ic ["persons", "thing"] f fd) (G_is_name:Gd P w K mg base 1 "is_name" (mO K)):Gd P w K mg base 2 "is_person" gn:=by
 refine aH D qg fun X H vs Q E hh h=>?_
 obtain⟨p,ps,z,rfl,hp,hP,hz,k⟩:=h
 obtain⟨S0,S1,_⟩:=hh.eE [0,1]
 have C_is_name:=hh.c G_is_name
 have hn:=hP.nm z hz
 refine⟨_,(aj (au (aT (av C_is_name (ak (aa S1))) (aY (aU J.iQ (aa S1) (aa S0) b9))))),?_⟩
 refine⟨_,rfl,.str z, "str",rfl,.str z,by decide,kN hn,fun H1 s1=>⟨_,rfl,fD hn ?_⟩⟩
 refine⟨_,rfl,_,rfl,p,_,rfl,.inl (cL.of (s1 _ _ hp)),rfl,wI ps,?_⟩
 show Q (.bl (tG (.str z) (ps.map V.str))) H1
 rw[yt hz]
 exact k H1 s1
theorem gY:cJ ["persons", "one", "other"] ["persons", "one", "other"] (cG dP):={}
theorem wk (D:Df K mg "are_unlike_persons" dP ["persons", "one", "other"] f fd) (G_is_person:Gd P w K mg base 2 "is_person" gn):Gd P w K mg base 3 "are_unlike_persons" jK:=by
 refine aH D gY fun X H vs Q E hh h=>?_
 obtain⟨p,ps,y,z,rfl,hp,hP,hy,hz,hne,k⟩:=h
 obtain⟨S0,S1,S2,_⟩:=hh.eE [0,1,2]
 have C_is_person:=hh.c G_is_person
 refine⟨_,(aj (au (aT (av C_is_person (aD (aa S0) (aa S1))) (aT (av C_is_person (aD (aa S0) (aa S2))) (aY (aU cv (aa S1) (aa S2) (L2.cK _))))))),?_⟩
 refine⟨_,rfl,_,rfl,p,ps,y,rfl,hp,hP,hy,fun H1 s1=>⟨_,rfl,d6 ?_⟩⟩
 refine⟨_,rfl,_,rfl,p,ps,z,rfl,s1 _ _ hp,hP,hz,fun H2 s2=>⟨_,rfl,d6 ?_⟩⟩
 refine⟨_,rfl,_,rfl,rfl,?_⟩
 rw[decide_eq_false (by intro e;cases e;exact hne rfl)]
 exact k H2 (s1.trans s2)
theorem uJ:cJ ["thing"] ["thing"] (cG km):={}
theorem Bj (D:Df K mg "is_tale" km ["thing"] f fd) (T:Txt K mg kw C) (G_is_name:Gd P w K mg base 1 "is_name" (mO K)):Gd P w K mg base 2 "is_tale" tO:=by
 refine aH D uJ fun X H vs Q E hh h=>?_
 obtain⟨t,ws,rfl,ht,w1,w6,hw,k⟩:=h
 obtain⟨S0,_⟩:=hh.eE [0]
 have B_all:=hh.b T.b_all
 have B_isinstance:=hh.b T.b_isinstance
 have B_len:=hh.b T.b_len
 have B_tuple:=hh.b T.b_tuple
 have g_MOST_WORDS:∀{p:Pos},J.JE X (.Name "MOST_WORDS" p) (L2.tC (.int 6)):=cu hh T.g_MOST_WORDS rfl (by decide)
 have CI_is_name:=hh.ci G_is_name
 have hl:(ws.map V.str).length=ws.length:=length_map ..
 have hz:(ws.map V.str).length≤sizeLine:=by
  have:sizeLine=16777216:=sizeLine_eq
  omega
 refine⟨_,(af (aJ (bf (bZ (ba (bj (aE B_isinstance cq L2.cY (aD (aa S0) (J.ty B_tuple L2.j8))))) (cm (ba (J.iq bH bH ae (aE B_len aZ L2.cV (ak (aa S0))) g_MOST_WORDS L2.fu)))))
 (aj (au bp))
 aM)
 (aj (au (aE B_all (bV hh.calm) L2.iz (ak (bW (is:=[]) (ns:=[]) hh.calm (J.ud (aa S0)) {} (fun _ _ _ _ _=>(av (CI_is_name.lc rfl) (ak (bP rfl (by decide) (by decide))))) hh.hsc hh.hN)))))),?_⟩
 refine⟨_,rfl,_,_,_,_,rfl,.tup ht,du (T:= "tuple") (by decide) (by decide),_,rfl,iN ?_⟩
 refine⟨_,rfl,t,_,rfl,.inr (c8.of ht),_,_,rfl,rfl,_,rfl,fD (decide_eq_true (by omega)) ⟨_,_,rfl,rfl,_,rfl,?_⟩⟩
 rw[decide_eq_true (show((ws.map V.str).length:Int)≤6 by omega)]
 refine dt ?_
 refine⟨_,rfl,t,rfl,⟨_,c8.of ht⟩,AI (fun v=>.bl (uW v)) (c8.of ht) hz (fun v H2 Q' hv sm q'=>?_) (fun D' H' hD sm hl'=>?_)⟩
 ·obtain⟨x,hx,rfl⟩:=mem_map.mp hv
  exact⟨_,rfl,.str x, "str",rfl,.str x,by decide,kN (hw x hx),fun H3 s3=>q' H3 s3⟩
 ·refine⟨D',ws.map dR,rfl,cL.of (hl'.trans (by rw[map_map,map_map];rfl)),?_⟩
  rw[all_true hw]
  exact k H' sm
theorem sO:cJ ["persons", "thing"] ["persons", "thing"] (cG jB):={}
theorem yJ (D:Df K mg "is_sight" jB ["persons", "thing"] f fd) (G_is_tuple_of:Gd P w K mg base 1 "is_tuple_of" lU) (G_is_person:Gd P w K mg base 2 "is_person" gn)
  (G_is_hour:Gd P w K mg base 2 "is_hour" (kD K)) (G_is_tale:Gd P w K mg base 2 "is_tale" tO):Gd P w K mg base 3 "is_sight" pC:=by
 refine aH D sO fun X H vs Q E hh h=>?_
 obtain⟨p,ps,v,rfl,hp,hP,⟨a,z,hr,ta,ws,rfl,ha,hz,hho,hta,w1,w6,hw⟩,k⟩:=h
 obtain⟨S0,S1,_⟩:=hh.eE [0,1]
 have C_is_hour:=hh.c G_is_hour
 have C_is_person:=hh.c G_is_person
 have C_is_tale:=hh.c G_is_tale
 have C_is_tuple_of:=hh.c G_is_tuple_of
 refine⟨_,(af (aJ (ba (bj (av C_is_tuple_of (aD (aa S1) ae))))
 (aj (au bp))
 aM)
 (aj (au (aT (av C_is_person (aD (aa S0) (ag aw (aa S1) ae ao))) (aT (av C_is_hour (ak (ag aw (aa S1) ae ao))) (aY (av C_is_tale (ak (ag aw (aa S1) ae ao))))))))),?_⟩
 refine⟨_,rfl,a,_,3,rfl,ha,rfl,_,rfl,dt ?_⟩
 refine⟨_,rfl,_,rfl,xT ha rfl ⟨p,ps,z,rfl,hp,hP,hz,fun H1 s1=>⟨_,rfl,d6 ?_⟩⟩⟩
 refine⟨_,rfl,xT (s1 _ _ ha) rfl ⟨.int hr, "int",rfl,.int hr,by decide,_,rfl,fD (gj hho) ?_⟩⟩
 exact⟨_,rfl,xT (s1 _ _ ha) rfl ⟨ta,ws,rfl,s1 _ _ hta,w1,w6,hw,fun H2 s2=>k H2 (s1.trans s2)⟩⟩
theorem xE:cJ ["thing"] ["thing"] (cG mG):={}
theorem CA (D:Df K mg "is_way" mG ["thing"] f fd) (T:Txt K mg kw C):Gd P w K mg base 1 "is_way" yy:=by
 refine aH D xE fun X H vs Q E hh h=>?_
 obtain⟨z,rfl,hz,k⟩:=h
 obtain⟨S0,_⟩:=hh.eE [0]
 have B_isinstance:=hh.b T.b_isinstance
 have B_str:=hh.b T.b_str
 refine⟨_,(aj (au (aT (aE B_isinstance cq L2.cY (aD (aa S0) (J.ty B_str L2.tZ))) (aY (aU J.iQ (aa S0) (aR (aD aN aN)) J.yc))))),?_⟩
 refine⟨_,rfl,_,_,_,_,rfl,.str z,du (T:= "str") (by decide) (by decide),_,rfl,iP ?_⟩
 refine⟨_,rfl,zD,fun q hq=>⟨q,_,rfl,.inr (c8.of cE),rfl,by decide+kernel,?_⟩⟩
 show Q (.bl (tG (.str z) [.str "both",.str "one"])) _
 have e:tG (.str z) [.str "both",.str "one"]=true:=by
  rcases hz with rfl|rfl<;>decide+kernel
 rw[e]
 exact k _ (cI.upd hq)
theorem uj:cJ ["persons", "thing"] ["persons", "thing"] (cG kH):={}
theorem Ar (D:Df K mg "is_talk" kH ["persons", "thing"] f fd) (G_is_tuple_of:Gd P w K mg base 1 "is_tuple_of" lU) (G_are_unlike_persons:Gd P w K mg base 3 "are_unlike_persons" jK)
  (G_is_hour:Gd P w K mg base 2 "is_hour" (kD K)) (G_is_way:Gd P w K mg base 1 "is_way" yy):Gd P w K mg base 4 "is_talk" t6:=by
 refine aH D uj fun X H vs Q E hh h=>?_
 obtain⟨p,ps,v,rfl,hp,hP,⟨a,hr,y,z,wy,rfl,ha,hho,hy,hz,hne,hw⟩,k⟩:=h
 obtain⟨S0,S1,_⟩:=hh.eE [0,1]
 have C_are_unlike_persons:=hh.c G_are_unlike_persons
 have C_is_hour:=hh.c G_is_hour
 have C_is_tuple_of:=hh.c G_is_tuple_of
 have C_is_way:=hh.c G_is_way
 refine⟨_,(af (aJ (ba (bj (av C_is_tuple_of (aD (aa S1) ae))))
 (aj (au bp))
 aM)
 (aj (au (aT (av C_is_hour (ak (ag aw (aa S1) ae ao))) (aT (av C_are_unlike_persons (aQ (aa S0) (ag aw (aa S1) ae ao) (ag aw (aa S1) ae ao))) (aY (av C_is_way (ak (ag aw (aa S1) ae ao))))))))),?_⟩
 refine⟨_,rfl,a,_,4,rfl,ha,rfl,_,rfl,dt ?_⟩
 refine⟨_,rfl,xT ha rfl ⟨.int hr, "int",rfl,.int hr,by decide,_,rfl,fD (gj hho) ?_⟩⟩
 refine⟨_,rfl,_,rfl,xT ha rfl ⟨_,rfl,xT ha rfl ⟨p,ps,y,z,rfl,hp,hP,hy,hz,hne,fun H1 s1=>⟨_,rfl,d6 ?_⟩⟩⟩⟩
 exact⟨_,rfl,xT (s1 _ _ ha) rfl ⟨wy,rfl,hw,fun H2 s2=>k H2 (s1.trans s2)⟩⟩
theorem tP:cJ ["begin", "end"] ["begin", "end"] (cG k7):={}
theorem zR (D:Df K mg "is_span" k7 ["begin", "end"] f fd) (G_is_hour:Gd P w K mg base 2 "is_hour" (kD K)):Gd P w K mg base 3 "is_span" uw:=by
 refine aH D tP fun X H vs Q E hh h=>?_
 obtain⟨a,b,rfl,h1,h2,h3,k⟩:=h
 obtain⟨S0,S1,_⟩:=hh.eE [0,1]
 have C_is_hour:=hh.c G_is_hour
 refine⟨_,(aj (au (aT (av C_is_hour (ak (aa S0))) (aT (av C_is_hour (ak (aa S1))) (aY (aU bH (aa S0) (aa S1) (L2.cK _))))))),?_⟩
 refine⟨_,rfl,.int a, "int",rfl,.int a,by decide,_,rfl,fD (gj h1) ?_⟩
 refine⟨_,rfl,.int b, "int",rfl,.int b,by decide,_,rfl,fD (gj h2) ?_⟩
 refine⟨_,rfl,_,rfl,_,_,rfl,rfl,?_⟩
 show Q (.bl (decide (a≤b))) H
 rw[decide_eq_true h3]
 exact k
theorem jj:cJ ["persons", "kind", "person", "behind"] ["persons", "kind", "person", "behind"] (cG eA):={}
theorem zj (D:Df K mg "is_short_saying" eA ["persons", "kind", "person", "behind"] f fd) (G_are_unlike_persons:Gd P w K mg base 3 "are_unlike_persons" jK)
  (G_is_person:Gd P w K mg base 2 "is_person" gn) (G_is_hour:Gd P w K mg base 2 "is_hour" (kD K)):Gd P w K mg base 4 "is_short_saying" p5:=by
 refine aH D jj fun X H vs Q E hh h=>?_
 obtain⟨p,ps,kd,y,b,rfl,hp,hP,hy,hk,k⟩:=h
 obtain⟨S0,S1,S2,S3,_⟩:=hh.eE [0,1,2,3]
 have C_are_unlike_persons:=hh.c G_are_unlike_persons
 have C_is_hour:=hh.c G_is_hour
 have C_is_person:=hh.c G_is_person
 refine⟨_,(af (aJ (aF aK (aa S1) aN (L2.cK _))
 (aj (au (av C_are_unlike_persons (aQ (aa S0) (aa S2) (aa S3)))))
 aM)
 (af (aJ (ba (bj (av C_is_person (aD (aa S0) (aa S2)))))
 (aj (au bp))
 aM)
 (af (aJ (aF aK (aa S1) aN (L2.cK _))
 (aj (au (J.o9 (aU J.pV (aa S3) cj (L2.cK _)) (aY (av C_is_hour (ak (aa S3)))))))
 aM)
 (aj (au (aT (aU aK (aa S1) aN (L2.cK _)) (aY (av C_is_hour (ak (aa S3)))))))))),?_⟩
 refine⟨_,rfl,rfl,_,rfl,?_⟩
 rcases hk with ⟨rfl,z,rfl,hz,hne⟩|⟨rfl,hb⟩|⟨rfl,h,rfl,hho⟩
 ·refine fD (decide_eq_true rfl) ?_
  exact⟨_,rfl,_,rfl,_,rfl,p,ps,y,z,rfl,hp,hP,hy,hz,hne,k⟩
 ·refine iN ?_
  refine⟨_,rfl,_,rfl,p,ps,y,rfl,hp,hP,hy,fun H1 s1=>⟨_,rfl,dt ?_⟩⟩
  refine⟨_,rfl,rfl,_,rfl,fD (decide_eq_true rfl) ?_⟩
  rcases hb with rfl|⟨h,rfl,hho⟩
  ·exact⟨_,rfl,rfl,_,rfl,fD (decide_eq_true rfl) (k H1 s1)⟩
  ·refine⟨_,rfl,rfl,_,rfl,gW (by rw[decide_eq_true_iff];intro e;cases e) ?_⟩
   refine⟨_,rfl,.int h, "int",rfl,.int h,by decide,?_⟩
   rw[gj hho]
   exact k H1 s1
 ·refine iN ?_
  refine⟨_,rfl,_,rfl,p,ps,y,rfl,hp,hP,hy,fun H1 s1=>⟨_,rfl,dt ?_⟩⟩
  refine⟨_,rfl,rfl,_,rfl,iN ?_⟩
  refine⟨_,rfl,rfl,_,rfl,fD (decide_eq_true rfl) ?_⟩
  refine⟨_,rfl,.int h, "int",rfl,.int h,by decide,?_⟩
  rw[gj hho]
  exact k H1 s1
theorem pA:cJ ["persons", "thing"] ["persons", "thing"] (cG ik):={}
theorem wB (D:Df K mg "is_saying" ik ["persons", "thing"] f fd) (T:Txt K mg kw C) (G_is_person:Gd P w K mg base 2 "is_person" gn) (G_is_span:Gd P w K mg base 3 "is_span" uw)
  (G_is_short_saying:Gd P w K mg base 4 "is_short_saying" p5):Gd P w K mg base 5 "is_saying" mJ:=by
 refine aH D pA fun X H vs Q E hh h=>?_
 obtain⟨p,ps,v,rfl,hp,hP,⟨a,rfl,hk⟩,k⟩:=h
 obtain⟨S0,S1,_⟩:=hh.eE [0,1]
 have B_isinstance:=hh.b T.b_isinstance
 have B_len:=hh.b T.b_len
 have B_str:=hh.b T.b_str
 have B_tuple:=hh.b T.b_tuple
 have C_is_person:=hh.c G_is_person
 have C_is_short_saying:=hh.c G_is_short_saying
 have C_is_span:=hh.c G_is_span
 refine⟨_,(af (aJ (bf (bZ (ba (bj (aE B_isinstance cq L2.cY (aD (aa S1) (J.ty B_tuple L2.j8))))) (bZ (aF aK (aE B_len aZ L2.cV (ak (aa S1))) ae (L2.cK _)) (cm (ba (bj (aE B_isinstance cq L2.cY (aD (ag aw (aa S1) ae ao) (J.ty B_str L2.tZ)))))))))
 (aj (au bp))
 aM)
 (af (aJ (aF aK (aE B_len aZ L2.cV (ak (aa S1))) ae (L2.cK _))
 (aj (au (aT (aU aK (ag aw (aa S1) ae ao) aN (L2.cK _)) (aT (av C_is_person (aD (aa S0) (ag aw (aa S1) ae ao))) (aY (av C_is_span (aD (ag aw (aa S1) ae ao) (ag aw (aa S1) ae ao))))))))
 aM)
 (aj (au (aT (aU aK (aE B_len aZ L2.cV (ak (aa S1))) ae (L2.cK _)) (aY (av C_is_short_saying (bI (aa S0) (ag aw (aa S1) ae ao) (ag aw (aa S1) ae ao) (ag aw (aa S1) ae ao))))))))),?_⟩
 rcases hk with ⟨y,h,ha,hy,hho⟩|⟨y,b,ha,hy,hb⟩|⟨y,h,h2,ha,hy,hho,hho2,hle⟩|⟨y,z,ha,hy,hz,hne⟩
 ·refine⟨_,rfl,_,_,_,_,rfl,.tup ha,du (T:= "tuple") (by decide) (by decide),_,rfl,iN ?_⟩
  refine⟨_,rfl,a,_,rfl,.inr (c8.of ha),rfl,_,rfl,gW (jv (n:=3) rfl (by decide)) ?_⟩
  refine⟨_,rfl,xT ha rfl ⟨_,_,_,_,rfl,.str _,du (T:= "str") (by decide) (by decide),_,rfl,iN ?_⟩⟩
  refine⟨_,rfl,a,_,rfl,.inr (c8.of ha),rfl,_,rfl,gW (jv (n:=3) rfl (by decide)) ?_⟩
  refine⟨_,rfl,a,_,rfl,.inr (c8.of ha),rfl,_,rfl,fD (pZ (n:=3) rfl (by decide)) ?_⟩
  exact⟨_,rfl,_,rfl,xT ha rfl ⟨_,rfl,xT ha rfl ⟨_,rfl,xT ha rfl ⟨p,ps,_,y,_,rfl,hp,hP,hy,.inr (.inr ⟨rfl,h,rfl,hho⟩),k⟩⟩⟩⟩
 ·refine⟨_,rfl,_,_,_,_,rfl,.tup ha,du (T:= "tuple") (by decide) (by decide),_,rfl,iN ?_⟩
  refine⟨_,rfl,a,_,rfl,.inr (c8.of ha),rfl,_,rfl,gW (jv (n:=3) rfl (by decide)) ?_⟩
  refine⟨_,rfl,xT ha rfl ⟨_,_,_,_,rfl,.str _,du (T:= "str") (by decide) (by decide),_,rfl,iN ?_⟩⟩
  refine⟨_,rfl,a,_,rfl,.inr (c8.of ha),rfl,_,rfl,gW (jv (n:=3) rfl (by decide)) ?_⟩
  refine⟨_,rfl,a,_,rfl,.inr (c8.of ha),rfl,_,rfl,fD (pZ (n:=3) rfl (by decide)) ?_⟩
  exact⟨_,rfl,_,rfl,xT ha rfl ⟨_,rfl,xT ha rfl ⟨_,rfl,xT ha rfl ⟨p,ps,_,y,_,rfl,hp,hP,hy,.inr (.inl ⟨rfl,hb⟩),k⟩⟩⟩⟩
 ·refine⟨_,rfl,_,_,_,_,rfl,.tup ha,du (T:= "tuple") (by decide) (by decide),_,rfl,iN ?_⟩
  refine⟨_,rfl,a,_,rfl,.inr (c8.of ha),rfl,_,rfl,gW (jv (n:=4) rfl (by decide)) ?_⟩
  refine⟨_,rfl,xT ha rfl ⟨_,_,_,_,rfl,.str _,du (T:= "str") (by decide) (by decide),_,rfl,iN ?_⟩⟩
  refine⟨_,rfl,a,_,rfl,.inr (c8.of ha),rfl,_,rfl,fD (pZ (n:=4) rfl (by decide)) ?_⟩
  refine⟨_,rfl,xT ha rfl ⟨rfl,_,rfl,iP ?_⟩⟩
  refine⟨_,rfl,_,rfl,xT ha rfl ⟨p,ps,y,rfl,hp,hP,hy,fun H1 s1=>⟨_,rfl,d6 ?_⟩⟩⟩
  exact⟨_,rfl,xT (s1 _ _ ha) rfl ⟨_,rfl,xT (s1 _ _ ha) rfl ⟨h,h2,rfl,hho,hho2,hle,k H1 s1⟩⟩⟩
 ·refine⟨_,rfl,_,_,_,_,rfl,.tup ha,du (T:= "tuple") (by decide) (by decide),_,rfl,iN ?_⟩
  refine⟨_,rfl,a,_,rfl,.inr (c8.of ha),rfl,_,rfl,gW (jv (n:=3) rfl (by decide)) ?_⟩
  refine⟨_,rfl,xT ha rfl ⟨_,_,_,_,rfl,.str _,du (T:= "str") (by decide) (by decide),_,rfl,iN ?_⟩⟩
  refine⟨_,rfl,a,_,rfl,.inr (c8.of ha),rfl,_,rfl,gW (jv (n:=3) rfl (by decide)) ?_⟩
  refine⟨_,rfl,a,_,rfl,.inr (c8.of ha),rfl,_,rfl,fD (pZ (n:=3) rfl (by decide)) ?_⟩
  exact⟨_,rfl,_,rfl,xT ha rfl ⟨_,rfl,xT ha rfl ⟨_,rfl,xT ha rfl ⟨p,ps,_,y,_,rfl,hp,hP,hy,.inl ⟨rfl,z,rfl,hz,hne⟩,k⟩⟩⟩⟩
theorem ni:cJ ["thing"] ["thing"] (cG fQ):={}
theorem uh (D:Df K mg "are_persons" fQ ["thing"] f fd) (T:Txt K mg kw C) (G_is_list_up_to:Gd P w K mg base 1 "is_list_up_to" gf) (G_is_name:Gd P w K mg base 1 "is_name" (mO K)):Gd P w K mg base 2 "are_persons" kW:=by
 refine aH D ni fun X H vs Q E hh h=>?_
 obtain⟨p,ps,rfl,hp,hP,k⟩:=h
 obtain⟨S0,_⟩:=hh.eE [0]
 have B_all:=hh.b T.b_all
 have B_len:=hh.b T.b_len
 have B_set:=hh.b T.b_set
 have g_MOST_PERSONS:∀{p:Pos},J.JE X (.Name "MOST_PERSONS" p) (L2.tC (.int 24)):=cu hh T.g_MOST_PERSONS rfl (by decide)
 have C_is_list_up_to:=hh.c G_is_list_up_to
 have CI_is_name:=hh.ci G_is_name
 have hl:(ps.map V.str).length=ps.length:=length_map ..
 have h24:=hP.hi
 have h1:=hP.lo
 have hz:(ps.map V.str).length≤sizeLine:=by
  have:sizeLine=16777216:=sizeLine_eq
  omega
 refine⟨_,(af (aJ (bf (bZ (ba (bj (av C_is_list_up_to (aD (aa S0) g_MOST_PERSONS)))) (cm (aF aK (aE B_len aZ L2.cV (ak (aa S0))) ae (L2.cK _)))))
 (aj (au bp))
 aM)
 (aj (au (aT (aE B_all (bV hh.calm) L2.iz (ak (bW (is:=[]) (ns:=[]) hh.calm (aV (aa S0)) {} (fun _ _ _ _ _=>(av (CI_is_name.lc rfl) (ak (bP rfl (by decide) (by decide))))) hh.hsc hh.hN))) (aY (aU aK (aE B_len J.fR L2.cV (ak (bG B_set (J.kR hh.calm) L2.Cr (ak (aa S0))))) (aE B_len aZ L2.cV (ak (aa S0))) (L2.cK _))))))),?_⟩
 refine⟨_,rfl,p,_,24,rfl,hp,(by omega),_,rfl,dt ?_⟩
 refine⟨_,rfl,p,_,rfl,.inl (cL.of hp),rfl,_,rfl,gW ?_ ?_⟩
 ·rw[decide_eq_true_iff]
  intro e
  injection e with e
  omega
 ·refine⟨_,rfl,p,rfl,⟨_,cL.of hp⟩,jD (fun v=>.bl (uW v)) (cL.of hp) hz (fun v H2 Q' hv sm q'=>?_) (fun D' H' hD sm hl'=>?_)⟩
  ·obtain⟨x,hx,rfl⟩:=mem_map.mp hv
   exact⟨_,rfl,.str x, "str",rfl,.str x,by decide,kN (hP.nm x hx),fun H3 s3=>q' H3 s3⟩
  ·refine⟨D',ps.map dR,rfl,cL.of (hl'.trans (by rw[map_map,map_map];rfl)),_,rfl,fD (all_true hP.nm) ?_⟩
   refine⟨_,rfl,p,ps,rfl,cL.of (sm _ _ hp),hP.nd,by omega,fun q hq=>?_⟩
   refine⟨q,ps.length,rfl,cE,_,rfl,p,_,rfl,.inl (cL.of ((cI.upd hq) _ _ (sm _ _ hp))),rfl,?_⟩
   rw[hl,decide_eq_true rfl]
   exact k _ (sm.trans (cI.upd hq))
theorem nV:cJ ["persons", "thing"] ["persons", "thing"] (cG gJ):={}
theorem og (D:Df K mg "are_sights" gJ ["persons", "thing"] f fd) (T:Txt K mg kw C) (G_is_list_up_to:Gd P w K mg base 1 "is_list_up_to" gf) (G_is_sight:Gd P w K mg base 3 "is_sight" pC):Gd P w K mg base 4 "are_sights" (gR ej 24):=by
 refine aH D nV fun X H vs Q E hh h=>?_
 obtain⟨p,q,ps,xs,rfl,hp,hP,hq,hn,hg,k⟩:=h
 obtain⟨S0,S1,_⟩:=hh.eE [0,1]
 have B_all:=hh.b T.b_all
 have g_MOST_SIGHTS:∀{p:Pos},J.JE X (.Name "MOST_SIGHTS" p) (L2.tC (.int 24)):=cu hh T.g_MOST_SIGHTS rfl (by decide)
 have C_is_list_up_to:=hh.c G_is_list_up_to
 have CI_is_sight:=hh.ci G_is_sight
 have hz:xs.length≤sizeLine:=by
  have:sizeLine=16777216:=sizeLine_eq
  omega
 refine⟨_,(aj (au (aT (av C_is_list_up_to (aD (aa S1) g_MOST_SIGHTS)) (aY (aE B_all (bV hh.calm) L2.iz (ak (bW (is:=[0]) (ns:=["persons"]) hh.calm (aV (aa S1)) {} (fun _ _ _ _ _=>(av (CI_is_sight.lc rfl) (aD (bU (i:=0) rfl rfl (by decide) (by decide)) (bP rfl (by decide) (by decide))))) hh.hsc hh.hN))))))),?_⟩
 refine⟨_,rfl,q,_,24,rfl,hq,(by omega),_,rfl,d6 ?_⟩
 refine⟨_,rfl,q,rfl,⟨_,cL.of hq⟩,jD (fun _=>.bl true) (cL.of hq) hz (fun v H2 Q' hv sm q'=>?_) (fun D' H' hD sm hl'=>?_)⟩
 ·exact⟨_,rfl,_,rfl,p,ps,v,rfl,sm _ _ hp,hP,(hg v hv).mono (Tk.of sm),fun H3 s3=>q' H3 s3⟩
 ·refine⟨D',xs.map fun _=>true,rfl,cL.of (hl'.trans (by rw[map_map];rfl)),?_⟩
  rw[all_true fun _ _=>rfl]
  exact k H' sm
theorem pW:cJ ["persons", "thing"] ["persons", "thing"] (cG hV):={}
theorem qe (D:Df K mg "are_talks" hV ["persons", "thing"] f fd) (T:Txt K mg kw C) (G_is_list_up_to:Gd P w K mg base 1 "is_list_up_to" gf) (G_is_talk:Gd P w K mg base 4 "is_talk" t6):Gd P w K mg base 5 "are_talks" (gR eQ 120):=by
 refine aH D pW fun X H vs Q E hh h=>?_
 obtain⟨p,q,ps,xs,rfl,hp,hP,hq,hn,hg,k⟩:=h
 obtain⟨S0,S1,_⟩:=hh.eE [0,1]
 have B_all:=hh.b T.b_all
 have g_MOST_TALKS:∀{p:Pos},J.JE X (.Name "MOST_TALKS" p) (L2.tC (.int 120)):=cu hh T.g_MOST_TALKS rfl (by decide)
 have C_is_list_up_to:=hh.c G_is_list_up_to
 have CI_is_talk:=hh.ci G_is_talk
 have hz:xs.length≤sizeLine:=by
  have:sizeLine=16777216:=sizeLine_eq
  omega
 refine⟨_,(aj (au (aT (av C_is_list_up_to (aD (aa S1) g_MOST_TALKS)) (aY (aE B_all (bV hh.calm) L2.iz (ak (bW (is:=[0]) (ns:=["persons"]) hh.calm (aV (aa S1)) {} (fun _ _ _ _ _=>(av (CI_is_talk.lc rfl) (aD (bU (i:=0) rfl rfl (by decide) (by decide)) (bP rfl (by decide) (by decide))))) hh.hsc hh.hN))))))),?_⟩
 refine⟨_,rfl,q,_,120,rfl,hq,(by omega),_,rfl,d6 ?_⟩
 refine⟨_,rfl,q,rfl,⟨_,cL.of hq⟩,jD (fun _=>.bl true) (cL.of hq) hz (fun v H2 Q' hv sm q'=>?_) (fun D' H' hD sm hl'=>?_)⟩
 ·exact⟨_,rfl,_,rfl,p,ps,v,rfl,sm _ _ hp,hP,(hg v hv).mono (Tk.of sm),fun H3 s3=>q' H3 s3⟩
 ·refine⟨D',xs.map fun _=>true,rfl,cL.of (hl'.trans (by rw[map_map];rfl)),?_⟩
  rw[all_true fun _ _=>rfl]
  exact k H' sm
theorem mE:cJ ["persons", "thing"] ["persons", "thing"] (cG fU):={}
theorem nO (D:Df K mg "are_sayings" fU ["persons", "thing"] f fd) (T:Txt K mg kw C) (G_is_list_up_to:Gd P w K mg base 1 "is_list_up_to" gf) (G_is_saying:Gd P w K mg base 5 "is_saying" mJ):Gd P w K mg base 6 "are_sayings" (gR gB 60):=by
 refine aH D mE fun X H vs Q E hh h=>?_
 obtain⟨p,q,ps,xs,rfl,hp,hP,hq,hn,hg,k⟩:=h
 obtain⟨S0,S1,_⟩:=hh.eE [0,1]
 have B_all:=hh.b T.b_all
 have g_MOST_SAYINGS:∀{p:Pos},J.JE X (.Name "MOST_SAYINGS" p) (L2.tC (.int 60)):=cu hh T.g_MOST_SAYINGS rfl (by decide)
 have C_is_list_up_to:=hh.c G_is_list_up_to
 have CI_is_saying:=hh.ci G_is_saying
 have hz:xs.length≤sizeLine:=by
  have:sizeLine=16777216:=sizeLine_eq
  omega
 refine⟨_,(aj (au (aT (av C_is_list_up_to (aD (aa S1) g_MOST_SAYINGS)) (aY (aE B_all (bV hh.calm) L2.iz (ak (bW (is:=[0]) (ns:=["persons"]) hh.calm (aV (aa S1)) {} (fun _ _ _ _ _=>(av (CI_is_saying.lc rfl) (aD (bU (i:=0) rfl rfl (by decide) (by decide)) (bP rfl (by decide) (by decide))))) hh.hsc hh.hN))))))),?_⟩
 refine⟨_,rfl,q,_,60,rfl,hq,(by omega),_,rfl,d6 ?_⟩
 refine⟨_,rfl,q,rfl,⟨_,cL.of hq⟩,jD (fun _=>.bl true) (cL.of hq) hz (fun v H2 Q' hv sm q'=>?_) (fun D' H' hD sm hl'=>?_)⟩
 ·exact⟨_,rfl,_,rfl,p,ps,v,rfl,sm _ _ hp,hP,(hg v hv).mono (Tk.of sm),fun H3 s3=>q' H3 s3⟩
 ·refine⟨D',xs.map fun _=>true,rfl,cL.of (hl'.trans (by rw[map_map];rfl)),?_⟩
  rw[all_true fun _ _=>rfl]
  exact k H' sm
theorem wJ:cJ ["self", "persons", "sights", "talks", "sayings"] ["self", "persons", "sights", "talks", "sayings"] (cG gA):={}
theorem AO (F:lM K "__init__" "Book.__init__" gA f fd) (mk:Mk K C f) (bi:Binds K fd ["self", "persons", "sights", "talks", "sayings"] []) (nm:mg "Book" =some (.ref C)) (T:Txt K mg kw C)
  (G_are_persons:Gd P w K mg base 2 "are_persons" kW) (G_are_sights:Gd P w K mg base 4 "are_sights" (gR ej 24)) (G_are_talks:Gd P w K mg base 5 "are_talks" (gR eQ 120)) (G_are_sayings:Gd P w K mg base 6 "are_sayings" (gR gB 60)):
  Kd P w K mg base 7 "Book" C (l8 C):=by
 refine J.A8 F mk bi nm wJ (fun vs H Q E h=>?_) (fun X H vs Q E hh h=>?_)
 ·obtain⟨x,dx,p,a,b,c,ps,ss,ts,ys,rfl,_⟩:=h
  rfl
 ·obtain⟨x,dx,p,a,b,c,ps,ss,ts,ys,rfl,hx,hp,ha,hb,hc,g,k⟩:=h
  obtain⟨S0,S1,S2,S3,S4,_⟩:=hh.eE [0,1,2,3,4]
  have B_list:=hh.b T.b_list
  have C_are_persons:=hh.c G_are_persons
  have C_are_sayings:=hh.c G_are_sayings
  have C_are_sights:=hh.c G_are_sights
  have C_are_talks:=hh.c G_are_talks
  obtain⟨hP,sl,sg,tl,tg,yl,yg⟩:=id g
  obtain rfl:=hh.fK
  refine⟨_,(af (aJ (ba (bj (av C_are_persons (ak (aa S1)))))
 cD
 aM)
 (af (aJ (ba (bj (av C_are_sights (aD (aa S1) (aa S2)))))
 cD
 aM)
 (af (aJ (ba (bj (av C_are_talks (aD (aa S1) (aa S3)))))
 cD
 aM)
 (af (aJ (ba (bj (av C_are_sayings (aD (aa S1) (aa S4)))))
 cD
 aM)
 (af (J.ki (aa S0) (bG B_list bS L2.eY (ak (aa S1))))
 (af (J.ki (aa S0) (bG B_list bS L2.eY (ak (aa S2))))
 (af (J.ki (aa S0) (bG B_list bS L2.eY (ak (aa S3))))
 (aj (J.ki (aa S0) (bG B_list bS L2.eY (ak (aa S4)))))))))))),?_⟩
  refine⟨_,rfl,p,ps,rfl,hp,hP,fun H1 s1=>⟨_,rfl,dt ?_⟩⟩
  refine⟨_,rfl,_,rfl,p,a,ps,ss,rfl,s1 _ _ hp,hP,s1 _ _ ha,sl,fun v hv=>(sg v hv).mono (Tk.of s1),fun H2 s2'=>⟨_,rfl,dt ?_⟩⟩
  have s2:=s1.trans s2'
  refine⟨_,rfl,_,rfl,p,b,ps,ts,rfl,s2 _ _ hp,hP,s2 _ _ hb,tl,fun v hv=>(tg v hv).mono (Tk.of s2),fun H3 s3'=>⟨_,rfl,dt ?_⟩⟩
  have s3:=s2.trans s3'
  refine⟨_,rfl,_,rfl,p,c,ps,ys,rfl,s3 _ _ hp,hP,s3 _ _ hc,yl,fun v hv=>(yg v hv).mono (Tk.of s3),fun H4 s4'=>⟨_,rfl,dt ?_⟩⟩
  have s4:=s3.trans s4'
  clear s1 s2' s2 s3' s3 s4'
  refine⟨_,rfl,p,_,rfl,.inl (cL.of (s4 _ _ hp)),fun p' np=>⟨_,rfl,x,C,dx,[],rfl,(by rw[cH (cF (s4 _ _ hx) np)];exact s4 _ _ hx),T.cl,T.nP,(by show 0 < 1000;decide),?_⟩⟩
  have xp:x≠p':=cF (s4 _ _ hx) np
  have k1:∀d o,H4 d=some o→d≠x→upd (upd H4 p' (.lst (ps.map V.str))) x (.ins C dx (eT "kept_persons" (.ref p') [])) d=some o:=fun d o e n=>by
   rw[cH n,cH (cF e np)]
   exact e
  have ax:a≠x:=eW (s4 _ _ ha) (s4 _ _ hx) (by intro z;cases z)
  have bx:b≠x:=eW (s4 _ _ hb) (s4 _ _ hx) (by intro z;cases z)
  have cx:c≠x:=eW (s4 _ _ hc) (s4 _ _ hx) (by intro z;cases z)
  refine⟨_,rfl,a,_,rfl,.inl (cL.of (k1 _ _ (s4 _ _ ha) ax)),fun s' ns=>⟨_,rfl,x,C,dx,_,rfl,(by rw[cH (cF cE ns)];exact cE),T.cl,T.nS,(by show 1 < 1000;decide),?_⟩⟩
  have xs:x≠s':=cF cE ns
  have ps':p'≠s':=cF (by rw[cH xp.symm];exact cE) ns
  have ns4:H4 s'=none:=by
   rw[cH xs.symm,cH ps'.symm]at ns
   exact ns
  have k2:∀d o,H4 d=some o→d≠x→upd (upd (upd (upd H4 p' (.lst (ps.map V.str))) x (.ins C dx (eT "kept_persons" (.ref p') []))) s' (.lst ss)) x (.ins C dx (eT "kept_sights" (.ref s') (eT "kept_persons" (.ref p') []))) d=some o:=fun d o e n=>by
   rw[cH n,cH (cF e ns4)]
   exact k1 d o e n
  refine⟨_,rfl,b,_,rfl,.inl (cL.of (k2 _ _ (s4 _ _ hb) bx)),fun t' nt=>⟨_,rfl,x,C,dx,_,rfl,(by rw[cH (cF cE nt)];exact cE),T.cl,T.nT,(by show 2 < 1000;decide),?_⟩⟩
  have xt:x≠t':=cF cE nt
  have st':s'≠t':=cF (by rw[cH xs.symm];exact cE) nt
  have pt':p'≠t':=cF (by rw[cH xp.symm,cH ps',cH xp.symm];exact cE) nt
  have nt4:H4 t'=none:=by
   rw[cH xt.symm,cH st'.symm,cH xt.symm,cH pt'.symm]at nt
   exact nt
  refine⟨_,rfl,c,_,rfl,.inl (cL.of (by rw[cH cx,cH (cF (s4 _ _ hc) nt4)];exact k2 _ _ (s4 _ _ hc) cx)),fun y' ny=>⟨_,rfl,x,C,dx,_,rfl,(by rw[cH (cF cE ny)];exact cE),T.cl,T.nY,(by show 3 < 1000;decide),?_⟩⟩
  have xy:x≠y':=cF cE ny
  have ty':t'≠y':=cF (by rw[cH xt.symm];exact cE) ny
  have sy':s'≠y':=cF (by rw[cH xs.symm,cH st',cH xs.symm];exact cE) ny
  have py':p'≠y':=cF (by rw[cH xp.symm,cH pt',cH xp.symm,cH ps',cH xp.symm];exact cE) ny
  have ny4:H4 y'=none:=by
   rw[cH xy.symm,cH ty'.symm,cH xy.symm,cH sy'.symm,cH xy.symm,cH py'.symm]at ny
   exact ny
  refine k p' s' t' y' _ (s4.free np) (s4.free ns4) (s4.free nt4) (s4.free ny4) ⟨⟨dx,cE⟩,?_,?_,?_,?_⟩ fun d o e n=>?_
  ·rw[cH xp.symm,cH py',cH xp.symm,cH pt',cH xp.symm,cH ps',cH xp.symm]
   exact cE
  ·rw[cH xs.symm,cH sy',cH xs.symm,cH st',cH xs.symm]
   exact cE
  ·rw[cH xt.symm,cH ty',cH xt.symm]
   exact cE
  ·rw[cH xy.symm]
   exact cE
  ·rw[cH n,cH (cF (s4 _ _ e) ny4),cH n,cH (cF (s4 _ _ e) nt4)]
   exact k2 d o (s4 _ _ e) n
end K16
namespace K16
open PySem L2
variable {P:Program}{w:World}{K:PySem.W.Frag}{mg:Str→Option Value}{base:Heap}{kw C:Addr}{f:Addr}{fd:FuncData}
abbrev TD:=Str×Str×Str
def dB(k:Nat)(d:TD):List (Nat×Str×Str):=if d.2.2= "both" then [(k,d.1,d.2.1),(k,d.2.1,d.1)] else [(k,d.1,d.2.1)]
def fB(k:Nat):List TD→List (Nat×Str×Str)
 |[]=>[]
 |d::r=>dB k d++fB (k+1) r
theorem qF(d:TD):∀(l:List TD) (k:Nat),fB k (l++[d])=fB k l++dB (k+l.length) d
 |[],k=>by
  show dB k d++[]=[]++dB (k+0) d
  rw[append_nil,nil_append,Nat.add_zero]
 |e::r,k=>by
  show dB k e++fB (k+1) (r++[d])=(dB k e++fB (k+1) r)++dB (k+(r.length+1)) d
  rw[qF d r (k+1),append_assoc,show k+1+r.length=k+(r.length+1) by omega]
theorem tQ(k:Nat)(d:TD):(dB k d).length≤2:=by
 unfold dB
 split
 ·exact le_refl 2
 ·exact le_succ 1
theorem iJ:∀(l:List TD) (k:Nat),(fB k l).length≤2 * l.length
 |[],_=>le_refl 0
 |d::r,k=>by
  show(dB k d++fB (k+1) r).length≤2 * (r.length+1)
  rw[length_append]
  have:=tQ k d
  have:=iJ r (k+1)
  omega
inductive EX  (H:Hp)(v:V)(d:TD):Prop
 |mk(a:Addr)(h:Int)(h0:v=.ref a)(h1:H a=some (.tup [.int h,.str d.1,.str d.2.1,.str d.2.2]))
def FP(H:Hp)(ts:List V)(td:List TD):Prop:=ts.length=td.length∧∀(i:Nat) v d,ts[i]? =some v→td[i]? =some d→EX H v d
theorem FP.mono{H H':Hp}{ts:List V}{td:List TD}(s:Tk H H')(h:FP H ts td):FP H' ts td:=⟨h.1,fun i v d hv hd=>by
 obtain⟨a,t,e,ha⟩:=h.2 i v d hv hd
 exact⟨a,t,e,s _ _ ha⟩⟩
inductive qq  (H:Hp)(v:V)(t:Nat×Str×Str):Prop
 |mk(a:Addr)(h0:v=.ref a)(h1:H a=some (.tup [.int t.1,.str t.2.1,.str t.2.2]))
def fq(H:Hp)(us:List V)(ks:List (Nat×Str×Str)):Prop:=us.length=ks.length∧∀(i:Nat) u t,us[i]? =some u→ks[i]? =some t→qq H u t
theorem qq.mono{H H':Hp}{v:V}{t:Nat×Str×Str}(s:Tk H H')(h:qq H v t):qq H' v t:=by
 obtain⟨a,e,ha⟩:=h
 exact⟨a,e,s _ _ ha⟩
theorem fq.mono{H H':Hp}{us:List V}{ks:List (Nat×Str×Str)}(s:Tk H H')(h:fq H us ks):fq H' us ks:=⟨h.1,fun i u t hu ht=>(h.2 i u t hu ht).mono s⟩
theorem fq.nil{H:Hp}:fq H [] []:=⟨rfl,fun i u t hu=>by cases hu⟩
theorem fq.snoc{H:Hp}{us:List V}{ks:List (Nat×Str×Str)}{u:V}{t:Nat×Str×Str}(h:fq H us ks)(hv:qq H u t):fq H (us++[u]) (ks++[t]):=by
 refine⟨by rw[length_append,length_append,h.1];rfl,fun i x e hu he=>?_⟩
 by_cases hi:i < us.length
 ·rw[getElem?_append_left hi]at hu
  rw[getElem?_append_left (by rw[←h.1];exact hi)]at he
  exact h.2 i x e hu he
 ·rw[getElem?_append_right (by omega)]at hu
  rw[getElem?_append_right (by rw[←h.1];omega),←h.1]at he
  cases hj:i - us.length with
  |zero=>
   rw[hj]at hu he
   cases hu
   cases he
   exact hv
  |succ j=>
   rw[hj]at hu
   cases hu
inductive r8  (C:Addr)(vs:List V)(H:Hp)(Q:VK):Prop
 |mk(x p s t y:Addr)(ps:List Str)(ss ts ys:List V)(td:List TD)(h0:vs=[.ref x])(h1:Bk C H x p s t y ps ss ts ys)(h2:FP H ts td)(h3:ts.length≤120)(h4:∀(l:Addr)(us:List V)(H':Hp),cI H H'→H l=none→H' l=some (.lst us)→fq H' us (fB 0 td)→Q (.ref l) H')
def gL  (C:Addr):Sp:=fun vs H Q _=>r8 C vs H Q
inductive Ei(x l:Addr)(H:Hp)(td:List TD)(i:Nat)(σ:St)(H2:Hp):Prop
 |mk(us:List V)(e1 e2:Option V)(e:σ=[some (.ref x),some (.ref l),e1,e2])(s:cI H H2)(hl:H2 l=some (.lst us))(tl:fq H2 us (fB 0 (td.take i)))
theorem vd{H:Hp}{us:List V}{td:List TD}{i:Nat}{d:TD}(hd:td[i]? =some d)(t:fq H us (fB 0 (td.take i))):
  (d.2.2= "both" →∀u v,qq H u (i,d.1,d.2.1)→qq H v (i,d.2.1,d.1)→fq H ((us++[u])++[v]) (fB 0 (td.take (i+1))))∧(d.2.2≠ "both" →∀u,qq H u (i,d.1,d.2.1)→fq H (us++[u]) (fB 0 (td.take (i+1)))):=by
 have hi:i < td.length:=(List.getElem?_eq_some_iff.mp hd).1
 have e:fB 0 (td.take (i+1))=fB 0 (td.take i)++dB i d:=by
  rw[take_add_one,hd]
  show fB 0 (td.take i++[d])=_
  rw[qF,length_take,zero_add,min_eq_left (le_of_lt hi)]
 rw[e]
 refine⟨fun hb u v hu hv=>?_,fun hb u hu=>?_⟩
 ·rw[show dB i d=[(i,d.1,d.2.1)]++[(i,d.2.1,d.1)] by unfold dB;rw[if_pos hb];rfl,←append_assoc]
  exact(t.snoc hu).snoc hv
 ·rw[show dB i d=[(i,d.1,d.2.1)] by unfold dB;rw[if_neg hb]]
  exact t.snoc hu
theorem nU:cJ ["self", "told", "k", "talk"] ["self"] (cG dW):={}
theorem qQ (F:lM K "tellings" "Book.tellings" dW f fd) (me:Meth K C "tellings" f) (bi:Binds K fd ["self"] []) (T:Txt K mg kw C):Md P w K mg base 1 C "tellings" (gL C):=by
 refine b8 F me bi T.cl nU (fun vs H Q E h=>?_) (fun X H vs Q E hh h=>?_)
 ·obtain⟨x,p,s,t,y,ps,ss,ts,ys,td,rfl,_⟩:=h
  rfl
 ·obtain⟨x,p,s,t,y,ps,ss,ts,ys,td,rfl,bk,tls,l120,k⟩:=h
  obtain⟨S0,S1,S2,S3,_⟩:=hh.eE [0,1,2,3]
  have B_enumerate:=hh.b T.b_enumerate
  obtain rfl:=hh.fK
  have hsz:sizeLine=16777216:=sizeLine_eq
  obtain⟨⟨dx,hx⟩,_,_,ht,_⟩:=id bk
  refine⟨_,(af (aB S1 hh.nd (bg bz))
 (af (bq hh.own hh.calm (bX B_enumerate (ak (bD (aa S0)))) (bC hh.calm (aG (aP S2 hh.nd) (aG (aP S3 hh.nd) bh)))
 (af (bL (bF plainAttrs_list PySem.F.slot_list_append PySem.F.type_list_append bK (aa S1) (ak (aR (aQ (aa S2) (ag aw (aa S3) ae ao) (ag aw (aa S3) ae ao))))))
 (aj (aJ (aF aK (ag aw (aa S3) ae ao) aN (L2.cK _))
 (aj (bL (bF plainAttrs_list PySem.F.slot_list_append PySem.F.type_list_append bK (aa S1) (ak (aR (aQ (aa S2) (ag aw (aa S3) ae ao) (ag aw (aa S3) ae ao)))))))
 aM))))
 (aj (au (aa S1))))),?_⟩
  refine⟨xG,fun l hl=>?_⟩
  have s1:=cI.upd (o:=.lst []) hl
  refine⟨_,rfl,x,C,dx,_,_,rfl,s1 _ _ hx,T.cl,T.nT,ye _ _ _ _,t,rfl,⟨_,cL.of (s1 _ _ ht)⟩,hJ (K:=X.K) (a:=t) (xs:=ts) (Ei x l H td)
   ⟨[],none,none,rfl,s1,cE,fq.nil⟩ ?_ ?_ ?_⟩
  ·rintro i σ H2 ⟨_,_,_,_,s2,_⟩
   exact cL.of (s2 _ _ ht)
  ·rintro i v q σ H2 hv hq ⟨us,e1,e2,rfl,s2,hl2,tl⟩
   have hi:i < ts.length:=(List.getElem?_eq_some_iff.mp hv).1
   have hd:td[i]? =some (td[i]'(by rw[←tls.1];exact hi)):=getElem?_eq_getElem _
   generalize (td[i]'(by rw[←tls.1];exact hi))=d at hd
   obtain⟨a,h,rfl,ha⟩:=tls.2 i v d hv hd
   have ul:us.length≤240:=by
    have:=iJ (td.take i) 0
    rw[length_take]at this
    have:=tl.1
    have:=tls.1
    omega
   refine⟨q,_,rfl,c8.of cE,rfl,_,_,rfl,_,_,rfl,rfl,?_⟩
   have s3:=cI.upd (o:=.tup [.int i,.ref a]) hq
   have ha3:=s3 _ _ (s2 _ _ ha)
   have hl3:=s3 _ _ hl2
   have tl3:=tl.mono (Tk.of s3)
   have s03:=s2.trans s3
   generalize upd H2 q (.tup [.int i,.ref a])=H3 at ha3 hl3 tl3 s03
   refine⟨_,rfl,.inl ⟨rfl,_,cL.of hl3⟩,_,rfl,_,rfl,xT ha3 rfl ⟨_,rfl,xT ha3 rfl ⟨n9,fun t1 ht1=>?_⟩⟩⟩
   have s4:=cI.upd (o:=.tup [.int i,.str d.1,.str d.2.1]) ht1
   refine⟨l,us,.ref t1,rfl,rfl,s4 _ _ hl3,by omega,?_⟩
   have al:a≠l:=eW ha3 hl3 (by intro z;cases z)
   have t1l:t1≠l:=(cF hl3 ht1).symm
   have ha5:upd (upd H3 t1 (.tup [.int i,.str d.1,.str d.2.1])) l (.lst (us++[.ref t1])) a=some (.tup [.int h,.str d.1,.str d.2.1,.str d.2.2]):=by
    rw[cH al]
    exact s4 _ _ ha3
   have tv5:qq (upd (upd H3 t1 (.tup [.int i,.str d.1,.str d.2.1])) l (.lst (us++[.ref t1]))) (.ref t1) (i,d.1,d.2.1):=⟨t1,rfl,by rw[cH t1l];exact cE⟩
   have tk5:=(Tk.of s4).trans (Tk.upd (s4 _ _ hl3) (ys:=us++[.ref t1]))
   have tl5:=tl3.mono tk5
   have hl5:upd (upd H3 t1 (.tup [.int i,.str d.1,.str d.2.1])) l (.lst (us++[.ref t1])) l=some (.lst (us++[.ref t1])):=cE
   have s05:cI H (upd (upd H3 t1 (.tup [.int i,.str d.1,.str d.2.1])) l (.lst (us++[.ref t1]))):=fun b o e=>by
    rw[cH (cF e hl)]
    exact s4 _ _ (s03 _ _ e)
   generalize upd (upd H3 t1 (.tup [.int i,.str d.1,.str d.2.1])) l (.lst (us++[.ref t1]))=H5 at ha5 tv5 tl5 hl5 s05
   refine⟨_,rfl,xT ha5 rfl ⟨rfl,_,rfl,dG (fun hb=>?_) (fun hb=>?_)⟩⟩
   ·have hb':d.2.2= "both" :=V.str.inj (of_decide_eq_true hb)
    refine⟨_,rfl,.inl ⟨rfl,_,cL.of hl5⟩,_,rfl,_,rfl,xT ha5 rfl ⟨_,rfl,xT ha5 rfl ⟨n9,fun t2 ht2=>?_⟩⟩⟩
    have s6:=cI.upd (o:=.tup [.int i,.str d.2.1,.str d.1]) ht2
    refine⟨l,_,.ref t2,rfl,rfl,s6 _ _ hl5,by rw[length_append];show us.length+1 < _;omega,?_⟩
    have t2l:t2≠l:=(cF hl5 ht2).symm
    have tk7:=(Tk.of s6).trans (Tk.upd (s6 _ _ hl5) (ys:=(us++[.ref t1])++[.ref t2]))
    refine⟨_,_,_,rfl,fun b o e=>?_,cE,(vd hd (tl5.mono tk7)).1 hb' _ _ (tv5.mono tk7) ⟨t2,rfl,?_⟩⟩
    ·rw[cH (cF e hl)]
     exact s6 _ _ (s05 _ _ e)
    ·rw[cH t2l]
     exact cE
   ·have hb':d.2.2≠ "both" :=fun e=>hb (decide_eq_true (congrArg V.str e))
    exact⟨_,_,_,rfl,s05,hl5,(vd hd tl5).2 hb' _ tv5⟩
  ·rintro σ H2 ⟨us,e1,e2,rfl,s2,hl2,tl⟩
   rw[tls.1,take_length]at tl
   exact⟨_,rfl,k l us H2 s2 hl hl2 tl⟩
inductive SD where
 |knew (p:Str)(h:Int)
 |unh (p:Str)(h:Option Int)
 |sil (p:Str)(b e:Int)
 |bar (p q:Str)
def oV:Option Int→V
 |none=>.non
 |some h=>.int h
def SD.tup:SD→List V
 |.knew p h=>[.str "knew",.str p,.int h]
 |.unh p h=>[.str "unheard",.str p,oV h]
 |.sil p b e=>[.str "silent",.str p,.int b,.int e]
 |.bar p q=>[.str "barred",.str p,.str q]
def E7(ps:List Str):SD→Prop
 |.knew p h=>p∈ps∧cT h
 |.unh p h=>p∈ps∧∀i,h=some i→cT i
 |.sil p b e=>p∈ps∧cT b∧cT e∧b≤e
 |.bar p q=>p∈ps∧q∈ps∧p≠q
inductive AH  (H:Hp)(v:V)(d:SD):Prop
 |mk(a:Addr)(h0:v=.ref a)(h1:H a=some (.tup d.tup))
def Sys(H:Hp)(ys:List V)(sd:List SD):Prop:=ys.length=sd.length∧∀(i:Nat) v d,ys[i]? =some v→sd[i]? =some d→AH H v d
theorem Sys.mono{H H':Hp}{ys:List V}{sd:List SD}(s:Tk H H')(h:Sys H ys sd):Sys H' ys sd:=⟨h.1,fun i v d hv hd=>by
 obtain⟨a,e,ha⟩:=h.2 i v d hv hd
 exact⟨a,e,s _ _ ha⟩⟩
theorem Sys.nil{H:Hp}:Sys H [] []:=⟨rfl,fun i v d hv=>by cases hv⟩
theorem Sys.at{H:Hp}{ys:List V}{sd:List SD}{i:Nat}{v:V}(h:Sys H ys sd)(hv:ys[i]? =some v):∃d a,sd[i]? =some d∧v=.ref a∧H a=some (.tup d.tup):=by
 have hi:i < sd.length:=by
  rw[←h.1]
  exact(List.getElem?_eq_some_iff.mp hv).1
 obtain⟨a,e,ha⟩:=h.2 i v sd[i] hv (getElem?_eq_getElem hi)
 exact⟨sd[i],a,getElem?_eq_getElem hi,e,ha⟩
theorem yM{ps:List Str}{H:Hp}{v:V}(h:gB ps H v):∃d,AH H v d∧E7 ps d:=by
 obtain⟨a,e,h⟩:=h
 rcases h with ⟨p,h,ha,h1,h2⟩|⟨p,b,ha,h1,h2⟩|⟨p,h,k,ha,h1,h2,h3,h4⟩|⟨p,q,ha,h1,h2,h3⟩
 ·exact⟨.knew p h,⟨a,e,ha⟩,h1,h2⟩
 ·rcases h2 with rfl|⟨h,rfl,h2⟩
  ·exact⟨.unh p none,⟨a,e,ha⟩,h1,fun i z=>by cases z⟩
  ·exact⟨.unh p (some h),⟨a,e,ha⟩,h1,fun i z=>by cases z;exact h2⟩
 ·exact⟨.sil p h k,⟨a,e,ha⟩,h1,h2,h3,h4⟩
 ·exact⟨.bar p q,⟨a,e,ha⟩,h1,h2,h3⟩
theorem iR{ps:List Str}{H:Hp}:∀{ys:List V},(∀v∈ys,gB ps H v)→∃sd,Sys H ys sd∧∀d∈sd,E7 ps d
 |[],_=>⟨[],Sys.nil,fun d hd=>by cases hd⟩
 |v::r,h=>by
  obtain⟨sd,⟨l,g⟩,k⟩:=iR fun u hu=>h u (mem_cons_of_mem _ hu)
  obtain⟨d,hd,kd⟩:=yM (h v (mem_cons_self ..))
  refine⟨d::sd,⟨by rw[length_cons,length_cons,l],fun i u e hu he=>?_⟩,fun e he=>?_⟩
  ·cases i with
   |zero=>
    cases hu
    cases he
    exact hd
   |succ j=>exact g j u e hu he
  ·rcases mem_cons.mp he with rfl|he
   ·exact kd
   ·exact k e he
theorem dH{α:Type}{l:List α}{i:Nat}{d:α}(h:l[i]? =some d):l.drop i=d::l.drop (i+1):=by
 obtain⟨hi,rfl⟩:=List.getElem?_eq_some_iff.mp h
 exact List.drop_eq_getElem_cons hi
def i9{α:Type}(l:List α)(p:α→Bool)(i:Nat):Bool:=match l[i]? with
 |some d=>p d
 |none=>false
def uL{α:Type}(l:List α)(f:α→V)(i:Nat):V:=match l[i]? with
 |some d=>f d
 |none=>.non
theorem dy{α:Type}{l:List α}{p:α→Bool}{i:Nat}{d:α}(h:l[i]? =some d):i9 l p i=p d:=by
 unfold i9
 rw[h]
theorem gM{α:Type}{l:List α}{f:α→V}{i:Nat}{d:α}(h:l[i]? =some d):uL l f i=f d:=by
 unfold uL
 rw[h]
theorem dZ{α:Type}(p:α→Bool)(f:α→V):∀l:List α,((List.range l.length).filter (i9 l p)).map (uL l f)=(l.filter p).map f
 |[]=>rfl
 |d::r=>by
  have ih:=dZ p f r
  have e1:(i9 (d::r) p ∘ Nat.succ)=i9 r p:=rfl
  have e2:(uL (d::r) f ∘ Nat.succ)=uL r f:=rfl
  rw[length_cons,List.range_succ_eq_map,filter_cons,List.filter_map,e1]
  have e3:i9 (d::r) p 0=p d:=rfl
  rw[e3,filter_cons]
  cases p d with
  |true=>
   rw[if_pos rfl,if_pos rfl,map_cons,map_cons,map_map,e2,ih]
   rfl
  |false=>
   rw[if_neg Bool.false_ne_true,if_neg Bool.false_ne_true,map_map,e2,ih]
def vt(z:Str):SD→Bool
 |.unh q _=>decide (q=z)
 |_=>false
def SD.hr:SD→Option Int
 |.unh _ h=>h
 |_=>none
def mY(z:Str)(sd:List SD):List (Option Int):=(sd.filter (vt z)).map SD.hr
def D5(acc:Int):List (Option Int)→Option Int
 |[]=>some acc
 |none::_=>none
 |some h::r=>D5 (if h > acc then h else acc) r
def floorOf(z:Str)(sd:List SD):Option Int:=D5 (-1) (mY z sd)
theorem lL{z:Str}{d:SD}{r:List SD}(h:vt z d=false):mY z (d::r)=mY z r:=by
 unfold mY
 rw[filter_cons,if_neg (by rw[h];exact Bool.false_ne_true)]
theorem xR{z:Str}{h:Option Int}{r:List SD}:mY z (.unh z h::r)=h::mY z r:=by
 unfold mY
 rw[filter_cons,if_pos (show vt z (.unh z h)=true from decide_eq_true rfl)]
 rfl
theorem rm:∀{us:List (Option Int)}{acc:Int},none∈us→D5 acc us=none
 |[],_,h=>by cases h
 |none::_,_,_=>rfl
 |some h::r,acc,m=>by
  show D5 _ r=none
  exact rm (by rcases mem_cons.mp m with z|z;cases z;exact z)
theorem rM:∀(vs:List Int) (acc:Int),∃m,D5 acc (vs.map some)=some m∧m∈acc::vs∧∀a∈acc::vs,a≤m
 |[],acc=>⟨acc,rfl,mem_cons_self ..,fun a h=>by
  rcases mem_cons.mp h with rfl|h
  ·exact Int.le_refl _
  ·cases h⟩
 |v::r,acc=>by
  obtain⟨m,e,hm,hx⟩:=rM r (if v > acc then v else acc)
  refine⟨m,e,?_,fun a ha=>?_⟩
  ·rcases mem_cons.mp hm with z|z
   ·by_cases c:v > acc
    ·rw[if_pos c]at z
     rw[z]
     exact mem_cons_of_mem _ (mem_cons_self ..)
    ·rw[if_neg c]at z
     rw[z]
     exact mem_cons_self ..
   ·exact mem_cons_of_mem _ (mem_cons_of_mem _ z)
  ·have h0:=hx _ (mem_cons_self ..)
   rcases mem_cons.mp ha with rfl|ha
   ·split at h0<;>omega
   ·rcases mem_cons.mp ha with rfl|ha
    ·split at h0<;>omega
    ·exact hx a (mem_cons_of_mem _ ha)
theorem all_some:∀{us:List (Option Int)},none ∉ us→∃vs:List Int,us=vs.map some
 |[],_=>⟨[],rfl⟩
 |none::_,h=>absurd (mem_cons_self ..) h
 |some v::r,h=>by
  obtain⟨vs,e⟩:=all_some (us:=r) fun m=>h (mem_cons_of_mem _ m)
  exact⟨v::vs,by rw[e];rfl⟩
inductive yR  (C:Addr)(M:Addr→Addr→Addr→Addr→Addr)(vs:List V)(H:Hp)(Q:VK):Prop
 |mk(x p s t y:Addr)(xs:List V)(h0:vs=[.ref x])(h1:(∃dx,H x=some (.ins C dx (lx p s t y))))(h2:H (M p s t y)=some (.lst xs))(h3:∀l,H l=none→Q (.ref l) (upd H l (.lst xs)))
def dw  (C:Addr)(M:Addr→Addr→Addr→Addr→Addr):Sp:=fun vs H Q _=>yR C M vs H Q
inductive B5(C:Addr)(vs:List V)(H:Hp)(Q:VK):Prop
 |mk(x p s t y:Addr)(ps:List Str)(ss ts ys:List V)(z:Str)(sd:List SD)(e:vs=[.ref x,.str z])(bk:Bk C H x p s t y ps ss ts ys)(sy:Sys H ys sd)(l:ys.length≤60)(k:∀H',cI H H'→Q (oV (floorOf z sd)) H')
def qf(C:Addr):Sp:=fun vs H Q _=>B5 C vs H Q
theorem pH:cJ ["self"] ["self"] (cG d8):={}
theorem pN (F:lM K "sayings" "Book.sayings" d8 f fd) (me:Meth K C "sayings" f) (bi:Binds K fd ["self"] []) (T:Txt K mg kw C):Md P w K mg base 1 C "sayings" (dw C (fun _ _ _ y=>y)):=by
 refine b8 F me bi T.cl pH (fun vs H Q E h=>?_) (fun X H vs Q E hh h=>?_)
 ·obtain⟨x,p,s,t,y,xs,rfl,_⟩:=h
  rfl
 ·obtain⟨x,p,s,t,y,xs,rfl,⟨dx,hx⟩,hl,k⟩:=h
  obtain⟨S0,_⟩:=hh.eE [0]
  have B_list:=hh.b T.b_list
  obtain rfl:=hh.fK
  refine⟨_,(aj (au (bG B_list bS L2.eY (ak (bD (aa S0)))))),?_⟩
  exact⟨_,rfl,x,C,dx,_,_,rfl,hx,T.cl,T.nY,vI _ _ _ _,_,_,rfl,.inl (cL.of hl),k⟩
theorem sC:cJ ["book", "person", "floor", "saying"] ["book", "person"] (cG jq):={}
theorem rO (D:Df K mg "floor_of" jq ["book", "person"] f fd) (T:Txt K mg kw C) (G_sayings:Md P w K mg base 1 C "sayings" (dw C fun _ _ _ y=>y)):Gd P w K mg base 2 "floor_of" (qf C):=by
 refine aH D sC fun X H vs Q E hh h=>?_
 obtain⟨x,p,s,t,y,ps,ss,ts,ys,z,sd,rfl,bk,sy,l60,k⟩:=h
 obtain⟨S0,S1,S2,S3,_⟩:=hh.eE [0,1,2,3]
 have B_max:=hh.b T.b_max
 have M_sayings:=hh.met G_sayings (by decide)
 obtain⟨⟨dx,hx⟩,hp,hs,ht,hy⟩:=id bk
 refine⟨_,(af (aB S2 hh.nd (J.yO J.uA ae))
 (af (bq hh.own hh.calm (aV (bJ M_sayings (aa S0) rfl)) (aP S3 hh.nd)
 (aj (aJ (bf (br (aF aK (ag aw (aa S3) ae ao) aN (L2.cK _)) (bu (aF aK (ag aw (aa S3) ae ao) (aa S1) (L2.cK _)))))
 (af (aJ (aF J.pV (ag aw (aa S3) ae ao) cj (L2.cK _))
 (aj (au cj))
 aM)
 (aj (aB S2 hh.nd (aE B_max (J.iS hh.calm) L2.y8 (aD (aa S2) (ag aw (aa S3) ae ao))))))
 aM)))
 (aj (au (aa S2))))),?_⟩
 refine⟨_,rfl,_,rfl,x,dx,_,rfl,hx,fc _ _ _ _ (by decide+kernel) (by decide+kernel) (by decide+kernel) (by decide+kernel),x,p,s,t,y,ys,rfl,⟨dx,hx⟩,hy,fun l hl=>?_⟩
 have s1:=cI.upd (o:=.lst ys) hl
 have hl1:upd H l (.lst ys) l=some (.lst ys):=cE
 generalize upd H l (.lst ys)=H1 at s1 hl1
 refine⟨l,rfl,⟨_,cL.of hl1⟩,el (K:=X.K) (a:=l) (xs:=ys) (fun i σ H2=>∃(acc:Int) (e:Option V),σ=[some (.ref x),some (.str z),some (.int acc),e]∧cI H1 H2∧D5 acc (mY z (sd.drop i))=floorOf z sd)
  ⟨_,none,rfl,cI.refl _,rfl⟩ ?_ ?_ ?_⟩
 ·rintro i σ H2 hi ⟨acc,e,rfl,s2,hf⟩
  exact cL.of (s2 _ _ hl1)
 ·rintro i v σ H2 hv ⟨acc,e,rfl,s2,hf⟩
  obtain⟨d,a,hd,rfl,ha⟩:=sy.at hv
  have ha2:=s2 _ _ (s1 _ _ ha)
  rw[dH hd]at hf
  cases d with
  |knew q h=>
   rw[lL rfl]at hf
   exact⟨_,rfl,xT ha2 rfl ⟨rfl,_,rfl,iN (dt ⟨acc,_,rfl,s2,hf⟩)⟩⟩
  |sil q b e'=>
   rw[lL rfl]at hf
   exact⟨_,rfl,xT ha2 rfl ⟨rfl,_,rfl,iN (dt ⟨acc,_,rfl,s2,hf⟩)⟩⟩
  |bar q q'=>
   rw[lL rfl]at hf
   exact⟨_,rfl,xT ha2 rfl ⟨rfl,_,rfl,iN (dt ⟨acc,_,rfl,s2,hf⟩)⟩⟩
  |unh q h=>
   refine⟨_,rfl,xT ha2 rfl ⟨rfl,_,rfl,iP ⟨_,rfl,xT ha2 rfl ⟨_,rfl,rfl,_,rfl,dG (fun hq=>?_) (fun hq=>?_)⟩⟩⟩⟩
   ·have hq':q=z:=V.str.inj (of_decide_eq_true hq)
    subst hq'
    rw[xR]at hf
    cases h with
    |none=>
     refine⟨_,rfl,xT ha2 rfl ⟨rfl,_,rfl,fD (decide_eq_true rfl) ?_⟩⟩
     have hf':none=floorOf q sd:=hf
     have:=k H2 (s1.trans s2)
     rw[←hf']at this
     exact this
    |some h=>
     refine⟨_,rfl,xT ha2 rfl ⟨rfl,_,rfl,gW (by rw[decide_eq_true_iff];intro e;cases e) ?_⟩⟩
     exact⟨_,rfl,_,rfl,xT ha2 rfl ⟨acc,h,rfl,_,_,rfl,s2,hf⟩⟩
   ·have hq':vt z (.unh q h)=false:=decide_eq_false fun e=>hq (decide_eq_true (congrArg V.str e))
    rw[lL hq']at hf
    exact⟨acc,_,rfl,s2,hf⟩
 ·rintro σ H2 ⟨acc,e,rfl,s2,hf⟩
  rw[sy.1,List.drop_length]at hf
  have hf':some acc=floorOf z sd:=hf
  have:=k H2 (s1.trans s2)
  rw[←hf']at this
  exact⟨_,rfl,this⟩
def ff(h:Int):Option Int→Bool
 |none=>false
 |some m=>decide (m < h)
inductive CG(vs:List V)(H:Hp)(Q:VK):Prop
 |mk(h:Int)(f:Option Int)(e:vs=[.int h,oV f])(k:Q (.bl (ff h f)) H)
def l0:Sp:=fun vs H Q _=>CG vs H Q
def FW(H:Hp)(d:Addr)(ps:List Str)(sd:List SD):Prop:=∃kvs:List (Key×V),H d=some (.dK kvs)∧∀z∈ps,dD kvs (Sum.inr z)=some (oV (floorOf z sd))
theorem FW.mono{H H':Hp}{d:Addr}{ps:List Str}{sd:List SD}(s:cI H H')(h:FW H d ps sd):FW H' d ps sd:=by
 obtain⟨kvs,e,k⟩:=h
 exact⟨kvs,s _ _ e,k⟩
inductive An(C:Addr)(vs:List V)(H:Hp)(Q:VK):Prop
 |mk(x p s t y:Addr)(ps:List Str)(ss ts ys:List V)(sd:List SD)(e:vs=[.ref x])(bk:Bk C H x p s t y ps ss ts ys)(pl:ps.length≤24)(sy:Sys H ys sd)(l:ys.length≤60)(k:∀d H',cI H H'→H d=none→FW H' d ps sd→Q (.ref d) H')
def jU(C:Addr):Sp:=fun vs H Q _=>An C vs H Q
theorem qD:cJ ["self"] ["self"] (cG ef):={}
theorem pS (F:lM K "persons" "Book.persons" ef f fd) (me:Meth K C "persons" f) (bi:Binds K fd ["self"] []) (T:Txt K mg kw C):Md P w K mg base 1 C "persons" (dw C (fun p _ _ _=>p)):=by
 refine b8 F me bi T.cl qD (fun vs H Q E h=>?_) (fun X H vs Q E hh h=>?_)
 ·obtain⟨x,p,s,t,y,xs,rfl,_⟩:=h
  rfl
 ·obtain⟨x,p,s,t,y,xs,rfl,⟨dx,hx⟩,hl,k⟩:=h
  obtain⟨S0,_⟩:=hh.eE [0]
  have B_list:=hh.b T.b_list
  obtain rfl:=hh.fK
  refine⟨_,(aj (au (bG B_list bS L2.eY (ak (bD (aa S0)))))),?_⟩
  exact⟨_,rfl,x,C,dx,_,_,rfl,hx,T.cl,T.nP,BG _ _ _ _,_,_,rfl,.inl (cL.of hl),k⟩
theorem rK:cJ ["hour", "floor"] ["hour", "floor"] (cG jo):={}
theorem sV (D:Df K mg "is_above" jo ["hour", "floor"] f fd):Gd P w K mg base 1 "is_above" l0:=by
 refine aH D rK fun X H vs Q E hh h=>?_
 obtain⟨h,f,rfl,k⟩:=h
 obtain⟨S0,S1,_⟩:=hh.eE [0,1]
 refine⟨_,(aj (au (aT (aU J.lV (aa S1) cj (L2.cK _)) (aY (aU cf (aa S0) (aa S1) (L2.cK _)))))),?_⟩
 cases f with
 |none=>exact⟨_,rfl,rfl,_,rfl,iN k⟩
 |some m=>exact⟨_,rfl,rfl,_,rfl,fD (by rw[not_eq_true',decide_eq_false_iff_not];intro e;cases e) ⟨_,rfl,_,rfl,_,_,rfl,rfl,k⟩⟩
theorem kU:cJ ["book", "floors", "person"] ["book"] (cG eS):={}
theorem wD (D:Df K mg "floors_of_all" eS ["book"] f fd) (T:Txt K mg kw C) (G_persons:Md P w K mg base 1 C "persons" (dw C fun p _ _ _=>p)) (G_floor_of:Gd P w K mg base 2 "floor_of" (qf C)):Gd P w K mg base 3 "floors_of_all" (jU C):=by
 refine aH D kU fun X H vs Q E hh h=>?_
 obtain⟨x,p,s,t,y,ps,ss,ts,ys,sd,rfl,bk,pl,sy,l60,k⟩:=h
 obtain⟨S0,S1,S2,_⟩:=hh.eE [0,1,2]
 have C_floor_of:=hh.c G_floor_of
 have M_persons:=hh.met G_persons (by decide)
 have hu:=ft hh.room
 have hsz:sizeLine=16777216:=sizeLine_eq
 obtain⟨⟨dx,hx⟩,hp,hs,ht,hy⟩:=id bk
 refine⟨_,(af (aB S1 hh.nd J.iI)
 (af (bq hh.own hh.calm (aV (bJ M_persons (aa S0) rfl)) (aP S2 hh.nd)
 (aj (cz hu (aa S1) (aa S2) (av C_floor_of (aD (aa S0) (aa S2))))))
 (aj (au (aa S1))))),?_⟩
 refine fun d hdn=>?_
 have s1:=cI.upd (o:=.dK []) hdn
 have hd1:upd H d (.dK []) d=some (.dK []):=cE
 refine⟨_,rfl,x,dx,_,rfl,s1 _ _ hx,fc _ _ _ _ (by decide+kernel) (by decide+kernel) (by decide+kernel) (by decide+kernel),x,p,s,t,y,_,rfl,⟨dx,s1 _ _ hx⟩,s1 _ _ hp,fun l hl=>?_⟩
 have s2:=cI.upd (o:=.lst (ps.map V.str)) hl
 have ld:l≠d:=(cF hd1 hl).symm
 refine⟨l,rfl,⟨_,cL.of cE⟩,el (K:=X.K) (a:=l) (xs:=ps.map V.str) (fun i σ H2=>∃(kvs:List (Key×V)) (e:Option V),σ=[some (.ref x),some (.ref d),e]∧cI H H2∧H2 l=some (.lst (ps.map V.str))∧H2 d=some (.dK kvs)∧kvs.length≤i∧∀z∈ps.take i,dD kvs (Sum.inr z)=some (oV (floorOf z sd)))
  ⟨[],none,rfl,s1.trans s2,cE,s2 _ _ hd1,le_refl 0,fun z hz=>by cases hz⟩ ?_ ?_ ?_⟩
 ·rintro i σ H2 hi ⟨kvs,e,rfl,s2,hl2,_⟩
  exact cL.of hl2
 ·rintro i v σ H2 hv ⟨kvs,e,rfl,s3,hl2,hd2,kl,hk⟩
  rw[getElem?_map]at hv
  obtain⟨z,hz,rfl⟩:=map_eq_some_iff.mp hv
  have hi:i < ps.length:=(List.getElem?_eq_some_iff.mp hz).1
  refine⟨_,rfl,_,rfl,x,p,s,t,y,ps,ss,ts,ys,z,sd,rfl,bk.mono s3,sy.mono (Tk.of s3),l60,fun H5 s5=>?_⟩
  refine⟨_,rfl,_,rfl,d,_,rfl,lF.k (k:=Sum.inr z) (s5 _ _ hd2) (by omega),_,_,rfl,fun b o e=>?_,?_,cE,?_,fun z' hz'=>?_⟩
  ·rw[cH (cF e hdn)]
   exact s5 _ _ (s3 _ _ e)
  ·rw[cH ld]
   exact s5 _ _ hl2
  ·have:=fF kvs (Sum.inr z:Key) (oV (floorOf z sd))
   omega
  ·rw[rR]
   by_cases c:(Sum.inr z':Key)=Sum.inr z
   ·rw[if_pos c]
    have c':z'=z:=Sum.inr.inj c
    rw[c']
   ·rw[if_neg c]
    rw[take_add_one,hz,mem_append]at hz'
    rcases hz' with hz'|hz'
    ·exact hk z' hz'
    ·exact absurd (congrArg Sum.inr (mem_singleton.mp hz')) c
 ·rintro σ H2 ⟨kvs,e,rfl,s3,hl2,hd2,kl,hk⟩
  rw[length_map,take_length]at hk
  exact⟨_,rfl,k d H2 s3 hdn ⟨kvs,hd2,hk⟩⟩
def Lz{α:Type}(R:Hp→V→α→Prop)(H:Hp)(xs:List V)(ds:List α):Prop:=xs.length=ds.length∧∀(i:Nat) v d,xs[i]? =some v→ds[i]? =some d→R H v d
theorem Lz.mono{α:Type}{R:Hp→V→α→Prop}{H H':Hp}{xs:List V}{ds:List α}(m:∀v d,R H v d→R H' v d)(h:Lz R H xs ds):Lz R H' xs ds:=⟨h.1,fun i v d hv hd=>m v d (h.2 i v d hv hd)⟩
theorem Lz.at{α:Type}{R:Hp→V→α→Prop}{H:Hp}{xs:List V}{ds:List α}{i:Nat}{v:V}(h:Lz R H xs ds)(hv:xs[i]? =some v):∃d,ds[i]? =some d∧R H v d:=by
 have hi:i < ds.length:=by
  rw[←h.1]
  exact(List.getElem?_eq_some_iff.mp hv).1
 exact⟨ds[i],getElem?_eq_getElem hi,h.2 i v ds[i] hv (getElem?_eq_getElem hi)⟩
theorem qt{α:Type}{R:Hp→V→α→Prop}{H:Hp}{Ok:α→Prop}:∀{xs:List V},(∀v∈xs,∃d,R H v d∧Ok d)→∃ds,Lz R H xs ds∧∀d∈ds,Ok d
 |[],_=>⟨[],⟨rfl,fun i v d hv=>by cases hv⟩,fun d hd=>by cases hd⟩
 |v::r,h=>by
  obtain⟨ds,⟨l,g⟩,k⟩:=qt fun u hu=>h u (mem_cons_of_mem _ hu)
  obtain⟨d,hd,kd⟩:=h v (mem_cons_self ..)
  refine⟨d::ds,⟨by rw[length_cons,length_cons,l],fun i u e hu he=>?_⟩,fun e he=>?_⟩
  ·cases i with
   |zero=>
    cases hu
    cases he
    exact hd
   |succ j=>exact g j u e hu he
  ·rcases mem_cons.mp he with rfl|he
   ·exact kd
   ·exact k e he
abbrev GD:=Str×Int
inductive dA  (H:Hp)(v:V)(d:GD):Prop
 |mk(a ta:Addr)(h0:v=.ref a)(h1:H a=some (.tup [.str d.1,.int d.2,.ref ta]))
theorem dA.mono{H H':Hp}(s:Tk H H')(v:V)(d:GD)(h:dA H v d):dA H' v d:=by
 obtain⟨a,ta,e,ha⟩:=h
 exact⟨a,ta,e,s _ _ ha⟩
theorem rg{ps:List Str}{H:Hp}{ss:List V}(h:∀v∈ss,ej ps H v):∃sg,Lz dA H ss sg∧∀d∈sg,d.1∈ps∧cT d.2:=
 qt fun v hv=>by
  obtain⟨a,z,i,ta,ws,e,ha,hz,hi,_⟩:=h v hv
  exact⟨(z,i),⟨a,ta,e,ha⟩,hz,hi⟩
def jf(sd:List SD)(d:GD):Bool:=ff d.2 (floorOf d.1 sd)
def dO(sg:List GD)(sd:List SD)(n:Nat):List V:=((List.range n).filter (i9 sg (jf sd))).map fun i=>V.int (i:Nat)
theorem mV(sg:List GD)(sd:List SD)(n:Nat):(dO sg sd n).length≤n:=by
 unfold dO
 rw[length_map]
 have:=length_filter_le (i9 sg (jf sd)) (List.range n)
 rw[length_range]at this
 exact this
theorem sJ(sg:List GD)(sd:List SD)(n:Nat):∀v∈dO sg sd n,∃i:Int,v=.int i:=fun v hv=>by
 obtain⟨i,_,rfl⟩:=mem_map.mp hv
 exact⟨_,rfl⟩
inductive DK(C:Addr)(vs:List V)(H:Hp)(Q:VK):Prop
 |mk(x p s t y:Addr)(ps:List Str)(ss ts ys:List V)(sg:List GD)(sd:List SD)(e:vs=[.ref x])(bk:Bk C H x p s t y ps ss ts ys)(pl:ps.length≤24)(sl:ss.length≤24)(gs:Lz dA H ss sg)(gp:∀d∈sg,d.1∈ps)(sy:Sys H ys sd)(l:ys.length≤60)
   (k:∀l H',cI H H'→H l=none→H' l=some (.lst (dO sg sd sg.length))→Q (.ref l) H')
def lX(C:Addr):Sp:=fun vs H Q _=>DK C vs H Q
theorem sh:cJ ["self"] ["self"] (cG eG):={}
theorem sq (F:lM K "sights" "Book.sights" eG f fd) (me:Meth K C "sights" f) (bi:Binds K fd ["self"] []) (T:Txt K mg kw C):Md P w K mg base 1 C "sights" (dw C (fun _ s _ _=>s)):=by
 refine b8 F me bi T.cl sh (fun vs H Q E h=>?_) (fun X H vs Q E hh h=>?_)
 ·obtain⟨x,p,s,t,y,xs,rfl,_⟩:=h
  rfl
 ·obtain⟨x,p,s,t,y,xs,rfl,⟨dx,hx⟩,hl,k⟩:=h
  obtain⟨S0,_⟩:=hh.eE [0]
  have B_list:=hh.b T.b_list
  obtain rfl:=hh.fK
  refine⟨_,(aj (au (bG B_list bS L2.eY (ak (bD (aa S0)))))),?_⟩
  exact⟨_,rfl,x,C,dx,_,_,rfl,hx,T.cl,T.nS,By _ _ _ _,_,_,rfl,.inl (cL.of hl),k⟩
theorem nC:cJ ["book", "floors"] ["book"] (cG fT):={}
theorem mT (D:Df K mg "open_sights" fT ["book"] f fd) (T:Txt K mg kw C) (G_sights:Md P w K mg base 1 C "sights" (dw C fun _ s _ _=>s)) (G_floors_of_all:Gd P w K mg base 3 "floors_of_all" (jU C)) (G_is_above:Gd P w K mg base 1 "is_above" l0):Gd P w K mg base 4 "open_sights" (lX C):=by
 refine aH D nC fun X H vs Q E hh h=>?_
 obtain⟨x,p,s,t,y,ps,ss,ts,ys,sg,sd,rfl,bk,pl,sl,gs,gp,sy,l60,k⟩:=h
 obtain⟨S0,S1,_⟩:=hh.eE [0,1]
 have B_enumerate:=hh.b T.b_enumerate
 have C_floors_of_all:=hh.c G_floors_of_all
 have CI_is_above:=hh.ci G_is_above
 have M_sights:=hh.met G_sights (by decide)
 have hu:=ft hh.room
 have hsz:sizeLine=16777216:=sizeLine_eq
 refine⟨_,(af (aB S1 hh.nd (av C_floors_of_all (ak (aa S0))))
 (aj (au (bw (is:=[1]) (xs:=["i", "sight"]) (ns:=["floors"]) hh.calm (bX B_enumerate (ak (bJ M_sights (aa S0) rfl))) {} (fun _ _ _ _ _=>(cn (n:=2) hh.calm (aG (aX (i:=0) (by decide+kernel) rfl rfl) (aG (aX (i:=1) (by decide+kernel) rfl rfl) bh)))) (fun _ _ _ _ _=>(bT (bj (av (CI_is_above.lg rfl) (aD (ag a9 (aI (i:=1) rfl rfl (by decide) (by decide)) ae ao) (bB hu (a8 (i:=2) rfl rfl (by decide) (by decide)) (ag a9 (aI (i:=1) rfl rfl (by decide) (by decide)) ae ao) cy)))))) (fun _ _ _ _ _=>(aI (i:=0) rfl rfl (by decide) (by decide))) hh.hsc hh.hN)))),?_⟩
 refine⟨_,rfl,x,p,s,t,y,ps,ss,ts,ys,sd,rfl,bk,pl,sy,l60,fun d H1 s1 dn fl=>?_⟩
 obtain⟨⟨dx,hx⟩,hp,hs,ht,hy⟩:=bk.mono s1
 refine⟨_,rfl,x,dx,_,rfl,hx,fc _ _ _ _ (by decide+kernel) (by decide+kernel) (by decide+kernel) (by decide+kernel),x,p,s,t,y,ss,rfl,⟨dx,hx⟩,hs,fun l hl=>?_⟩
 have s2:=cI.upd (o:=.lst ss) hl
 refine⟨l,rfl,⟨_,cL.of cE⟩,rW (xs:=ss) (i9 sg (jf sd)) (fun i=>V.int (i:Nat)) (cL.of cE) (by omega) ?_ ?_⟩
 ·intro i os v q H2 K1 K2 hv hos s3 hq k1 k2
  match os,hos with
  |[o1,o2],_=>
   obtain⟨g,hg,a,ta,rfl,ha⟩:=gs.at hv
   rw[dy hg]at k1 k2
   have s4:=cI.upd (o:=.tup [.int i,.ref a]) hq
   have s14:=(s2.trans s3).trans s4
   have ha4:=s14 _ _ (s1 _ _ ha)
   obtain⟨kvs,hd4,hk⟩:=fl.mono s14
   have dg:eC (upd H2 q (.tup [.int i,.ref a])) d (.str g.1) (some (oV (floorOf g.1 sd))):=by
    rw[←hk g.1 (gp g (mem_of_getElem? hg))]
    exact eC.k (k:=Sum.inr g.1) hd4
   refine⟨q,_,rfl,c8.of cE,rfl,_,_,rfl,_,_,rfl,rfl,⟨[_,_],rfl,rfl⟩,?_⟩
   refine⟨_,rfl,xT ha4 rfl ⟨_,rfl,_,rfl,xT ha4 rfl ⟨d,_,rfl,dg,g.2,floorOf g.1 sd,rfl,_,rfl,dG (fun hb=>⟨_,rfl,k1 hb _ s4⟩) (fun hb=>k2 (eq_false_of_ne_true hb) _ s4)⟩⟩⟩
 ·intro D' H' hD' s' hd'
  have e:((List.range ss.length).filter (i9 sg (jf sd))).map (fun i=>V.int (i:Nat))=dO sg sd sg.length:=by
   rw[gs.1]
   rfl
  rw[e]at hd'
  exact k D' H' ((s1.trans s2).trans s') ((s1.trans s2).free hD') hd'
def jc(z:Str):SD→Bool
 |.sil q _ _=>decide (q=z)
 |_=>false
def k9(h:Int):SD→Bool
 |.sil _ b e=>if b≤h then decide (h≤e) else false
 |_=>false
def jX(z:Str)(h:Int)(d:SD):Bool:=jc z d && k9 h d
def kK(he te:Str):SD→Bool
 |.bar p q=>decide (p=he) && decide (q=te)
 |_=>false
theorem qR{α β:Type}{f:α→Bool}{g:β→Bool}:∀{xs:List α}{ds:List β},xs.length=ds.length→(∀(i:Nat) v d,xs[i]? =some v→ds[i]? =some d→f v=g d)→xs.any f=ds.any g
 |[],[],_,_=>rfl
 |[],_::_,h,_=>by cases h
 |_::_,[],h,_=>by cases h
 |x::xs,d::ds,h,k=>by
  rw[any_cons,any_cons,k 0 x d rfl rfl,qR (Nat.succ.inj h) fun i v e hv he=>k (i+1) v e hv he]
theorem vH{α β:Type}:∀{xs:List α}{ds:List β}{i:Nat}{p:α×β},(xs.zip ds)[i]? =some p→xs[i]? =some p.1∧ds[i]? =some p.2
 |[],_,_,_,h=>by cases h
 |_::_,[],_,_,h=>by cases h
 |x::xs,d::ds,i,p,h=>by
  cases i with
  |zero=>
   cases h
   exact⟨rfl,rfl⟩
  |succ j=>
   have h':(xs.zip ds)[j]? =some p:=h
   exact vH (xs:=xs) (ds:=ds) (i:=j) h'
theorem uv{α β:Type}:∀{xs:List α}{ds:List β}{i:Nat}{v:α}{d:β},xs[i]? =some v→ds[i]? =some d→(xs.zip ds)[i]? =some (v,d)
 |[],_,_,_,_,h,_=>by cases h
 |_::_,[],_,_,_,_,h=>by cases h
 |x::xs,e::ds,i,v,d,h,h'=>by
  cases i with
  |zero=>
   cases h
   cases h'
   rfl
  |succ j=>exact uv (xs:=xs) (ds:=ds) (i:=j) h h'
theorem va{α β:Type}(f:β→Bool):∀{xs:List α}{ds:List β},xs.length=ds.length→((xs.zip ds).any fun p=>f p.2)=ds.any f
 |[],[],_=>rfl
 |[],_::_,h=>by cases h
 |_::_,[],h=>by cases h
 |x::xs,d::ds,h=>by
  show(f d || (xs.zip ds).any fun p=>f p.2)=(f d || ds.any f)
  rw[va f (Nat.succ.inj h)]
inductive GU(vs:List V)(H:Hp)(Q:VK):Prop
 |mk(y:Addr)(ys:List V)(z:Str)(h:Int)(sd:List SD)(e:vs=[.ref y,.str z,.int h])(hy:H y=some (.lst ys))(sy:Sys H ys sd)(l:ys.length≤60)(k:∀H',cI H H'→Q (.bl (sd.any (jX z h))) H')
def vM:Sp:=fun vs H Q _=>GU vs H Q
inductive GS(vs:List V)(H:Hp)(Q:VK):Prop
 |mk(y:Addr)(ys:List V)(he te:Str)(sd:List SD)(e:vs=[.ref y,.str he,.str te])(hy:H y=some (.lst ys))(sy:Sys H ys sd)(k:∀H',cI H H'→Q (.bl (sd.any (kK he te))) H')
def vo:Sp:=fun vs H Q _=>GS vs H Q
theorem zc(d:SD):d.tup.all de=true:=by
 cases d with
 |unh q h=>cases h<;>rfl
 |_=>rfl
theorem Ae(he te:Str)(d:SD):tq d.tup [.str "barred",.str he,.str te]=kK he te d:=by
 cases d with
 |knew p h=>exact Bool.and_eq_false_imp.mpr (fun h=>absurd h (by
   rw[all_eq_true]
   intro k
   exact absurd (k 0 (mem_range.mpr (lt_min.mpr ⟨succ_pos _,succ_pos _⟩))) (by show ¬(("knew" :Str) == "barred")=true;decide+kernel)))
 |unh p h=>exact Bool.and_eq_false_imp.mpr (fun h=>absurd h (by
   rw[all_eq_true]
   intro k
   exact absurd (k 0 (mem_range.mpr (lt_min.mpr ⟨succ_pos _,succ_pos _⟩))) (by show ¬(("unheard" :Str) == "barred")=true;decide+kernel)))
 |sil p b e=>exact Bool.and_eq_false_imp.mpr (fun h=>absurd h (by
   rw[all_eq_true]
   intro k
   exact absurd (k 0 (mem_range.mpr (lt_min.mpr ⟨succ_pos _,succ_pos _⟩))) (by show ¬(("silent" :Str) == "barred")=true;decide+kernel)))
 |bar p q=>
  show((("barred" :Str) == "barred") && ((p == he) && ((q == te) && true)) && true)=(decide (p=he) && decide (q=te))
  rw[show(("barred" :Str) == "barred")=true from beq_self_eq_true _,Bool.true_and,Bool.and_true,Bool.and_true]
  congr 1<;>exact beq_eq_decide _ _
theorem Bf{H:Hp}{v:V}{d:SD}{xs:List V}(h:AH H v d):DA H xs v=tq d.tup xs:=by
 obtain⟨a,rfl,ha⟩:=h
 show(match H a with|some (.tup zs)=>tq zs xs|_=>false)=_
 rw[ha]
theorem pj:cJ ["sayings", "person", "hour", "own"] ["sayings", "person", "hour"] (cG ie):={}
theorem qh (D:Df K mg "is_silent" ie ["sayings", "person", "hour"] f fd) (T:Txt K mg kw C):Gd P w K mg base 1 "is_silent" vM:=by
 refine aH D pj fun X H vs Q E hh h=>?_
 obtain⟨y,ys,z,h,sd,rfl,hy,sy,l60,k⟩:=h
 obtain⟨S0,S1,S2,S3,_⟩:=hh.eE [0,1,2,3]
 have B_any:=hh.b T.b_any
 have hsz:sizeLine=16777216:=sizeLine_eq
 refine⟨_,(af (cw (is:=[1]) (xs:=["saying"]) (ns:=["person"]) S3 hh.nd hh.calm (aV (aa S0)) {} (fun _ _ _ _ _=>(aX (i:=0) (by decide+kernel) rfl rfl)) (fun _ _ _ _ _=>(bT (bf (br (aF aK (ag a9 (aI (i:=0) rfl rfl (by decide) (by decide)) ae ao) aN (L2.cK _)) (bu (aF aK (ag a9 (aI (i:=0) rfl rfl (by decide) (by decide)) ae ao) (a8 (i:=1) rfl rfl (by decide) (by decide)) (L2.cK _))))))) (fun _ _ _ _ _=>(aI (i:=0) rfl rfl (by decide) (by decide))) hh.hsc hh.hN (by decide+kernel))
 (aj (au (aE B_any (J.f6 hh.calm) L2.tR (ak (bw (is:=[2]) (xs:=["saying"]) (ns:=["hour"]) hh.calm (aV (aa S3)) {} (fun _ _ _ _ _=>(aX (i:=0) (by decide+kernel) rfl rfl)) (fun _ _ _ _ _=>bE) (fun _ _ _ _ _=>(J.fg bH bH (ag a9 (aI (i:=0) rfl rfl (by decide) (by decide)) ae ao) (a8 (i:=1) rfl rfl (by decide) (by decide)) (ag a9 (aI (i:=0) rfl rfl (by decide) (by decide)) ae ao) L2.fu)) hh.hsc hh.hN)))))),?_⟩
 have zl:(ys.zip sd).length=ys.length:=by
  rw[List.length_zip,←sy.1,Nat.min_self]
 refine⟨_,rfl,y,rfl,⟨_,cL.of hy⟩,dM (xs:=ys) (i9 (ys.zip sd) fun p=>jc z p.2) (uL (ys.zip sd) fun p=>p.1) (cL.of hy) (by omega) ?_ ?_⟩
 ·intro i os v H2 K1 K2 hv hos s2 k1 k2
  match os,hos with
  |[o],_=>
   obtain⟨d,a,hd,rfl,ha⟩:=sy.at hv
   have ha2:=s2 _ _ ha
   rw[dy (uv hv hd)]at k1 k2
   rw[gM (uv hv hd)]at k1
   refine⟨⟨[some (.ref a)],rfl,rfl⟩,?_⟩
   cases d with
   |knew q h=>exact⟨_,rfl,xT ha2 rfl ⟨rfl,_,rfl,iN (dt (k2 rfl H2 (cI.refl _)))⟩⟩
   |unh q h=>exact⟨_,rfl,xT ha2 rfl ⟨rfl,_,rfl,iN (dt (k2 rfl H2 (cI.refl _)))⟩⟩
   |bar q q'=>exact⟨_,rfl,xT ha2 rfl ⟨rfl,_,rfl,iN (dt (k2 rfl H2 (cI.refl _)))⟩⟩
   |sil q b e=>
    refine⟨_,rfl,xT ha2 rfl ⟨rfl,_,rfl,iP ⟨_,rfl,xT ha2 rfl ⟨_,rfl,rfl,_,rfl,dG (fun hq=>?_) (fun hq=>?_)⟩⟩⟩⟩
    ·have hq':q=z:=V.str.inj (of_decide_eq_true hq)
     exact⟨_,rfl,k1 (decide_eq_true hq') H2 (cI.refl _)⟩
    ·exact k2 (decide_eq_false fun e=>hq (decide_eq_true (congrArg V.str e))) H2 (cI.refl _)
 ·intro o H' ho s' hd'
  rw[←zl,dZ (fun p=>jc z p.2) (fun p=>p.1) (ys.zip sd)]at hd'
  have om:∀p∈(ys.zip sd).filter fun p=>jc z p.2,AH H p.1 p.2∧jc z p.2=true:=fun p hp=>by
   obtain⟨hp1,hp2⟩:=mem_filter.mp hp
   obtain⟨i,hi⟩:=getElem?_of_mem hp1
   obtain⟨h1,h2⟩:=vH hi
   exact⟨sy.2 i _ _ h1 h2,hp2⟩
  have ol:((ys.zip sd).filter fun p=>jc z p.2).length≤60:=by
   have:=length_filter_le (fun p:V×SD=>jc z p.2) (ys.zip sd)
   omega
  have ev:(((ys.zip sd).filter fun p=>jc z p.2).any fun p=>k9 h p.2)=sd.any (jX z h):=by
   rw[List.any_filter]
   exact va (fun d=>jc z d && k9 h d) sy.1
  generalize (ys.zip sd).filter (fun p=>jc z p.2)=l at hd' om ol ev
  refine⟨_,rfl,o,rfl,⟨_,cL.of hd'⟩,dM (xs:=l.map fun p=>p.1) (i9 l fun _=>true) (uL l fun p=>V.bl (k9 h p.2)) (cL.of hd') (by rw[length_map];omega) ?_ ?_⟩
  ·intro i os v H2 K1 K2 hv hos s2 k1 k2
   match os,hos with
   |[o],_=>
    rw[getElem?_map]at hv
    obtain⟨p,hp,rfl⟩:=map_eq_some_iff.mp hv
    obtain⟨⟨a,ea,ha⟩,hz⟩:=om p (mem_of_getElem? hp)
    have ha2:=s2 _ _ (s' _ _ ha)
    rw[dy hp]at k1
    rw[gM hp]at k1
    have kk:=k1 rfl
    clear k1 k2
    refine⟨⟨[some p.1],rfl,rfl⟩,d6 (B:=K2 H2) ?_⟩
    obtain⟨v,d⟩:=p
    dsimp only at ea ha2 kk hz
    subst ea
    cases d with
    |sil q b e=>
     refine⟨_,rfl,xT ha2 rfl ⟨_,rfl,_,_,rfl,rfl,_,rfl,?_⟩⟩
     have k2:K1 (V.bl (if b≤h then decide (h≤e) else false)) H2:=kk H2 (cI.refl _)
     refine dG (fun hb=>?_) (fun hb=>?_)
     ·rw[if_pos (of_decide_eq_true hb)]at k2
      exact⟨_,rfl,xT ha2 rfl ⟨_,_,rfl,rfl,k2⟩⟩
     ·rw[if_neg (fun e=>hb (decide_eq_true e))]at k2
      exact k2
    |knew q h=>exact absurd hz Bool.false_ne_true
    |unh q h=>exact absurd hz Bool.false_ne_true
    |bar q q'=>exact absurd hz Bool.false_ne_true
  ·intro D2 H3 hD2 s3 hd3
   have e2:((List.range (l.map fun p=>p.1).length).filter (i9 l fun _=>true)).map (uL l fun p=>V.bl (k9 h p.2))=(l.map fun p=>k9 h p.2).map V.bl:=by
    rw[length_map,dZ (fun _=>true) (fun p=>V.bl (k9 h p.2)) l,filter_eq_self.mpr (fun _ _=>rfl),map_map]
    rfl
   rw[e2]at hd3
   refine⟨D2,_,rfl,cL.of hd3,?_⟩
   have e3:(l.map fun p=>k9 h p.2).any id=sd.any (jX z h):=by
    rw[any_map,←ev]
    rfl
   rw[e3]
   exact k H3 (s'.trans s3)
theorem qy:cJ ["sayings", "hearer", "teller"] ["sayings", "hearer", "teller"] (cG iw):={}
theorem pI (D:Df K mg "is_barred" iw ["sayings", "hearer", "teller"] f fd):Gd P w K mg base 1 "is_barred" vo:=by
 refine aH D qy fun X H vs Q E hh h=>?_
 obtain⟨y,ys,he,te,sd,rfl,hy,sy,k⟩:=h
 obtain⟨S0,S1,S2,_⟩:=hh.eE [0,1,2]
 have hu:=ft hh.room
 refine⟨_,(aj (au (aU (J.jr hu) (aR (aQ aN (aa S1) (aa S2))) (aa S0) b9))),?_⟩
 refine⟨_,rfl,_,rfl,n9,fun q hq=>?_⟩
 have s1:=cI.upd (o:=.tup [.str "barred",.str he,.str te]) hq
 have sy1:=sy.mono (Tk.of s1)
 refine⟨_,rfl,q,y,_,ys,rfl,rfl,cE,cL.of (s1 _ _ hy),rfl,fun v hv=>?_,?_⟩
 ·obtain⟨i,hi⟩:=getElem?_of_mem hv
  obtain⟨d,a,_,e,ha⟩:=sy1.at hi
  exact⟨a,d.tup,e,ha,zc d⟩
 ·rw[qR (g:=kK he te) sy1.1 fun i v d hv hd=>(Bf (sy1.2 i v d hv hd)).trans (Ae he te d)]
  exact k _ s1
abbrev QD:=Int×Str×Str×Str
inductive d3  (H:Hp)(v:V)(d:QD):Prop
 |mk(a:Addr)(h0:v=.ref a)(h1:H a=some (.tup [.int d.1,.str d.2.1,.str d.2.2.1,.str d.2.2.2]))
theorem d3.mono{H H':Hp}(s:Tk H H')(v:V)(d:QD)(h:d3 H v d):d3 H' v d:=by
 obtain⟨a,e,ha⟩:=h
 exact⟨a,e,s _ _ ha⟩
def mQ(ps:List Str)(d:QD):Prop:=cT d.1∧d.2.1∈ps∧d.2.2.1∈ps∧(d.2.2.2= "both" ∨d.2.2.2= "one")
theorem Ds{ps:List Str}{H:Hp}{ts:List V}(h:∀v∈ts,eQ ps H v):∃qd,Lz d3 H ts qd∧∀d∈qd,mQ ps d:=
 qt fun v hv=>by
  obtain⟨a,i,p,q,w,e,ha,hi,hp,hq,_,hw⟩:=h v hv
  exact⟨(i,p,q,w),⟨a,e,ha⟩,hi,hp,hq,hw⟩
def gU(qd:List QD):List TD:=qd.map fun d=>d.2
theorem xm{H:Hp}{ts:List V}{qd:List QD}(h:Lz d3 H ts qd):FP H ts (gU qd):=by
 refine⟨by rw[h.1];exact(length_map ..).symm,fun i v d hv hd=>?_⟩
 unfold gU at hd
 rw[getElem?_map]at hd
 obtain⟨q,hq,rfl⟩:=map_eq_some_iff.mp hd
 obtain⟨a,e,ha⟩:=h.2 i v q hv hq
 exact⟨a,q.1,e,ha⟩
def eB(qd:List QD)(k:Nat):Int:=match qd[k]? with
 |some d=>d.1
 |none=>0
theorem gh{qd:List QD}{k:Nat}{d:QD}(h:qd[k]? =some d):eB qd k=d.1:=by
 unfold eB
 rw[h]
abbrev TK:=Nat×Str×Str
def dF(qd:List QD)(sd:List SD)(t:TK):Bool:=ff (eB qd t.1) (floorOf t.2.2 sd) && !(sd.any (jX t.2.1 (eB qd t.1)) || sd.any (kK t.2.2 t.2.1))
theorem uY{t:TK}:∀{l:List TD}{k:Nat},t∈fB k l→∃(j:Nat) (d:TD),l[j]? =some d∧t.1=k+j∧(t.2=(d.1,d.2.1)∨t.2=(d.2.1,d.1))
 |[],_,h=>by cases h
 |d::r,k,h=>by
  have h':t∈dB k d++fB (k+1) r:=h
  rcases mem_append.mp h' with h|h
  ·refine⟨0,d,rfl,?_⟩
   unfold dB at h
   split at h
   ·rcases mem_cons.mp h with rfl|h
    ·exact⟨rfl,.inl rfl⟩
    ·rw[mem_singleton]at h
     subst h
     exact⟨rfl,.inr rfl⟩
   ·rw[mem_singleton]at h
    subst h
    exact⟨rfl,.inl rfl⟩
  ·obtain⟨j,e,he,h1,h2⟩:=uY h
   exact⟨j+1,e,he,by omega,h2⟩
theorem xS{ps:List Str}{qd:List QD}(ok:∀d∈qd,mQ ps d){t:TK}(h:t∈fB 0 (gU qd)):∃q,qd[t.1]? =some q∧t.2.2∈ps:=by
 obtain⟨j,d,hd,e1,e2⟩:=uY h
 unfold gU at hd
 rw[getElem?_map]at hd
 obtain⟨q,hq,rfl⟩:=map_eq_some_iff.mp hd
 rw[zero_add]at e1
 have:=ok q (mem_of_getElem? hq)
 refine⟨q,by rw[e1];exact hq,?_⟩
 rcases e2 with e2|e2
 ·rw[e2]
  exact this.2.2.1
 ·rw[e2]
  exact this.2.1
theorem AS{ta tb:TE}{σ:St}{H:Hp}{Q:VK}(b1 b2:Bool)(h1:∀Q':VK,(∀H',cI H H'→Q' (.bl b1) H')→ta σ H Q')(h2:∀H1 (Q':VK),cI H H1→(∀H',cI H1 H'→Q' (.bl b2) H')→tb σ H1 Q')(q:∀H',cI H H'→Q (.bl (b1 || b2)) H'):zO ta tb σ H Q:=by
 refine h1 _ fun H1 s1=>⟨_,rfl,?_⟩
 cases b1 with
 |true=>exact d6 (q H1 s1)
 |false=>exact dt (h2 H1 _ s1 fun H' s'=>q H' (s1.trans s'))
theorem CJ{ta tb:TE}{i j:Nat}{v:V}{u:TS}{D:Ends}{σ:St}{H:Hp}(b1 b2:Bool)(h1:∀Q':VK,(∀H',cI H H'→Q' (.bl b1) H')→ta (σ.set i (some v)) H Q')(h2:∀H1 (Q':VK),cI H H1→(∀H',cI H1 H'→Q' (.bl b2) H')→tb (σ.set i (some v)) H1 Q')
  (q:∀H',cI H H'→u D ((σ.set i (some v)).set j (some (.bl (b1 || b2)))) H'):d7 i v σ H (AB (qY (zO ta tb) (d7 j)) u D):=AS (ta:=ta) (tb:=tb) b1 b2 h1 h2 q
inductive DN(C:Addr)(vs:List V)(H:Hp)(Q:VK):Prop
 |mk(x p s t y:Addr)(ps:List Str)(ss ts ys:List V)(qd:List QD)(sd:List SD)(e:vs=[.ref x])(bk:Bk C H x p s t y ps ss ts ys)(pl:ps.length≤24)(tl:ts.length≤120)(qs:Lz d3 H ts qd)(qk:∀d∈qd,mQ ps d)(sy:Sys H ys sd)(l:ys.length≤60)
   (k:∀l us H',cI H H'→H l=none→H' l=some (.lst us)→fq H' us ((fB 0 (gU qd)).filter (dF qd sd))→Q (.ref l) H')
inductive Er(x tb yb d fo:Addr)(H5:Hp)(tl:List TK)(op:TK→Bool)(i:Nat)(σ:St)(H6:Hp):Prop
 |mk(us:List V)(e1 e2 e3 e4 e5:Option V)(e:σ=[some (.ref x),some (.ref tb),some (.ref yb),some (.ref d),some (.ref fo),e1,e2,e3,e4,e5])(kp:∀b o,H5 b=some o→b≠fo→H6 b=some o)(hf:H6 fo=some (.lst us))(ul:us.length≤i)(tu:fq H6 us ((tl.take i).filter op))
def lN(C:Addr):Sp:=fun vs H Q _=>DN C vs H Q
theorem ug:cJ ["self"] ["self"] (cG fb):={}
theorem uq (F:lM K "talks" "Book.talks" fb f fd) (me:Meth K C "talks" f) (bi:Binds K fd ["self"] []) (T:Txt K mg kw C):Md P w K mg base 1 C "talks" (dw C (fun _ _ t _=>t)):=by
 refine b8 F me bi T.cl ug (fun vs H Q E h=>?_) (fun X H vs Q E hh h=>?_)
 ·obtain⟨x,p,s,t,y,xs,rfl,_⟩:=h
  rfl
 ·obtain⟨x,p,s,t,y,xs,rfl,⟨dx,hx⟩,hl,k⟩:=h
  obtain⟨S0,_⟩:=hh.eE [0]
  have B_list:=hh.b T.b_list
  obtain rfl:=hh.fK
  refine⟨_,(aj (au (bG B_list bS L2.eY (ak (bD (aa S0)))))),?_⟩
  exact⟨_,rfl,x,C,dx,_,_,rfl,hx,T.cl,T.nT,ye _ _ _ _,_,_,rfl,.inl (cL.of hl),k⟩
theorem kr:cJ ["book", "talks", "sayings", "floors", "found", "k", "teller", "hearer", "hour", "hushed"] ["book"] (cG eV):={}
theorem kQ (D:Df K mg "open_tellings" eV ["book"] f fd) (T:Txt K mg kw C) (G_talks:Md P w K mg base 1 C "talks" (dw C fun _ _ t _=>t)) (G_sayings:Md P w K mg base 1 C "sayings" (dw C fun _ _ _ y=>y)) (G_tellings:Md P w K mg base 1 C "tellings" (gL C))
  (G_floors_of_all:Gd P w K mg base 3 "floors_of_all" (jU C)) (G_is_above:Gd P w K mg base 1 "is_above" l0) (G_is_silent:Gd P w K mg base 1 "is_silent" vM) (G_is_barred:Gd P w K mg base 1 "is_barred" vo):Gd P w K mg base 4 "open_tellings" (lN C):=by
 refine aH D kr fun X H vs Q E hh h=>?_
 obtain⟨x,p,s,t,y,ps,ss,ts,ys,qd,sd,rfl,bk,pl,tl,qs,qk,sy,l60,k⟩:=h
 obtain⟨S0,S1,S2,S3,S4,S5,S6,S7,S8,S9,_⟩:=hh.eE [0,1,2,3,4,5,6,7,8,9]
 have C_floors_of_all:=hh.c G_floors_of_all
 have C_is_above:=hh.c G_is_above
 have C_is_barred:=hh.c G_is_barred
 have C_is_silent:=hh.c G_is_silent
 have M_sayings:=hh.met G_sayings (by decide)
 have M_talks:=hh.met G_talks (by decide)
 have M_tellings:=hh.met G_tellings (by decide)
 have hu:=ft hh.room
 have hsz:sizeLine=16777216:=sizeLine_eq
 obtain⟨⟨dx,hx⟩,hp,hs,ht,hy⟩:=id bk
 refine⟨_,(af (aB S1 hh.nd (bJ M_talks (aa S0) rfl))
 (af (aB S2 hh.nd (bJ M_sayings (aa S0) rfl))
 (af (aB S3 hh.nd (av C_floors_of_all (ak (aa S0))))
 (af (aB S4 hh.nd (bg bz))
 (af (bq hh.own hh.calm (aV (bJ M_tellings (aa S0) rfl)) (bC hh.calm (aG (aP S5 hh.nd) (aG (aP S6 hh.nd) (aG (aP S7 hh.nd) bh))))
 (af (aB S8 hh.nd (ag aw (ag a5 (aa S1) (aa S5) bo) ae ao))
 (af (aB S9 hh.nd (J.o9 (av C_is_silent (aQ (aa S2) (aa S6) (aa S8))) (aY (av C_is_barred (aQ (aa S2) (aa S7) (aa S6))))))
 (aj (aJ (bf (br (bj (av C_is_above (aD (aa S8) (bB hu (aa S3) (aa S7) bo)))) (bu (ba (J.p9 (aa S9))))))
 (aj (bL (bF plainAttrs_list PySem.F.slot_list_append PySem.F.type_list_append bK (aa S4) (ak (aR (aQ (aa S5) (aa S6) (aa S7)))))))
 aM)))))
 (aj (au (aa S4)))))))),?_⟩
 refine⟨_,rfl,x,dx,_,rfl,hx,fc _ _ _ _ (by decide+kernel) (by decide+kernel) (by decide+kernel) (by decide+kernel),x,p,s,t,y,ts,rfl,⟨dx,hx⟩,ht,fun tb htb=>?_⟩
 have s1:=cI.upd (o:=.lst ts) htb
 have htb1:upd H tb (.lst ts) tb=some (.lst ts):=cE
 generalize upd H tb (.lst ts)=H1 at s1 htb1
 refine⟨_,rfl,x,dx,_,rfl,s1 _ _ hx,fc _ _ _ _ (by decide+kernel) (by decide+kernel) (by decide+kernel) (by decide+kernel),x,p,s,t,y,ys,rfl,⟨dx,s1 _ _ hx⟩,s1 _ _ hy,fun yb hyb=>?_⟩
 have s2:=cI.upd (o:=.lst ys) hyb
 have hyb2:upd H1 yb (.lst ys) yb=some (.lst ys):=cE
 generalize upd H1 yb (.lst ys)=H2 at s2 hyb2
 have s02:=s1.trans s2
 refine⟨_,rfl,x,p,s,t,y,ps,ss,ts,ys,sd,rfl,bk.mono s02,pl,sy.mono (Tk.of s02),l60,fun d H3 s3 dn fl=>?_⟩
 have s03:=s02.trans s3
 refine⟨xG,fun fo hfo=>?_⟩
 have s4:=cI.upd (o:=.lst []) hfo
 have s04:=s03.trans s4
 have hfo4:upd H3 fo (.lst []) fo=some (.lst []):=cE
 have nfo:H fo=none:=s03.free hfo
 have fl4:=fl.mono s4
 have htb4:=s4 _ _ (s3 _ _ (s2 _ _ htb1))
 have hyb4:=s4 _ _ (s3 _ _ hyb2)
 have fotb:tb≠fo:=cF (s3 _ _ (s2 _ _ htb1)) hfo
 have foyb:yb≠fo:=cF (s3 _ _ hyb2) hfo
 have fod:d≠fo:=by
  obtain⟨kvs,e,_⟩:=fl
  exact cF e hfo
 generalize upd H3 fo (.lst [])=H4 at s4 s04 hfo4 fl4 htb4 hyb4
 clear s1 htb1 s2 hyb2 s02 s3 fl s03 hfo s4
 refine⟨_,rfl,x,dx,_,rfl,s04 _ _ hx,fc _ _ _ _ (by decide+kernel) (by decide+kernel) (by decide+kernel) (by decide+kernel),x,p,s,t,y,ps,ss,ts,ys,gU qd,rfl,bk.mono s04,(xm qs).mono (Tk.of s04),tl,fun m vs H5 s5 mn hm tm=>?_⟩
 have fom:m≠fo:=(cF hfo4 mn).symm
 have ml:vs.length≤240:=by
  have:=iJ (gU qd) 0
  have:=tm.1
  have:=(xm qs).1
  omega
 refine⟨m,rfl,⟨_,cL.of hm⟩,el (K:=X.K) (a:=m) (xs:=vs) (Er x tb yb d fo H5 (fB 0 (gU qd)) (dF qd sd))
  ⟨[],none,none,none,none,none,rfl,fun b o e _=>e,s5 _ _ hfo4,le_refl 0,fq.nil⟩ ?_ ?_ ?_⟩
 ·rintro i σ H6 hi ⟨us,e1,e2,e3,e4,e5,rfl,kp,_⟩
  exact cL.of (kp _ _ hm fom)
 ·rintro i v σ H6 hv ⟨us,e1,e2,e3,e4,e5,rfl,kp,hf6,ul,tu⟩
  have hi:i < vs.length:=(List.getElem?_eq_some_iff.mp hv).1
  obtain⟨tk,htk⟩:∃tk,(fB 0 (gU qd))[i]? =some tk:=⟨_,getElem?_eq_getElem (by rw[←tm.1];exact hi)⟩
  obtain⟨a,rfl,ha⟩:=tm.2 i v tk hv htk
  obtain⟨q,hq,hps⟩:=xS qk (mem_of_getElem? htk)
  have kpT:∀b xs,H b=some (.tup xs)→H6 b=some (.tup xs):=fun b xs e=>kp b _ (s5 _ _ (s04 _ _ e)) (cF e nfo)
  have ha6:=kp _ _ ha (eW ha (s5 _ _ hfo4) (by intro z;cases z))
  have htb6:=kp _ _ (s5 _ _ htb4) fotb
  have hyb6:=kp _ _ (s5 _ _ hyb4) foyb
  obtain⟨kvs,hd6,hk⟩:=fl4
  have hd6:=kp _ _ (s5 _ _ hd6) fod
  obtain⟨vq,hvq⟩:∃vq,ts[tk.1]? =some vq:=⟨_,getElem?_eq_getElem (by rw[qs.1];exact(List.getElem?_eq_some_iff.mp hq).1)⟩
  obtain⟨aq,rfl,haq⟩:=qs.2 _ _ _ hvq hq
  have haq6:=kpT _ _ haq
  have sy6:Sys H6 ys sd:=sy.mono kpT
  refine⟨a,_,rfl,c8.of ha6,rfl,_,_,rfl,_,_,rfl,_,_,rfl,rfl,?_⟩
  refine⟨_,rfl,_,rfl,xL htb6 (dv hvq) (xT haq6 rfl ?_)⟩
  rw[←gh hq]
  refine CJ (i:=8) (j:=9) (ta:=mW vM [] E0 (da (dE 2) (da (dE 6) (da (dE 8) jl)))) (tb:=mW vo [] E0 (da (dE 2) (da (dE 7) (da (dE 6) jl)))) (sd.any (jX tk.2.1 (eB qd tk.1))) (sd.any (kK tk.2.2 tk.2.1)) (fun Q' q'=>⟨_,rfl,_,rfl,_,rfl,yb,ys,tk.2.1,eB qd tk.1,sd,rfl,hyb6,sy6,l60,q'⟩) (fun H7 Q' s7 q'=>⟨_,rfl,_,rfl,_,rfl,yb,ys,tk.2.2,tk.2.1,sd,rfl,s7 _ _ hyb6,sy6.mono (Tk.of s7),q'⟩) (fun H7 s7=>?_)
  have dg:eC H7 d (.str tk.2.2) (some (oV (floorOf tk.2.2 sd))):=by
   rw[←hk _ hps]
   exact eC.k (k:=Sum.inr tk.2.2) (s7 _ _ hd6)
  have et:(fB 0 (gU qd)).take (i+1)=(fB 0 (gU qd)).take i++[tk]:=by
   rw[take_add_one,htk]
   rfl
  have hf7:=s7 _ _ hf6
  have kp7:∀b o,H5 b=some o→b≠fo→H7 b=some o:=fun b o e n=>s7 _ _ (kp b o e n)
  have tu7:=tu.mono (Tk.of s7)
  have no:dF qd sd tk=false→fq H7 us (((fB 0 (gU qd)).take (i+1)).filter (dF qd sd)):=fun h=>by
   rw[et,filter_append,filter_cons,if_neg (by rw[h];exact Bool.false_ne_true),List.filter_nil,append_nil]
   exact tu7
  refine⟨_,rfl,_,rfl,_,rfl,d,_,rfl,dg,eB qd tk.1,floorOf tk.2.2 sd,rfl,_,rfl,dG (fun hab=>⟨_,rfl,_,rfl,dG (fun hs=>?_) (fun hs=>?_)⟩) (fun hab=>dt ?_)⟩
  ·have ot:dF qd sd tk=true:=by
    unfold dF
    rw[hab,hs]
    rfl
   refine⟨_,rfl,.inl ⟨rfl,_,cL.of hf7⟩,_,rfl,_,rfl,_,rfl,n9,fun t1 ht1=>?_⟩
   have s8:=cI.upd (o:=.tup [.int tk.1,.str tk.2.1,.str tk.2.2]) ht1
   have t1f:t1≠fo:=(cF hf7 ht1).symm
   refine⟨fo,us,.ref t1,rfl,rfl,s8 _ _ hf7,by omega,us++[.ref t1],_,_,_,_,_,rfl,fun b o e n=>?_,cE,by rw[length_append];show us.length+1≤i+1;omega,?_⟩
   ·rw[cH n]
    exact s8 _ _ (kp7 b o e n)
   ·rw[et,filter_append,filter_cons,if_pos ot,List.filter_nil]
    refine(tu7.mono ((Tk.of s8).trans (Tk.upd (s8 _ _ hf7)))).snoc ⟨t1,rfl,?_⟩
    rw[cH t1f]
    exact cE
  ·refine⟨us,_,_,_,_,_,rfl,kp7,hf7,by omega,no ?_⟩
   unfold dF
   rw[eq_false_of_ne_true hs,Bool.and_false]
  ·refine⟨us,_,_,_,_,_,rfl,kp7,hf7,by omega,no ?_⟩
   unfold dF
   rw[eq_false_of_ne_true hab,Bool.false_and]
 ·rintro σ H6 ⟨us,e1,e2,e3,e4,e5,rfl,kp,hf6,ul,tu⟩
  rw[tm.1,take_length]at tu
  exact⟨_,rfl,k fo us H6 (fun b o e=>kp b o (s5 _ _ (s04 _ _ e)) (cF e nfo)) nfo hf6 tu⟩
theorem vk{J:It}{n:Nat}{is:List Nat}{g:TG}{te:TE}{σ:St}{H:Hp}{Q:VK}{N:Nat}(R:Nat→Hp→V→Prop)(mono:∀j v H H',Tk H H'→R j H v→R j H' v)(hz:N≤sizeLine)(hgo:∀i H2,cI H H2→i < N→J.go i H2)(hstop:∀H2,cI H H2→J.stop N H2)
  (he:∀(i:Nat)(os:St) v H2 H3 (K1:VK),i < N→os.length=n→cI H H2→J.yld i H2 v H3→(∀y H6,cI H2 H6→R i H6 y→K1 y H6)→
   g v (os++dJ is σ) H3 fun σ' H4=>(∃os':St,os'.length=n∧σ'=os'++dJ is σ)∧te σ' H4 K1)
  (gm:∀v σ H (Q1 Q2:St→Hp→Prop),(∀σ' H',Q1 σ' H'→Q2 σ' H')→g v σ H Q1→g v σ H Q2)
  (q:∀D ys H',H D=none→cI H H'→H' D=some (.lst ys)→ys.length=N→(∀(j:Nat) v,ys[j]? =some v→R j H' v)→Q (.ref D) H'):eI J n is g xx te σ H Q:=by
 intro D hDn
 refine⟨fun i m ys H2=>m=N - i∧i≤N∧cI H H2∧H2 D=some (.lst ys)∧ys.length=i∧∀(j:Nat) v,ys[j]? =some v→R j H2 v,⟨_,rfl,zero_le _,cI.upd hDn,cE,rfl,fun j v h=>by cases h⟩,?_⟩
 rintro i m ys H2 ⟨rfl,hi,sm,hd,rfl,ra⟩
 refine⟨hd,?_⟩
 by_cases hlt:ys.length < N
 ·refine .inr ⟨hgo _ H2 sm hlt,fun os v H3 hos y=>?_⟩
  refine gm _ _ _ _ _ (fun σ' H' h=>⟨h.1,d6 (B:=∃m',m' < N - ys.length∧m'=N - (ys.length+1)∧ys.length+1≤N∧cI H H'∧H' D=some (.lst ys)∧ys.length=ys.length+1∧∀(j:Nat) v,ys[j]? =some v→R j H' v) h.2⟩) (he _ os v H2 H3 _ hlt hos sm y fun z H6 s6 rz=>⟨s6 _ _ hd,by omega,N - (ys.length+1),by omega,rfl,hlt,fun b o e=>?_,cE,by rw[length_append];rfl,fun j u hu=>?_⟩)
  ·rw[cH (cF e hDn)]
   exact s6 _ _ (sm _ _ e)
  ·have tk:=Tk.upd (s6 _ _ hd) (ys:=ys++[z])
   by_cases hj:j < ys.length
   ·rw[getElem?_append_left hj]at hu
    exact mono _ _ _ _ ((Tk.of s6).trans tk) (ra j u hu)
   ·have e:j=ys.length:=by
     have:=(List.getElem?_eq_some_iff.mp hu).1
     rw[length_append]at this
     have:j < ys.length+1:=this
     omega
    subst e
    rw[getElem?_append_right (le_refl _),sub_self]at hu
    cases hu
    exact mono _ _ _ _ tk rz
 ·have e:ys.length=N:=by omega
  exact .inl ⟨by rw[e];exact hstop H2 sm,q D ys H2 hDn sm hd e ra⟩
theorem jF{K:PySem.W.Frag}{is:List Nat}{te:TE}{σ:St}{H:Hp}{Q:VK}{a:Addr}{xs:List V}(R:Nat→Hp→V→Prop)(mono:∀j v H H',Tk H H'→R j H v→R j H' v)(hq:cL K H a xs)(hz:xs.length≤sizeLine)
  (he:∀(i:Nat) v H2 (K1:VK),xs[i]? =some v→cI H H2→(∀y H6,cI H2 H6→R i H6 y→K1 y H6)→te ([some v]++dJ is σ) H2 K1)
  (q:∀D ys H',H D=none→cI H H'→H' D=some (.lst ys)→ys.length=xs.length→(∀(j:Nat) v,ys[j]? =some v→R j H' v)→Q (.ref D) H'):eI (BA K a) 1 is (d7 0) xx te σ H Q:=
 vk R mono hz (fun i H2 sm hi=>⟨xs,xs[i],sm.seq hq,by simp[hi]⟩) (fun H2 sm=>⟨xs,sm.seq hq,le_refl _⟩) (fun i os v H2 H3 K1 hi hos sm y k1=>by
  obtain⟨rfl,y⟩:=y
  match os,hos with
  |[o],_=>exact⟨⟨[some v],rfl,rfl⟩,he i v _ K1 (y xs (sm.seq hq)) sm k1⟩) (fun _ _ _ _ _ h k=>h _ _ k) q
theorem vi{i:Nat}{v:V}{tc:TT}{u t2:TS}{D:Ends}{σ:St}{H:Hp}(R:St→Hp→Prop)(hR:∀σ' H',R σ' H'→t2 D σ' H')(b:Bool)(hc:∀Q:Bool→Hp→Prop,Q b H→tc (σ.set i (some v)) H Q)(h1:b=true→(∀σ' H',R σ' H'→t2 D σ' H')→u { D with nx:=t2 D } (σ.set i (some v)) H)(h2:b=false→R (σ.set i (some v)) H):
  d7 i v σ H (fun σ2 H2=>AB (xU tc u sR) t2 D σ2 H2):=by
 refine hc _ ?_
 cases b with
 |true=>exact d6 (h1 rfl hR)
 |false=>exact dt (hR _ _ (h2 rfl))
theorem gZ:∀{zs ps:List Str},zs.Nodup→(∀z∈zs,z∈ps)→zs.length≤ps.length
 |[],_,_,_=>zero_le _
 |z::r,ps,nd,m=>by
  obtain⟨n1,n2⟩:=nodup_cons.mp nd
  have mz:=m z mem_cons_self
  have:=gZ (ps:=ps.erase z) n2 fun y hy=>(List.mem_erase_of_ne fun e=>n1 (by rw[←e];exact hy)).mpr (m y (mem_cons_of_mem _ hy))
  rw[List.length_erase_of_mem mz]at this
  have pl:=List.length_pos_of_mem mz
  show r.length+1≤_
  omega
theorem rZ{α:Type}{l:List α}{j:Nat}{y:α}(h:y∈l.take j):∃i,i < j∧l[i]? =some y:=by
 obtain⟨i,hi⟩:=getElem?_of_mem h
 have il:=(List.getElem?_eq_some_iff.mp hi).1
 rw[length_take]at il
 rw[getElem?_take_of_lt (by omega)]at hi
 exact⟨i,by omega,hi⟩
theorem GG(x1 x2 x3 y1 y2 y3:V):tq [x1,x2,x3] [y1,y2,y3]=(qE x1 y1 && (qE x2 y2 && qE x3 y3)):=by
 unfold tq
 simp[List.range_succ]
theorem yA(a b:TK):tq [.int (a.1:Nat),.str a.2.1,.str a.2.2] [.int (b.1:Nat),.str b.2.1,.str b.2.2]=decide (a=b):=by
 rw[GG]
 show(((a.1:Int) == (b.1:Int)) && ((a.2.1 == b.2.1) && (a.2.2 == b.2.2)))=_
 rw[Bool.eq_iff_iff,and_eq_true,and_eq_true,beq_iff_eq,beq_iff_eq,beq_iff_eq,decide_eq_true_iff]
 constructor
 ·rintro⟨h1,h2,h3⟩
  exact Prod.ext (by omega) (Prod.ext h2 h3)
 ·rintro rfl
  exact⟨rfl,rfl,rfl⟩
theorem vD{H:Hp}{a:Addr}{zs xs:List V}(ha:H a=some (.tup zs)):DA H xs (.ref a)=tq zs xs:=by
 show(match H a with
  |some (.tup zs)=>tq zs xs
  |_=>false)=_
 rw[ha]
theorem vf{H:Hp}{os:List V}{ot:List TK}(tu:fq H os ot)(t:TK):os.any (DA H [.int (t.1:Nat),.str t.2.1,.str t.2.2])=decide (t∈ot):=by
 rw[Bool.eq_iff_iff,any_eq_true,decide_eq_true_iff]
 constructor
 ·rintro⟨v,hv,hi⟩
  obtain⟨i,hiv⟩:=getElem?_of_mem hv
  obtain⟨u,hu⟩:∃u,ot[i]? =some u:=⟨_,getElem?_eq_getElem (by rw[←tu.1];exact(List.getElem?_eq_some_iff.mp hiv).1)⟩
  obtain⟨a,rfl,ha⟩:=tu.2 _ _ _ hiv hu
  rw[vD ha,yA,decide_eq_true_iff]at hi
  rw[←hi]
  exact mem_of_getElem? hu
 ·intro h
  obtain⟨i,hi⟩:=getElem?_of_mem h
  obtain⟨v,hv⟩:∃v,os[i]? =some v:=⟨_,getElem?_eq_getElem (by rw[tu.1];exact(List.getElem?_eq_some_iff.mp hi).1)⟩
  obtain⟨a,rfl,ha⟩:=tu.2 _ _ _ hv hi
  refine⟨_,mem_of_getElem? hv,?_⟩
  rw[vD ha,yA]
  exact decide_eq_true rfl
theorem rf{H:Hp}{os:List V}{ot:List TK}(tu:fq H os ot):∀v∈os,∃c zs,v=.ref c∧H c=some (.tup zs)∧zs.all de=true:=fun v hv=>by
 obtain⟨i,hi⟩:=getElem?_of_mem hv
 obtain⟨u,hu⟩:∃u,ot[i]? =some u:=⟨_,getElem?_eq_getElem (by rw[←tu.1];exact(List.getElem?_eq_some_iff.mp hi).1)⟩
 obtain⟨a,rfl,ha⟩:=tu.2 _ _ _ hi hu
 exact⟨a,_,rfl,ha,rfl⟩
inductive Dv  (vs:List V)(H:Hp)(Q:VK):Prop
 |mk(c k:Int)(h0:vs=[.int c,.int k])(h1:0≤k)(h2:k≤1000)(h3:∀m:Int,0≤m→m < 2147483647→Q (.int m) H)
def lj  :Sp:=fun vs H Q _=>Dv  vs H Q
theorem p8(x:Int){m:Int}(h:0 < m):0≤x % m∧x % m < m:=⟨Int.emod_nonneg _ (Int.ne_of_gt h),Int.emod_lt_of_pos _ h⟩
theorem yZ:cJ ["_law_cell", "_law_k", "_law_some"] ["_law_cell", "_law_k"] (cG pJ):={}
theorem Dd (D:Df K mg "_law_mix" pJ ["_law_cell", "_law_k"] f fd):Gd P w K mg base 1 "_law_mix" lj:=by
 refine aH D yZ fun X H vs Q E hh h=>?_
 obtain⟨c,k,rfl,k0,k1,q⟩:=h
 obtain⟨S0,S1,S2,_⟩:=hh.eE [0,1,2]
 refine⟨_,(af (aB S2 hh.nd (ah a6 (ah a6 (ah aO (aa S0) ae) (ah bA (ah bA ae (aa S1)) (aa S1))) ae))
 (aj (au (ah aO (ah bA (ah aO (ah bA (aa S2) (aa S2)) ae) (ah a6 (aa S1) ae)) ae)))),?_⟩
 refine⟨_,rfl,_,_,rfl,rfl,(by show(0:Int) < 1000000007;decide),_,rfl,_,_,rfl,rfl,.inl ⟨by decide,by decide⟩,_,rfl,_,_,rfl,rfl,.inr ⟨by omega,by omega⟩,_,_,rfl,rfl,_,_,rfl,rfl,?_⟩
 have a:=p8 c (m:=1000000007) (by decide)
 have b:0≤31 * k * k∧31 * k * k≤31000000:=by
  have h1:31 * k * k=31 * (k * k):=Int.mul_assoc 31 k k
  have h2:0≤k * k:=Int.mul_nonneg k0 k0
  have h3:k * k≤1000 * 1000:=Int.mul_le_mul k1 k1 k0 (by decide)
  omega
 dsimp only
 have sb:0≤c % 1000000007+31 * k * k+1∧c % 1000000007+31 * k * k+1≤1100000000:=by omega
 generalize c % 1000000007+31 * k * k+1=S at sb
 clear a b
 have r:=p8 (S * S % 2147483629 * (k+7)) (m:=2147483647) (by decide)
 exact⟨_,rfl,_,rfl,_,_,rfl,rfl,.inl ⟨by omega,by omega⟩,_,_,rfl,rfl,(by show(0:Int) < 2147483629;decide),_,rfl,_,_,rfl,rfl,_,_,rfl,rfl,.inr ⟨by omega,by omega⟩,_,_,rfl,rfl,(by show(0:Int) < 2147483647;decide),q _ r.1 r.2⟩
inductive WI
 |saw (i:Int)
 |hrd (k:Int)(te:Str)
abbrev RI:=Str×Int×WI
def WI.tup:WI→List V
 |.saw i=>[.str "saw",.int i]
 |.hrd k te=>[.str "heard",.int k,.str te]
def tW(H:Hp)(wa:Addr)(w:WI):Prop:=H wa=some (.tup w.tup)
def eD(H:Hp)(v:V)(d:RI):Prop:=∃a wa:Addr,v=.ref a∧H a=some (.tup [.str d.1,.int d.2.1,.ref wa])∧tW H wa d.2.2
theorem eD.mono{H H':Hp}(s:Tk H H')(v:V)(d:RI)(h:eD H v d):eD H' v d:=by
 obtain⟨a,wa,e,h1,h2⟩:=h
 exact⟨a,wa,e,s _ _ h1,s _ _ h2⟩
abbrev FH:=Str→Option Int
def zk(st:List RI):List (Key×V):=st.map fun d=>(Sum.inr d.1,V.int d.2.1)
def hI(st:List RI):FH:=fun z=>(st.find? fun d=>decide (d.1=z)).map (·.2.1)
theorem A5{st:List RI}{i:Nat}{d:RI}(nd:(st.map (·.1)).Nodup)(hd:st[i]? =some d):putK (zk (st.take i)) (Sum.inr d.1) (.int d.2.1)=zk (st.take (i+1)):=by
 have no:((zk (st.take i)).any fun kv=>decide (kv.1=Sum.inr d.1))=false:=by
  rw[any_eq_false]
  intro kv hkv e
  obtain⟨d',hd',rfl⟩:=mem_map.mp hkv
  have e':d'.1=d.1:=Sum.inr.inj (of_decide_eq_true e)
  obtain⟨j,hj,hj'⟩:=rZ hd'
  have h1:(st.map (·.1))[j]? =some d.1:=by rw[getElem?_map,hj'];exact congrArg some e'
  have h2:(st.map (·.1))[i]? =some d.1:=by rw[getElem?_map,hd];rfl
  have:=(List.getElem?_inj (by exact(List.getElem?_eq_some_iff.mp h1).1) nd).mp (h1.trans h2.symm)
  omega
 unfold putK
 rw[no,if_neg Bool.false_ne_true,take_add_one,hd]
 unfold zk
 rw[map_append]
 rfl
theorem pP(st:List RI)(z:Str):dD (zk st) (Sum.inr z)=(hI st z).map V.int:=by
 unfold dD zk hI
 rw[List.find?_map]
 have e:((fun kv:Key×V=>decide (kv.1=Sum.inr z)) ∘ fun d:RI=>(Sum.inr d.1,V.int d.2.1))=fun d:RI=>decide (d.1=z):=by
  funext d
  show decide ((Sum.inr d.1:Key)=Sum.inr z)=decide (d.1=z)
  exact decide_eq_decide.mpr ⟨fun h=>Sum.inr.inj h,fun h=>congrArg Sum.inr h⟩
 rw[e,Option.map_map,Option.map_map]
 rfl
theorem yj{st:List RI}{z:Str}{i:Int}(h:hI st z=some i):∃d∈st,d.1=z∧d.2.1=i:=by
 unfold hI at h
 obtain⟨d,hd,rfl⟩:=map_eq_some_iff.mp h
 exact⟨d,List.mem_of_find?_eq_some hd,of_decide_eq_true (List.find?_some (p:=fun d:RI=>decide (d.1=z)) hd),rfl⟩
def Al(a b:Str):Bool:=decide (a.cps.toList < b.cps.toList)
def ltAt(zs:List Str)(i:Nat):Bool:=match zs[i]?,zs[i+1]? with
 |some a,some b=>Al a b
 |_,_=>false
def lD(zs:List Str):Bool:=(List.range (zs.length - 1)).all (ltAt zs)
theorem Av(a:Str):Al a a=false:=decide_eq_false (List.lt_irrefl _)
theorem w8{a b c:Str}(h1:Al a b=true)(h2:Al b c=true):Al a c=true:=decide_eq_true (List.lt_trans (of_decide_eq_true h1) (of_decide_eq_true h2))
theorem o7(a b:Str)(r:List Str):lD (a::b::r)=(Al a b && lD (b::r)):=by
 unfold lD
 have e:(a::b::r).length - 1=(b::r).length - 1+1:=by simp
 rw[e,List.range_succ_eq_map,all_cons,all_map]
 rfl
theorem oz:∀{zs:List Str},lD zs=true→zs.Pairwise fun a b=>Al a b=true
 |[],_=>.nil
 |[a],_=>pairwise_singleton _ _
 |a::b::r,h=>by
  rw[o7,and_eq_true]at h
  have ih:=oz h.2
  refine pairwise_cons.mpr ⟨fun c hc=>?_,ih⟩
  rcases mem_cons.mp hc with rfl|hc
  ·exact h.1
  ·exact w8 h.1 ((pairwise_cons.mp ih).1 c hc)
theorem uV:∀{zs:List Str},(zs.Pairwise fun a b=>Al a b=true)→lD zs=true
 |[],_=>rfl
 |[a],_=>rfl
 |a::b::r,h=>by
  rw[o7,(pairwise_cons.mp h).1 b (.head _),uV (pairwise_cons.mp h).2]
  rfl
theorem uF{zs:List Str}(h:lD zs=true):zs.Nodup:=(oz h).imp fun {a b} e z=>by
 rw[z,Av]at e
 cases e
inductive C0  (vs:List V)(H:Hp)(Q:VK):Prop
 |mk(l:Addr)(zs:List Str)(h0:vs=[.ref l])(h1:H l=some (.lst (zs.map V.str)))(h2:zs.length≤1000)(h3:∀H',cI H H'→Q (.bl (lD zs)) H')
def yq  :Sp:=fun vs H Q _=>C0  vs H Q
def FY(sg:List GD)(i:Int)(p:Str)(h:Int):Bool:=(decide (0≤i) && decide (i < sg.length)) && (match sg[i.toNat]? with
 |some d=>decide (d.1=p) && decide (d.2=h)
 |none=>false)
inductive IZ(vs:List V)(H:Hp)(Q:VK):Prop
 |mk(s:Addr)(ss:List V)(sg:List GD)(i:Int)(p:Str)(h:Int)(e:vs=[.ref s,.int i,.str p,.int h])(hs:H s=some (.lst ss))(gs:Lz dA H ss sg)(sl:ss.length≤24)(k:Q (.bl (FY sg i p h)) H)
def Dq:Sp:=fun vs H Q _=>IZ vs H Q
abbrev F3:=Int→Str→Str→Option Int
def De(F:F3)(k:Int)(te p:Str)(h:Int):Bool:=match F k te p with
 |none=>false
 |some j=>decide (j=h)
def qS(F:FH)(te:Str)(h:Int):Bool:=match F te with
 |none=>false
 |some j=>decide (j < h)
def D3(kvs:List (List Key×V))(F:F3):Prop:=∀k a b,dD kvs [Sum.inl k,Sum.inr a,Sum.inr b]=(F k a b).map V.int
inductive Jm(vs:List V)(H:Hp)(Q:VK):Prop
 |mk(d a:Addr)(kvs:List (List Key×V))(F:F3)(k:Int)(te p:Str)(h:Int)(e:vs=[.ref d,.ref a,.int h])(hd:H d=some (.dT kvs))(g:D3 kvs F)(ha:H a=some (.tup [.int k,.str te,.str p]))(q:Q (.bl (De F k te p h)) H)
def DQ:Sp:=fun vs H Q _=>Jm vs H Q
inductive IH(vs:List V)(H:Hp)(Q:VK):Prop
 |mk(l:Addr)(us:List V)(st:List RI)(e:vs=[.ref l])(hl:H l=some (.lst us))(lz:Lz eD H us st)(nd:(st.map (·.1)).Nodup)(sl:st.length≤100)(k:∀d H',cI H H'→H d=none→H' d=some (.dK (zk st))→Q (.ref d) H')
def A6:Sp:=fun vs H Q _=>IH vs H Q
def f3(qd:List QD):F3:=fun k a b=>if 0≤k∧(k.toNat,a,b)∈fB 0 (gU qd) then some (eB qd k.toNat) else none
def BC(qd:List QD)(ks:List TK):F3:=fun k a b=>if 0≤k∧(k.toNat,a,b)∈ks then some (eB qd k.toNat) else none
def GP(t:TK):List Key:=[Sum.inl (t.1:Int),Sum.inr t.2.1,Sum.inr t.2.2]
theorem C7(qd:List QD):D3 [] (BC qd []):=fun k a b=>by
 unfold BC
 rw[if_neg (fun h=>nomatch h.2)]
 rfl
theorem CN{kvs:List (List Key×V)}{qd:List QD}{ks:List TK}{i:Nat}{tk:TK}{j:Int}(sn:D3 kvs (BC qd (ks.take i)))(ht:ks[i]? =some tk)(e:eB qd tk.1=j):D3 (putK kvs (GP tk) (.int j)) (BC qd (ks.take (i+1))):=fun k a b=>by
 have tk1:ks.take (i+1)=ks.take i++[tk]:=by rw[take_add_one,ht];rfl
 rw[rR]
 by_cases q:([Sum.inl k,Sum.inr a,Sum.inr b]:List Key)=GP tk
 ·rw[if_pos q]
  obtain⟨n,a',b'⟩:=tk
  injection q with q1 q2
  injection q2 with q2 q3
  injection q3 with q3 _
  replace q1:k=(n:Int):=Sum.inl.inj q1
  replace q2:a=a':=Sum.inr.inj q2
  replace q3:b=b':=Sum.inr.inj q3
  subst q1
  subst q2
  subst q3
  unfold BC
  rw[if_pos ⟨Int.natCast_nonneg n,by rw[tk1,Int.toNat_natCast];exact mem_append_right _ (.head _)⟩,Int.toNat_natCast,e]
  rfl
 ·rw[if_neg q,sn k a b]
  unfold BC
  have e:(0≤k∧(k.toNat,a,b)∈ks.take i)↔(0≤k∧(k.toNat,a,b)∈ks.take (i+1)):=by
   rw[tk1]
   constructor
   ·exact fun h=>⟨h.1,mem_append_left _ h.2⟩
   ·intro h
    refine⟨h.1,?_⟩
    rcases mem_append.mp h.2 with z|z
    ·exact z
    ·have z:=mem_singleton.mp z
     refine absurd ?_ q
     rw[←z]
     show _=[Sum.inl ((k.toNat:Nat):Int),Sum.inr a,Sum.inr b]
     rw[Int.toNat_of_nonneg h.1]
  by_cases h:0≤k∧(k.toNat,a,b)∈ks.take i
  ·rw[if_pos h,if_pos (e.mp h)]
  ·rw[if_neg h,if_neg (fun z=>h (e.mpr z))]
inductive Gp(C:Addr)(vs:List V)(H:Hp)(Q:VK):Prop
 |mk(x p s t y:Addr)(ps:List Str)(ss ts ys:List V)(qd:List QD)(e:vs=[.ref x])(bk:Bk C H x p s t y ps ss ts ys)(tl:ts.length≤120)(qs:Lz d3 H ts qd)(qk:∀d∈qd,mQ ps d)
   (k:∀d kvs H',cI H H'→H d=none→H' d=some (.dT kvs)→D3 kvs (f3 qd)→Q (.ref d) H')
def yu(C:Addr):Sp:=fun vs H Q _=>Gp C vs H Q
inductive Fy(x tb d:Addr)(H1:Hp)(qd:List QD)(ks:List TK)(i:Nat)(σ:St)(H2:Hp):Prop
 |mk(e3:Option V)(kvs:List (List Key×V))(e:σ=[some (.ref x),some (.ref tb),some (.ref d),e3])(kp:∀b o,H1 b=some o→b≠d→H2 b=some o)(hd:H2 d=some (.dT kvs))(kl:kvs.length≤i)(sn:D3 kvs (BC qd (ks.take i)))
def B6(sg:List GD)(F:F3)(G:FH)(d:RI):Bool:=match d.2.2 with
 |.saw i=>FY sg i d.1 d.2.1
 |.hrd k te=>De F k te d.1 d.2.1 && qS G te d.2.1
inductive EI(fv vs:List V)(H:Hp)(Q:VK):Prop
 |mk(s th hs wa:Addr)(ss:List V)(sg:List GD)(kvs:List (List Key×V))(kvh:List (Key×V))(F:F3)(G:FH)(d:RI)(e1:fv=[.ref s,.ref th,.ref hs])(e2:vs=[.str d.1,.int d.2.1,.ref wa])(h1:H s=some (.lst ss))(gs:Lz dA H ss sg)(sl:ss.length≤24)(h2:H th=some (.dT kvs))(g3:D3 kvs F)(h3:H hs=some (.dK kvh))(g1:∀z,dD kvh (Sum.inr z)=(G z).map V.int)(hw:tW H wa d.2.2)(k:∀H',cI H H'→Q (.bl (B6 sg F G d)) H')
def yv:Cp:=fun fv vs H Q=>EI fv vs H Q
def zI(sg:List GD)(qd:List QD)(rs:List RI):Bool:=lD (rs.map (·.1)) && rs.all (B6 sg (f3 qd) (hI rs))
abbrev jQ:Str:=yS "is_story" d5 "is_good"
abbrev gP:Pos:=CP dC
inductive Kh(C P0:Addr)(vs:List V)(H:Hp)(Q:VK):Prop
 |mk(x p s t y l:Addr)(ps:List Str)(ss ts ys us:List V)(sg:List GD)(qd:List QD)(rs:List RI)(e:vs=[.ref x,.ref l])(bk:Bk C H x p s t y ps ss ts ys)(sl:ss.length≤24)(tl:ts.length≤120)(gs:Lz dA H ss sg)(qs:Lz d3 H ts qd)(qk:∀d∈qd,mQ ps d)(hl:H l=some (.lst us))(lz:Lz eD H us rs)(rl:rs.length≤100)(tb:jN H P0 gP jQ)
   (k:∀H',jg P0 H H'→jN H' P0 gP jQ→Q (.bl (zI sg qd rs)) H')
def AR(C P0:Addr):Sp:=fun vs H Q _=>Kh C P0 vs H Q
theorem oo:cJ ["names"] ["names"] (cG gS):={}
theorem DI (D:Df K mg "are_rising" gS ["names"] f fd) (T:Txt K mg kw C):Gd P w K mg base 1 "are_rising" yq:=by
 refine aH D oo fun X H vs Q E hh h=>?_
 obtain⟨l,zs,rfl,hl,zl,k⟩:=h
 obtain⟨S0,_⟩:=hh.eE [0]
 have B_all:=hh.b T.b_all
 have B_len:=hh.b T.b_len
 have B_range:=hh.b T.b_range
 have hsz:sizeLine=16777216:=sizeLine_eq
 refine⟨_,(aj (au (aE B_all (bV hh.calm) L2.iz (ak (bw (is:=[0]) (xs:=["k"]) (ns:=["names"]) hh.calm (J.e9 B_range (ak (ah J.k6 (aE B_len aZ L2.cV (ak (aa S0))) ae))) {} (fun _ _ _ _ _=>(aX (i:=0) (by decide+kernel) rfl rfl)) (fun _ _ _ _ _=>bE) (fun _ _ _ _ _=>(aU J.kL (ag bO (a8 (i:=1) rfl rfl (by decide) (by decide)) (aI (i:=0) rfl rfl (by decide) (by decide)) bo) (ag bO (a8 (i:=1) rfl rfl (by decide) (by decide)) (ah a6 (aI (i:=0) rfl rfl (by decide) (by decide)) ae) bN) (L2.cK _))) hh.hsc hh.hN))))),?_⟩
 have ln:((((zs.map V.str).length:Nat):Int) - 1).toNat=zs.length - 1:=by
  rw[length_map]
  omega
 refine⟨_,rfl,l,_,rfl,.inl (cL.of hl),_,_,rfl,rfl,_,rfl,by rw[length_map];omega,by rw[length_map];omega,?_⟩
 rw[ln]
 refine xl (lo:=0) (N:=zs.length - 1) (fun _=>true) (fun i=>V.bl (ltAt zs i)) (by omega) ?_ ?_
 ·intro i os H2 K1 K2 hi hos s2 k1 k2
  match os,hos with
  |[o1],_=>
   obtain⟨a,ha⟩:∃a,zs[i]? =some a:=⟨_,getElem?_eq_getElem (by omega)⟩
   obtain⟨b,hb⟩:∃b,zs[i+1]? =some b:=⟨_,getElem?_eq_getElem (by omega)⟩
   have e1:um (zs.map V.str) (0+(i:Int))=some (.str a):=by
    rw[Int.zero_add]
    exact dv (by rw[getElem?_map,ha];rfl)
   have e2:um (zs.map V.str) (0+(i:Int)+1)=some (.str b):=by
    rw[Int.zero_add]
    exact dv (j:=i+1) (by rw[getElem?_map,hb];rfl)
   have e3:ltAt zs i=decide (a.cps.toList < b.cps.toList):=by
    unfold ltAt
    rw[ha,hb]
    rfl
   have k1':=k1 rfl H2 (cI.refl _)
   rw[e3]at k1'
   exact⟨⟨[some (.int (0+(i:Int)))],rfl,rfl⟩,d6 (B:=K2 H2) ⟨_,rfl,_,rfl,xL (s2 _ _ hl) e1 ⟨_,rfl,_,rfl,_,_,rfl,rfl,xL (s2 _ _ hl) e2 ⟨_,_,rfl,rfl,k1'⟩⟩⟩⟩
 ·intro D' H' hD' s' hd'
  rw[filter_eq_self.mpr (fun _ _=>rfl)]at hd'
  have e2:((List.range (zs.length - 1)).map fun i=>V.bl (ltAt zs i))=((List.range (zs.length - 1)).map (ltAt zs)).map V.bl:=by rw[map_map];rfl
  rw[e2]at hd'
  refine⟨D',_,rfl,cL.of hd',?_⟩
  have e3:((List.range (zs.length - 1)).map (ltAt zs)).all id=lD zs:=by
   unfold lD
   rw[all_map]
   rfl
  rw[e3]
  exact k H' s'
theorem nH:cJ ["sights", "i", "person", "hour"] ["sights", "i", "person", "hour"] (cG fY):={}
theorem EZ (D:Df K mg "is_sight_at" fY ["sights", "i", "person", "hour"] f fd) (T:Txt K mg kw C):Gd P w K mg base 1 "is_sight_at" Dq:=by
 refine aH D nH fun X H vs Q E hh h=>?_
 obtain⟨s,ss,sg,i,p,h,rfl,hs,gs,sl,k⟩:=h
 obtain⟨S0,S1,S2,S3,_⟩:=hh.eE [0,1,2,3]
 have B_len:=hh.b T.b_len
 refine⟨_,(aj (au (aT (J.fg bH bR ae (aa S1) (aE B_len aZ L2.cV (ak (aa S0))) L2.fu) (aT (aU aK (ag aw (ag a5 (aa S0) (aa S1) bo) ae ao) (aa S2) (L2.cK _)) (aY (aU aK (ag aw (ag a5 (aa S0) (aa S1) bo) ae ao) (aa S3) (L2.cK _))))))),?_⟩
 refine yd (decide (0≤i) && decide (i < sg.length)) _ (fun Q' q=>⟨_,rfl,_,_,rfl,rfl,_,rfl,dG (fun h0=>⟨_,rfl,s,_,rfl,.inl (cL.of hs),_,_,rfl,rfl,?_⟩) (fun h0=>?_)⟩) (fun hb=>?_) k
 ·rw[h0,Bool.true_and,←gs.1]at q
  exact q
 ·rw[eq_false_of_ne_true h0,Bool.false_and]at q
  exact q
 ·rw[and_eq_true]at hb
  have h0:=of_decide_eq_true hb.1
  have h1:=of_decide_eq_true hb.2
  obtain⟨n,rfl⟩:=Int.eq_ofNat_of_zero_le h0
  have hn:n < sg.length:=by omega
  obtain⟨d,hd⟩:∃d,sg[n]? =some d:=⟨_,getElem?_eq_getElem hn⟩
  obtain⟨v,hv⟩:∃v,ss[n]? =some v:=⟨_,getElem?_eq_getElem (by rw[gs.1];exact hn)⟩
  obtain⟨a,ta,rfl,ha⟩:=gs.2 _ _ _ hv hd
  intro Q' q
  rw[Int.toNat_natCast,hd]at q
  refine yd (decide (d.1=p)) (decide (d.2=h)) (fun Q' q=>⟨_,rfl,_,rfl,xL hs (dv hv) (xT ha rfl ⟨_,rfl,rfl,?_⟩)⟩) (fun _ Q' q=>⟨_,rfl,_,rfl,xL hs (dv hv) (xT ha rfl ⟨_,rfl,rfl,?_⟩)⟩) q
  ·rw[dS]
   exact q
  ·rw[dI]
   exact q
theorem nZ:cJ ["talk_hours", "telling", "hour"] ["talk_hours", "telling", "hour"] (cG gO):={}
theorem EV (D:Df K mg "is_told_at" gO ["talk_hours", "telling", "hour"] f fd):Gd P w K mg base 1 "is_told_at" DQ:=by
 refine aH D nZ fun X H vs Q E hh h=>?_
 obtain⟨d,a,kvs,F,k,te,p,h,rfl,hd,g,ha,q⟩:=h
 obtain⟨S0,S1,S2,_⟩:=hh.eE [0,1,2]
 have hu:=ft hh.room
 refine⟨_,(aj (au (aT (cC hu (aa S1) (aa S0)) (aY (aU aK (bB hu (aa S0) (aa S1) bo) (aa S2) (L2.cK _)))))),?_⟩
 have dg:=eC.t (k:=[Sum.inl k,Sum.inr te,Sum.inr p]) hd ha
 rw[g k te p]at dg
 unfold De at q
 cases hF:F k te p with
 |none=>
  rw[hF]at dg q
  exact⟨_,rfl,_,rfl,d,_,rfl,dg,_,rfl,gW Bool.false_ne_true q⟩
 |some j=>
  rw[hF]at dg q
  refine⟨_,rfl,_,rfl,d,_,rfl,dg,_,rfl,fD rfl ⟨_,rfl,_,rfl,d,_,rfl,dg,_,rfl,rfl,?_⟩⟩
  rw[dI]
  exact q
theorem rB:cJ ["story", "hours", "person", "hour", "way"] ["story"] (cG jz):={}
theorem E6 (D:Df K mg "hours_in" jz ["story"] f fd):Gd P w K mg base 1 "hours_in" A6:=by
 refine aH D rB fun X H vs Q E hh h=>?_
 obtain⟨l,us,st,rfl,hl,lz,nd,sl,k⟩:=h
 obtain⟨S0,S1,S2,S3,S4,_⟩:=hh.eE [0,1,2,3,4]
 have hu:=ft hh.room
 have hsz:sizeLine=16777216:=sizeLine_eq
 refine⟨_,(af (aB S1 hh.nd J.iI)
 (af (bq hh.own hh.calm (aV (aa S0)) (bC hh.calm (aG (aP S2 hh.nd) (aG (aP S3 hh.nd) (aG (aP S4 hh.nd) bh))))
 (aj (cz hu (aa S1) (aa S2) (aa S3))))
 (aj (au (aa S1))))),?_⟩
 intro kn nkn
 have s3:=cI.upd (o:=.dK []) nkn
 have hk3:upd H kn (.dK []) kn=some (.dK []):=cE
 generalize upd H kn (.dK [])=H3 at s3 hk3
 refine⟨_,rfl,l,rfl,⟨_,cL.of (s3 _ _ hl)⟩,el (K:=X.K) (a:=l) (xs:=us) (fun i σ H4=>∃e2 e3 e4:Option V,σ=[some (.ref l),some (.ref kn),e2,e3,e4]∧cI H H4∧H4 kn=some (.dK (zk (st.take i)))) ⟨none,none,none,rfl,s3,hk3⟩ ?_ ?_ ?_⟩
 ·rintro i σ H4 hi ⟨e2,e3,e4,rfl,s4,hk4⟩
  exact cL.of (s4 _ _ hl)
 ·rintro i v σ H4 hv ⟨e2,e3,e4,rfl,s4,hk4⟩
  obtain⟨d,hd,a,wa,rfl,ha,hw⟩:=lz.at hv
  have il:=(List.getElem?_eq_some_iff.mp hd).1
  have kl:(zk (st.take i)).length < sizeLine:=by
   unfold zk
   rw[length_map,length_take]
   omega
  refine⟨a,_,rfl,c8.of (s4 _ _ ha),rfl,_,_,rfl,_,_,rfl,_,_,rfl,rfl,?_⟩
  refine⟨_,rfl,_,rfl,_,rfl,kn,_,rfl,lF.k (k:=Sum.inr d.1) hk4 kl,_,_,_,rfl,fun b o e=>?_,?_⟩
  ·rw[cH (cF e nkn)]
   exact s4 _ _ e
  ·rw[cE,A5 nd hd]
 rintro σ H4 ⟨e2,e3,e4,rfl,s4,hk4⟩
 rw[lz.1,take_length]at hk4
 exact⟨_,rfl,k kn H4 s4 nkn hk4⟩
theorem iB:cJ ["book", "talks", "hours", "telling"] ["book"] (cG dX):={}
theorem Di (D:Df K mg "hours_of_tellings" dX ["book"] f fd) (T:Txt K mg kw C) (G_talks:Md P w K mg base 1 C "talks" (dw C fun _ _ t _=>t)) (G_tellings:Md P w K mg base 1 C "tellings" (gL C)):Gd P w K mg base 2 "hours_of_tellings" (yu C):=by
 refine aH D iB fun X H vs Q E hh h=>?_
 obtain⟨x,p,s,t,y,ps,ss,ts,ys,qd,rfl,bk,tl,qs,qk,k⟩:=h
 obtain⟨S0,S1,S2,S3,_⟩:=hh.eE [0,1,2,3]
 have M_talks:=hh.met G_talks (by decide)
 have M_tellings:=hh.met G_tellings (by decide)
 have hu:=ft hh.room
 have hsz:sizeLine=16777216:=sizeLine_eq
 obtain⟨⟨dx,hx⟩,hp,hs,ht,hy⟩:=id bk
 refine⟨_,(af (aB S1 hh.nd (bJ M_talks (aa S0) rfl))
 (af (aB S2 hh.nd J.FR)
 (af (bq hh.own hh.calm (aV (bJ M_tellings (aa S0) rfl)) (aP S3 hh.nd)
 (aj (cz hu (aa S2) (aa S3) (ag aw (ag a5 (aa S1) (ag aw (aa S3) ae ao) cy) ae ao))))
 (aj (au (aa S2)))))),?_⟩
 refine⟨_,rfl,x,dx,_,rfl,hx,fc _ _ _ _ (by decide+kernel) (by decide+kernel) (by decide+kernel) (by decide+kernel),x,p,s,t,y,ts,rfl,⟨dx,hx⟩,ht,fun tb htb=>?_⟩
 have s1:=cI.upd (o:=.lst ts) htb
 have htb1:upd H tb (.lst ts) tb=some (.lst ts):=cE
 generalize upd H tb (.lst ts)=H1 at s1 htb1
 intro d nd
 have s2:=cI.upd (o:=.dT []) nd
 have hd2:upd H1 d (.dT []) d=some (.dT []):=cE
 generalize upd H1 d (.dT [])=H2 at s2 hd2
 have s02:=s1.trans s2
 have hdH:H d=none:=s1.free nd
 refine⟨_,rfl,x,dx,_,rfl,s02 _ _ hx,fc _ _ _ _ (by decide+kernel) (by decide+kernel) (by decide+kernel) (by decide+kernel),x,p,s,t,y,ps,ss,ts,ys,gU qd,rfl,bk.mono s02,xm (qs.mono (d3.mono (Tk.of s02))),tl,fun l us H3 s3 ln hl tu=>?_⟩
 have s03:=s02.trans s3
 have s13:=s2.trans s3
 have ul:us.length≤240:=by
  have:=iJ (gU qd) 0
  have:=tu.1
  have:=(xm qs).1
  omega
 have mem:∀tk∈fB 0 (gU qd),∃q,qd[tk.1]? =some q∧tk.2.2∈ps:=fun tk hk=>xS qk hk
 have k:∀d kvs H',cI H H'→H d=none→H' d=some (.dT kvs)→D3 kvs (BC qd (fB 0 (gU qd)))→Q (.ref d) H':=k
 generalize fB 0 (gU qd)=ks at tu k mem
 refine⟨l,rfl,⟨_,cL.of hl⟩,el (K:=X.K) (a:=l) (xs:=us) (Fy x tb d H3 qd ks) ⟨none,[],rfl,fun b o e _=>e,s3 _ _ hd2,le_refl 0,C7 qd⟩ ?_ ?_ ?_⟩
 ·rintro i σ H4 hi ⟨e3,kvs,rfl,kp,hd,kl,sn⟩
  exact cL.of (kp _ _ hl (cF hd2 ln).symm)
 ·rintro i v σ H4 hv ⟨e3,kvs,rfl,kp,hd,kl,sn⟩
  have hil:=(List.getElem?_eq_some_iff.mp hv).1
  obtain⟨tk,htk⟩:∃tk,ks[i]? =some tk:=⟨_,getElem?_eq_getElem (by rw[←tu.1];exact hil)⟩
  obtain⟨a,rfl,ha⟩:=tu.2 _ _ _ hv htk
  obtain⟨q,hq,_⟩:=mem tk (mem_of_getElem? htk)
  obtain⟨vq,hvq⟩:∃vq,ts[tk.1]? =some vq:=⟨_,getElem?_eq_getElem (by rw[qs.1];exact(List.getElem?_eq_some_iff.mp hq).1)⟩
  obtain⟨aq,rfl,haq⟩:=qs.2 _ _ _ hvq hq
  have hd3:=s3 _ _ hd2
  have ha4:=kp _ _ ha (fun e=>by rw[e,hd3]at ha;cases ha)
  have haq4:=kp _ _ (s03 _ _ haq) (cF haq hdH)
  have htb4:=kp _ _ (s13 _ _ htb1) (cF htb1 nd)
  have lk:kvs.length < sizeLine:=by omega
  have eh:=gh hq
  refine⟨_,rfl,_,rfl,xT ha4 rfl (xL htb4 (dv hvq) (xT haq4 rfl ⟨_,rfl,_,rfl,d,_,rfl,lF.t (k:=GP tk) hd ha4 lk,_,_,rfl,(fun b o e n'=>by rw[cH n'];exact kp b o e n'),cE,le_trans (fF _ _ _) (by omega),CN sn htk eh⟩))⟩
 ·rintro σ H4 ⟨e3,kvs,rfl,kp,hd,kl,sn⟩
  rw[tu.1,take_length]at sn
  exact⟨_,rfl,k d kvs H4 (fun b o e=>kp _ _ (s03 _ _ e) (cF e hdH)) hdH hd sn⟩
theorem pY:l5 ["person", "hour", "way"] ["teller"] ["sights", "talk_hours", "hours"] (cG dC):=⟨rfl,rfl,rfl,by decide+kernel,by decide+kernel,by decide+kernel,by decide+kernel⟩
theorem zL (T:Txt K mg kw C) (G_is_sight_at:Gd P w K mg base 1 "is_sight_at" Dq) (G_is_told_at:Gd P w K mg base 1 "is_told_at" DQ):yw P w K mg base 1 "is_good" jQ (cW dC) (cN dC) (cG dC) ["person", "hour", "way"] ["teller"] ["sights", "talk_hours", "hours"] yv:=by
 refine J.zJ pY (fun fv vs H Q h=>?_) (fun cl doc pm c ctv us hl=>?_) (fun X H fv vs Q hh h=>?_)
 ·obtain⟨s,th,hs,wa,ss,sg,kvs,kvh,F,G,d,rfl,rfl,_⟩:=h
  exact⟨rfl,rfl⟩
 ·match us,hl with
  |[_,_,_],_=>rfl
 ·obtain⟨s,th,hs,wa,ss,sg,kvs,kvh,F,G,d,rfl,rfl,h1,gs,sl,h2,g3,h3,g1,hw,k⟩:=h
  have S0:=hh.sl 0 "person"
  have S1:=hh.sl 1 "hour"
  have S2:=hh.sl 2 "way"
  have S3:=hh.sl 3 "teller"
  have F4:∀{p:Pos},J.JE X (.Name "sights" p) (L2.dE 4):=hh.Gm 4 rfl rfl (by decide) (by decide)
  have F5:∀{p:Pos},J.JE X (.Name "talk_hours" p) (L2.dE 5):=hh.Gm 5 rfl rfl (by decide) (by decide)
  have F6:∀{p:Pos},J.JE X (.Name "hours" p) (L2.dE 6):=hh.Gm 6 rfl rfl (by decide) (by decide)
  have B_len:=hh.b T.b_len
  have C_is_sight_at:=hh.c G_is_sight_at
  have C_is_told_at:=hh.c G_is_told_at
  have hu:=ft hh.room
  refine⟨_,(af (aJ (bf (br (aF aK (ag aw (aa S2) ae ao) aN (L2.cK _)) (bu (aF aK (aE B_len aZ L2.cV (ak (aa S2))) ae (L2.cK _)))))
 (aj (au (av C_is_sight_at (bI F4 (ag aw (aa S2) ae ao) (aa S0) (aa S1)))))
 aM)
 (af (aJ (bf (bZ (aF cv (ag aw (aa S2) ae ao) aN (L2.cK _)) (cm (aF cv (aE B_len aZ L2.cV (ak (aa S2))) ae (L2.cK _)))))
 (aj (au bp))
 aM)
 (af (aB S3 hh.nd (ag aw (aa S2) ae ao))
 (aj (au (aT (av C_is_told_at (aQ F5 (aR (aQ (ag aw (aa S2) ae ao) (aa S3) (aa S0))) (aa S1))) (aT (cC hu (aa S3) F6) (aY (aU bR (bB hu F6 (aa S3) bo) (aa S1) (L2.cK _)))))))))),?_⟩
  obtain⟨z,h,w⟩:=d
  have es:fH [.str z,.int h,.ref wa] ["teller"] [.ref s,.ref th,.ref hs]=[some (.str z),some (.int h),some (.ref wa),none,some (.ref s),some (.ref th),some (.ref hs)]:=rfl
  rw[es]
  cases w with
  |saw i=>
   have hw:H wa=some (.tup [.str "saw",.int i]):=hw
   refine⟨_,rfl,xT hw rfl ⟨rfl,_,rfl,iP ⟨_,rfl,wa,_,rfl,.inr (c8.of hw),rfl,_,rfl,fD (decide_eq_true rfl) ?_⟩⟩⟩
   exact⟨_,rfl,_,rfl,xT hw rfl ⟨_,rfl,_,rfl,s,ss,sg,i,z,h,rfl,h1,gs,sl,k H (cI.refl _)⟩⟩
  |hrd kk te=>
   have hw:H wa=some (.tup [.str "heard",.int kk,.str te]):=hw
   refine⟨_,rfl,xT hw rfl ⟨rfl,_,rfl,iN (dt ?_)⟩⟩
   refine⟨_,rfl,xT hw rfl ⟨rfl,_,rfl,iN ⟨_,rfl,wa,_,rfl,.inr (c8.of hw),rfl,_,rfl,gW (by show ¬(!decide (V.int 3=V.int 3))=true;decide+kernel) ?_⟩⟩⟩
   refine⟨_,rfl,xT hw rfl ?_⟩
   refine⟨_,rfl,_,rfl,xT hw rfl ⟨_,rfl,_,rfl,n9,fun c hc=>?_⟩⟩
   have s2:=cI.upd (o:=.tup [.int kk,.str te,.str z]) hc
   have hc2:upd H c (.tup [.int kk,.str te,.str z]) c=some (.tup [.int kk,.str te,.str z]):=cE
   generalize upd H c (.tup [.int kk,.str te,.str z])=H2 at s2 hc2
   have k':Q (.bl (De F kk te z h && qS G te h)) H2:=k H2 s2
   refine⟨_,rfl,th,c,kvs,F,kk,te,z,h,rfl,s2 _ _ h2,g3,hc2,_,rfl,dG (fun hb=>?_) (fun hb=>?_)⟩
   ·rw[hb,Bool.true_and]at k'
    unfold qS at k'
    have dg:=eC.k (k:=Sum.inr te) (s2 _ _ h3)
    rw[g1 te]at dg
    cases hG:G te with
    |none=>
     rw[hG]at dg k'
     exact⟨_,rfl,_,rfl,hs,_,rfl,dg,_,rfl,gW Bool.false_ne_true k'⟩
    |some j=>
     rw[hG]at dg k'
     exact⟨_,rfl,_,rfl,hs,_,rfl,dg,_,rfl,fD rfl ⟨_,rfl,_,rfl,hs,_,rfl,dg,_,rfl,_,_,rfl,rfl,k'⟩⟩
   ·rw[eq_false_of_ne_true hb,Bool.false_and]at k'
    exact k'
theorem tD:cJ ["book", "some", "sights", "talk_hours", "hours", "is_good"] ["book", "some"] (cG d5):={}
theorem E9 {f c0 P0:Addr}{oc kV doc pm ct:Value}{od an:Option Addr}{osl:Array (Option Value)}(lk:K.lookup f=some ⟨oc,od,.func (fnOf "is_story" "is_story" (cW d5) (cN d5) (cG d5) .none kV doc pm an (.ref c0) ct),osl⟩) (hcd:codeIn K (.ref c0) "is_story" =true) (kp:keepIn K (.ref f)=true) (nm:mg "is_story" =some (.ref f)) (hC:codeHdIn K c0 P0=true) (hM:K.In base) (hb:jE mg base)
  (T:Txt K mg kw C) (GC_is_good:yw P w K mg base 1 "is_good" jQ (cW dC) (cN dC) (cG dC) ["person", "hour", "way"] ["teller"] ["sights", "talk_hours", "hours"] yv)
  (G_are_rising:Gd P w K mg base 1 "are_rising" yq) (G_sights:Md P w K mg base 1 C "sights" (dw C fun _ s _ _=>s)) (G_hours_of_tellings:Gd P w K mg base 2 "hours_of_tellings" (yu C)) (G_hours_in:Gd P w K mg base 1 "hours_in" A6):Gd P w K mg base 3 "is_story" (AR C P0):=by
 refine J.A9 (ps:=["book", "some"]) lk hcd kp nm (fun us hl=>?_) tD (fun vs H Q E h=>?_) (fun X H vs Q E hh hcode hq h=>?_)
 ·match us,hl with
  |[_,_],_=>rfl
 ·obtain⟨x,p,s,t,y,l,ps,ss,ts,ys,us,sg,qd,rs,rfl,_⟩:=h
  rfl
 ·obtain⟨x,p,s,t,y,l,ps,ss,ts,ys,us,sg,qd,rs,rfl,bk,sl,tl,gs,qs,qk,hl,lz,rl,tb,k⟩:=h
  obtain⟨S0,S1,S2,S3,S4,S5,_⟩:=hh.eE [0,1,2,3,4,5]
  have B_all:=hh.b T.b_all
  have C_are_rising:=hh.c G_are_rising
  have C_hours_in:=hh.c G_hours_in
  have C_hours_of_tellings:=hh.c G_hours_of_tellings
  have M_sights:=hh.met G_sights (by decide)
  have hsz:sizeLine=16777216:=sizeLine_eq
  have ul:=lz.1
  obtain⟨⟨dx,hx⟩,hp,hs,ht,hy⟩:=id bk
  refine⟨_,(af (aJ (ba (bj (av C_are_rising (ak (bw (is:=[]) (xs:=["entry"]) (ns:=[]) hh.calm (aV (aa S1)) {} (fun _ _ _ _ _=>(aX (i:=0) (by decide+kernel) rfl rfl)) (fun _ _ _ _ _=>bE) (fun _ _ _ _ _=>(ag a9 (aI (i:=0) rfl rfl (by decide) (by decide)) ae ao)) hh.hsc hh.hN)))))
 (aj (au bp))
 aM)
 (af (aB S2 hh.nd (bJ M_sights (aa S0) rfl))
 (af (aB S3 hh.nd (av C_hours_of_tellings (ak (aa S0))))
 (af (aB S4 hh.nd (av C_hours_in (ak (aa S1))))
 (af (J.Hw hh hcode (hq _) hC hM hb S5 rfl rfl rfl (by decide+kernel))
 (aj (au (aE B_all (bV hh.calm) L2.iz (ak (J.ID (sc:=L2.cG d5) (N:=["book", "some", "sights", "talk_hours", "hours", "is_good"]) (is:=[5]) (js:=[2,3,4]) (xs:=["person", "hour", "way"]) (ns:=["is_good"]) (i:=3) hh GC_is_good (by first|decide|exact le_refl _) (aV (aa S1)) {} (fun _ _ _ _ _=>(cn (n:=3) hh.calm (aG (aX (i:=0) (by decide+kernel) rfl rfl) (aG (aX (i:=1) (by decide+kernel) rfl rfl) (aG (aX (i:=2) (by decide+kernel) rfl rfl) bh))))) (fun _ _ _ _ _=>bE) (fun _ _ _ _ _=>(a8 (i:=3) rfl rfl (by decide) (by decide))) (fun _ _ _ _ _=>(aQ (aI (i:=0) rfl rfl (by decide) (by decide)) (aI (i:=1) rfl rfl (by decide) (by decide)) (aI (i:=2) rfl rfl (by decide) (by decide)))) (by decide+kernel) rfl)))))))))),?_⟩
  refine⟨_,rfl,l,rfl,⟨_,cL.of hl⟩,dM (xs:=us) (i9 rs fun _=>true) (uL rs fun d=>V.str d.1) (cL.of hl) (by omega) ?_ ?_⟩
  ·intro i os v H2 K1 K2 hv hos s2 k1 k2
   match os,hos with
   |[o1],_=>
    obtain⟨d,hd,a,wa,rfl,ha,hw⟩:=lz.at hv
    rw[dy hd]at k1
    rw[gM hd]at k1
    exact⟨⟨[some (.ref a)],rfl,rfl⟩,d6 (B:=K2 H2) ⟨_,rfl,xT (s2 _ _ ha) rfl (k1 rfl H2 (cI.refl _))⟩⟩
  intro o H1 no1 s1 ho
  rw[ul,dZ,filter_eq_self.mpr (fun _ _=>rfl)]at ho
  have ho:H1 o=some (.lst ((rs.map (·.1)).map V.str)):=by
   rw[ho,map_map]
   rfl
  refine⟨o,rs.map (·.1),rfl,ho,by rw[length_map];omega,fun H2 s2=>⟨_,rfl,dG (fun hr=>?_) (fun hr=>?_)⟩⟩
  ·have s02:=s1.trans s2
   have e:zI sg qd rs=false:=by
    unfold zI
    rw[(not_eq_true' _).mp hr]
    rfl
   have:=k H2 (.of s02) (tb.mono s02)
   rw[e]at this
   exact this
  have hr:lD (rs.map (·.1))=true:=by
   cases q:lD (rs.map (·.1)) with
   |true=>rfl
   |false=>rw[q]at hr;exact absurd rfl hr
  have s02:=s1.trans s2
  refine⟨_,rfl,x,dx,_,rfl,s02 _ _ hx,fc _ _ _ _ (by decide+kernel) (by decide+kernel) (by decide+kernel) (by decide+kernel),x,p,s,t,y,ss,rfl,⟨dx,s02 _ _ hx⟩,s02 _ _ hs,fun tS ntS=>?_⟩
  have s3:=cI.upd (o:=.lst ss) ntS
  have htS:upd H2 tS (.lst ss) tS=some (.lst ss):=cE
  generalize upd H2 tS (.lst ss)=H3 at s3 htS
  have s03:=s02.trans s3
  refine⟨_,rfl,x,p,s,t,y,ps,ss,ts,ys,qd,rfl,bk.mono s03,tl,qs.mono (d3.mono (Tk.of s03)),qk,fun th kvs H4 s4 nth hth g3=>?_⟩
  have s04:=s03.trans s4
  refine⟨_,rfl,l,us,rs,rfl,s04 _ _ hl,lz.mono (eD.mono (Tk.of s04)),uF hr,rl,fun dh H5 s5 ndh hdh=>?_⟩
  have s05:=s04.trans s5
  refine Ao (tb.mono s05) fun c q H6 sP tb6 nq nqP hq6 hc6=>?_
  have neP:∀{b:Addr}{o:HO},H5 b=some o→(∀ps,o≠.tbl ps)→H6 b=some o:=fun {b o} e n=>by
   refine sP b o (fun z=>?_) e
   obtain⟨ps',h1,_⟩:=tb.mono s05
   rw[z,h1]at e
   cases e
   exact n _ rfl
  have tk6:Tk H5 H6:=fun b xs e=>neP e (by intro _ z;cases z)
  have hl6:=neP (s05 _ _ hl) (by intro _ z;cases z)
  have htS6:=neP (s5 _ _ (s4 _ _ htS)) (by intro _ z;cases z)
  have hth6:=neP (s5 _ _ hth) (by intro _ z;cases z)
  have hdh6:=neP hdh (by intro _ z;cases z)
  have tk06:Tk H H6:=(Tk.of s05).trans tk6
  have lz6:=lz.mono (eD.mono tk06)
  have gs6:=gs.mono (dA.mono tk06)
  refine⟨_,rfl,l,rfl,⟨_,cL.of hl6⟩,dM (xs:=us) (i9 rs fun _=>true) (uL rs fun d=>V.bl (B6 sg (f3 qd) (hI rs) d)) (cL.of hl6) (by omega) ?_ ?_⟩
  ·intro i os v H7 K1 K2 hv hos s7 k1 k2
   match os,hos with
   |[o1,o2,o3],_=>
    obtain⟨d,hd,a,wa,rfl,ha,hw⟩:=lz6.at hv
    rw[dy hd]at k1
    rw[gM hd]at k1
    refine⟨a,_,rfl,c8.of (s7 _ _ ha),rfl,_,_,rfl,_,_,rfl,_,_,rfl,rfl,⟨[some (.str d.1),some (.int d.2.1),some (.ref wa)],rfl,rfl⟩,d6 (B:=K2 H7) ?_⟩
    exact⟨q,c,[.ref tS,.ref th,.ref dh],rfl,rfl,s7 _ _ hq6,_,rfl,_,rfl,_,rfl,s7 _ _ hq6,s7 _ _ hc6,tS,th,dh,wa,ss,sg,kvs,zk rs,f3 qd,hI rs,d,rfl,rfl,s7 _ _ htS6,gs6.mono (dA.mono (Tk.of s7)),sl,s7 _ _ hth6,g3,s7 _ _ hdh6,pP rs,s7 _ _ hw,fun H8 s8=>k1 rfl H8 s8⟩
  ·intro D' H7 hD' s7 hd'
   rw[ul,dZ,filter_eq_self.mpr (fun _ _=>rfl)]at hd'
   have e2:(rs.map fun d=>V.bl (B6 sg (f3 qd) (hI rs) d))=(rs.map (B6 sg (f3 qd) (hI rs))).map V.bl:=by rw[map_map];rfl
   rw[e2]at hd'
   refine⟨D',_,rfl,cL.of hd',?_⟩
   have e3:(rs.map (B6 sg (f3 qd) (hI rs))).all id=zI sg qd rs:=by
    unfold zI
    rw[hr,Bool.true_and,all_map]
    rfl
   rw[e3]
   exact k H7 (((jg.of s05).trans sP).trans (.of s7)) (tb6.mono s7)
theorem tW.mono{H H':Hp}(s:Tk H H'){wa:Addr}{w:WI}(h:tW H wa w):tW H' wa w:=s _ _ h
def zG(q:QD)(a b:Str):Bool:=(decide (a=q.2.1) && decide (b=q.2.2.1)) || (decide (q.2.2.2= "both") && (decide (a=q.2.2.1) && decide (b=q.2.1)))
theorem AJ(q:QD):zG q q.2.1 q.2.2.1=true:=by
 unfold zG
 rw[decide_eq_true rfl,decide_eq_true rfl]
 rfl
theorem Bb {q:QD}(h:q.2.2.2= "both"):zG q q.2.2.1 q.2.1=true:=by
 unfold zG
 rw[decide_eq_true h,decide_eq_true (rfl:q.2.2.1=q.2.2.1),decide_eq_true (rfl:q.2.1=q.2.1),Bool.true_and,Bool.true_and,Bool.or_true]
theorem l3(n:Nat)(a b:Str):∀(qd:List QD) (k:Nat),(n,a,b)∈fB k (gU qd)↔∃j q,qd[j]? =some q∧n=k+j∧zG q a b=true
 |[],k=>⟨fun h=>(by cases h),fun⟨j,q,h,_⟩=>by cases h⟩
 |q::r,k=>by
  have e:fB k (gU (q::r))=dB k q.2++fB (k+1) (gU r):=rfl
  rw[e,mem_append,l3 n a b r (k+1)]
  have one:(n,a,b)∈dB k q.2↔n=k∧zG q a b=true:=by
   unfold dB zG
   by_cases hb:q.2.2.2= "both"
   ·rw[if_pos hb,decide_eq_true hb,Bool.true_and,mem_cons,mem_singleton,Bool.or_eq_true,and_eq_true,and_eq_true,decide_eq_true_iff,decide_eq_true_iff,decide_eq_true_iff,decide_eq_true_iff]
    simp only[Prod.mk.injEq]
    constructor
    ·rintro(⟨h1,h2,h3⟩|⟨h1,h2,h3⟩)
     ·exact⟨h1,.inl ⟨h2,h3⟩⟩
     ·exact⟨h1,.inr ⟨h2,h3⟩⟩
    ·rintro⟨h1,⟨h2,h3⟩|⟨h2,h3⟩⟩
     ·exact .inl ⟨h1,h2,h3⟩
     ·exact .inr ⟨h1,h2,h3⟩
   ·rw[if_neg hb,decide_eq_false hb,Bool.false_and,Bool.or_false,mem_singleton,and_eq_true,decide_eq_true_iff,decide_eq_true_iff]
    simp only[Prod.mk.injEq]
  rw[one]
  constructor
  ·rintro(⟨h1,h2⟩|⟨j,q',h1,h2,h3⟩)
   ·exact⟨0,q,rfl,h1,h2⟩
   ·exact⟨j+1,q',h1,by omega,h3⟩
  ·rintro⟨j,q',h1,h2,h3⟩
   cases j with
   |zero=>
    cases h1
    exact .inl ⟨h2,h3⟩
   |succ j=>exact .inr ⟨j,q',h1,by omega,h3⟩
theorem B9{qd:List QD}{n:Nat}{q:QD}{a b:Str}{h:Int}(hq:qd[n]? =some q):De (f3 qd) (n:Int) a b h=(zG q a b && decide (q.1=h)):=by
 unfold De f3
 have e:=l3 n a b qd 0
 rw[Int.toNat_natCast]
 by_cases m:zG q a b=true
 ·rw[if_pos ⟨Int.natCast_nonneg n,e.mpr ⟨n,q,hq,by omega,m⟩⟩,m,gh hq]
  rfl
 ·rw[if_neg (fun z=>m (by
   obtain⟨j,q',h1,h2,h3⟩:=e.mp z.2
   have:j=n:=by omega
   rw[this,hq]at h1
   cases h1
   exact h3)),eq_false_of_ne_true m]
  rfl
def uf(sg:List GD)(qd:List QD)(i:Int)(z:Str):WI→Prop
 |.saw n=>0≤n∧sg[n.toNat]? =some (z,i)
 |.hrd k te=>0≤k∧∃q,qd[k.toNat]? =some q∧q.1=i∧zG q te z=true
def Cd(sg:List GD)(qd:List QD)(st:List RI):Prop:=∀d∈st,uf sg qd d.2.1 d.1 d.2.2∧∀k te,d.2.2=.hrd k te→qS (hI st) te d.2.1=true
theorem u7{st:List RI}{d:RI}(nd:(st.map (·.1)).Nodup)(m:d∈st):hI st d.1=some d.2.1:=by
 unfold hI
 cases h:st.find? fun x=>decide (x.1=d.1) with
 |none=>exact absurd (decide_eq_true rfl) (List.find?_eq_none.mp h d m)
 |some e=>
  have e1:e.1=d.1:=of_decide_eq_true (List.find?_some (p:=fun x:RI=>decide (x.1=d.1)) h)
  have me:=List.mem_of_find?_eq_some h
  obtain⟨i,hi⟩:=getElem?_of_mem me
  obtain⟨j,hj⟩:=getElem?_of_mem m
  have h1:(st.map (·.1))[i]? =some d.1:=by rw[getElem?_map,hi];exact congrArg some e1
  have h2:(st.map (·.1))[j]? =some d.1:=by rw[getElem?_map,hj];rfl
  have:=(List.getElem?_inj (List.getElem?_eq_some_iff.mp h1).1 nd).mp (h1.trans h2.symm)
  subst this
  rw[hi]at hj
  cases hj
  rfl
theorem vC{st:List RI}{d:RI}{te:Str}{h:Int}(e:qS (hI st) te h=true):qS (hI (st++[d])) te h=true:=by
 unfold qS hI at e ⊢
 rw[List.find?_append]
 cases q:st.find? fun x=>decide (x.1=te) with
 |none=>rw[q]at e;cases e
 |some x=>
  rw[q]at e
  exact e
theorem sN{sg:List GD}{qd:List QD}{st:List RI}{z:Str}{h:Int}{w:WI}(g:Cd sg qd st)(hk:uf sg qd h z w)(hg:∀k te,w=.hrd k te→qS (hI st) te h=true):Cd sg qd (st++[(z,h,w)]):=fun d hd=>by
 rcases mem_append.mp hd with hd|hd
 ·obtain⟨h1,h2⟩:=g d hd
  exact⟨h1,fun k te e=>vC (h2 k te e)⟩
 ·rw[mem_singleton.mp hd]
  exact⟨hk,fun k te e=>vC (hg k te e)⟩
theorem l9:∀{zs:List Str},zs.Nodup→PyProof.Rows.sortedS zs=true→zs.Pairwise fun a b=>Al a b=true
 |[],_,_=>.nil
 |x::r,nd,h=>by
  refine pairwise_cons.mpr ⟨fun y hy=>?_,l9 (nodup_cons.mp nd).2 (sX h)⟩
  have h1:=mP h y hy
  cases q:PySem.Spec.ltCps x.cps.toList y.cps.toList with
  |true=>
   rw[PyProof.Rows.ltCps_eq]at q
   exact q
  |false=>
   have e:x=y:=uR (wo q h1)
   exact absurd (e ▸ hy) (nodup_cons.mp nd).1
theorem y4{sg:List GD}{qd:List QD}{G:FH}{d:RI}(h:uf sg qd d.2.1 d.1 d.2.2)(hl:∀k te,d.2.2=.hrd k te→qS G te d.2.1=true):B6 sg (f3 qd) G d=true:=by
 obtain⟨z,i,w⟩:=d
 cases w with
 |saw n=>
  obtain⟨h0,h1⟩:=h
  have hn:=(List.getElem?_eq_some_iff.mp h1).1
  show FY sg n z i=true
  unfold FY
  rw[h1,decide_eq_true h0,decide_eq_true (show n < sg.length by omega)]
  show((true && true) && (decide (z=z) && decide (i=i)))=true
  rw[decide_eq_true (rfl:z=z),decide_eq_true (rfl:i=i)]
  rfl
 |hrd k te=>
  obtain⟨h0,q,h1,h2,h3⟩:=h
  obtain⟨n,rfl⟩:=Int.eq_ofNat_of_zero_le h0
  rw[Int.toNat_natCast]at h1
  show(De (f3 qd) (n:Int) te z i && qS G te i)=true
  rw[B9 h1,h3,decide_eq_true h2,hl _ te rfl]
  rfl
def DG(ps:List Str)(sg:List GD)(qd:List QD)(H:Hp)(v:V):Prop:=∃(a:Addr) (i j:Int) (z:Str) (q:Addr) (w:WI),v=.ref a∧H a=some (.tup [.int i,.int j,.str z,.ref q])∧cT i∧z∈ps∧tW H q w∧uf sg qd i z w
theorem DG.mono{ps:List Str}{sg:List GD}{qd:List QD}{H H':Hp}(s:Tk H H'){v:V}(h:DG ps sg qd H v):DG ps sg qd H' v:=by
 obtain⟨a,i,j,z,q,w,e,h1,h2,h3,h4,h5⟩:=h
 exact⟨a,i,j,z,q,w,e,s _ _ h1,h2,h3,h4.mono s,h5⟩
inductive Ka(vs:List V)(H:Hp)(Q:VK):Prop
 |mk(r p s t y:Addr)(c:Int)(ps:List Str)(ss ts:List V)(sg:List GD)(qd:List QD)(e:vs=[.ref r,.int c])(hr:H r=some (.lst [.ref p,.ref s,.ref t,.ref y]))(hs:H s=some (.lst ss))(ht:H t=some (.lst ts))(sl:ss.length≤24)(tl:ts.length≤120)(gs:Lz dA H ss sg)(gk:∀d∈sg,d.1∈ps∧cT d.2)(qs:Lz d3 H ts qd)(qk:∀d∈qd,mQ ps d)
   (k:∀l us H',cI H H'→H l=none→H' l=some (.lst us)→us.length≤264→(∀v∈us,DG ps sg qd H' v)→Q (.ref l) H')
def CM:Sp:=fun vs H Q _=>Ka vs H Q
inductive Il(r l:Addr)(c:Int)(ps:List Str)(sg:List GD)(qd:List QD)(n:Nat)(H:Hp)(σ:St)(H2:Hp):Prop
 |mk(us:List V)(e1 e2 e3 e4 e5 e6 e7 e8:Option V)(e:σ=[some (.ref r),some (.int c),some (.ref l),e1,e2,e3,e4,e5,e6,e7,e8])(s:cI H H2)(hl:H2 l=some (.lst us))(ul:us.length≤n)(g:∀v∈us,DG ps sg qd H2 v)
theorem pM{ps:List Str}{sg:List GD}{qd:List QD}{H H2 H3:Hp}{l c1 q:Addr}{us:List V}{i j:Int}{z:Str}{w:WI}(s:cI H H2)(nl:H l=none)(g:∀v∈us,DG ps sg qd H2 v)(s3:cI H2 H3)(hl3:H3 l=some (.lst us))(h1:H3 c1=some (.tup [.int i,.int j,.str z,.ref q]))(hi:cT i)(hz:z∈ps)(hw:tW H3 q w)(hk:uf sg qd i z w):
  cI H (upd H3 l (.lst (us++[.ref c1])))∧∀v∈us++[.ref c1],DG ps sg qd (upd H3 l (.lst (us++[.ref c1]))) v:=by
 have tk:Tk H3 (upd H3 l (.lst (us++[.ref c1]))):=Tk.upd hl3
 refine⟨fun b o e=>?_,fun v hv=>?_⟩
 ·rw[cH (cF e nl)]
  exact s3 _ _ (s _ _ e)
 ·rcases mem_append.mp hv with hv|hv
  ·exact(g v hv).mono ((Tk.of s3).trans tk)
  ·exact⟨c1,i,j,z,q,w,mem_singleton.mp hv,tk _ _ h1,hi,hz,hw.mono tk,hk⟩
theorem rE:cJ ["_law_parts", "_law_cell", "_law_events_here", "_law_number", "_law_sight", "_law_k", "_law_talk_here", "_law_hour_here", "_law_one", "_law_two", "_law_way"] ["_law_parts", "_law_cell"] (cG ju):={}
theorem Eb (D:Df K mg "_law_events" ju ["_law_parts", "_law_cell"] f fd) (T:Txt K mg kw C) (G__law_mix:Gd P w K mg base 1 "_law_mix" lj):Gd P w K mg base 2 "_law_events" CM:=by
 refine aH D rE fun X H vs Q E hh h=>?_
 obtain⟨r,p,s,t,y,c,ps,ss,ts,sg,qd,rfl,hr,hs,ht,sl,tl,gs,gk,qs,qk,k⟩:=h
 obtain⟨S0,S1,S2,S3,S4,S5,S6,S7,S8,S9,S10,_⟩:=hh.eE [0,1,2,3,4,5,6,7,8,9,10]
 have B_enumerate:=hh.b T.b_enumerate
 have B_sorted:=hh.b T.b_sorted
 have C__law_mix:=hh.c G__law_mix
 have hsz:sizeLine=16777216:=sizeLine_eq
 refine⟨_,(af (aB S2 hh.nd (bg bz))
 (af (bq hh.own hh.calm (bX B_enumerate (ak (ag a5 (aa S0) ae ao))) (bC hh.calm (aG (aP S3 hh.nd) (aG (aP S4 hh.nd) bh)))
 (aj (bL (bF plainAttrs_list PySem.F.slot_list_append PySem.F.type_list_append bK (aa S2) (ak (aR (bI (ag aw (aa S4) ae ao) (ah aO (av C__law_mix (aD (aa S1) (aa S3))) ae) (ag aw (aa S4) ae ao) (aR (aD aN (aa S3))))))))))
 (af (bq hh.own hh.calm (bX B_enumerate (ak (ag a5 (aa S0) ae ao))) (bC hh.calm (aG (aP S5 hh.nd) (aG (aP S6 hh.nd) bh)))
 (af (J.asg (aa S6) (bC hh.calm (aG (aP S7 hh.nd) (aG (aP S8 hh.nd) (aG (aP S9 hh.nd) (aG (aP S10 hh.nd) bh))))))
 (af (bL (bF plainAttrs_list PySem.F.slot_list_append PySem.F.type_list_append bK (aa S2) (ak (aR (bI (aa S7) (ah aO (av C__law_mix (aD (aa S1) (ah a6 ae (aa S5)))) ae) (aa S9) (aR (aQ aN (aa S5) (aa S8))))))))
 (aj (aJ (aF aK (aa S10) aN (L2.cK _))
 (aj (bL (bF plainAttrs_list PySem.F.slot_list_append PySem.F.type_list_append bK (aa S2) (ak (aR (bI (aa S7) (ah aO (av C__law_mix (aD (aa S1) (ah a6 ae (aa S5)))) ae) (aa S8) (aR (aQ aN (aa S5) (aa S9)))))))))
 aM)))))
 (aj (au (aE B_sorted (J.gE (L2.zi hh.room)) L2.iH (ak (aa S2)))))))),?_⟩
 refine⟨xG,fun l hl=>?_⟩
 have s1:=cI.upd (o:=.lst []) hl
 refine⟨_,rfl,xL (s1 _ _ hr) rfl ⟨s,rfl,⟨_,cL.of (s1 _ _ hs)⟩,hJ (K:=X.K) (a:=s) (xs:=ss) (fun i=>Il r l c ps sg qd i H)
  ⟨[],none,none,none,none,none,none,none,none,rfl,s1,cE,le_refl 0,fun v hv=>by cases hv⟩ ?_ ?_ ?_⟩⟩
 ·rintro i σ H2 ⟨us,e1,e2,e3,e4,e5,e6,e7,e8,rfl,s2,_⟩
  exact cL.of (s2 _ _ hs)
 ·rintro i v q σ H2 hv hq ⟨us,e1,e2,e3,e4,e5,e6,e7,e8,rfl,s2,hl2,ul,g2⟩
  have hi:i < ss.length:=(List.getElem?_eq_some_iff.mp hv).1
  obtain⟨d,hd,a,ta,rfl,ha⟩:=gs.at hv
  obtain⟨dp,dh⟩:=gk d (mem_of_getElem? hd)
  have s3:=cI.upd (o:=.tup [.int i,.ref a]) hq
  refine⟨q,_,rfl,c8.of cE,rfl,_,_,rfl,_,_,rfl,rfl,?_⟩
  generalize upd H2 q (.tup [.int i,.ref a])=H3 at s3
  have s03:=s2.trans s3
  have ha3:=s03 _ _ ha
  have hl3:=s3 _ _ hl2
  refine⟨_,rfl,.inl ⟨rfl,_,cL.of hl3⟩,_,rfl,xT ha3 rfl ⟨_,rfl,_,rfl,c,(i:Int),rfl,by omega,by omega,fun m m0 m1=>?_⟩⟩
  refine⟨_,_,rfl,rfl,(by show(0:Int) < 97;decide),_,rfl,xT ha3 rfl ⟨_,rfl,zD,fun q2 hq2=>⟨D0,fun c1 hc1=>?_⟩⟩⟩
  have s4:=cI.upd (o:=.tup [.str "saw",.int i]) hq2
  have s5:=cI.upd (o:=.tup [.int d.2,.int (m % 97),.str d.1,.ref q2]) hc1
  have hw:tW (upd (upd H3 q2 (.tup [.str "saw",.int i])) c1 (.tup [.int d.2,.int (m % 97),.str d.1,.ref q2])) q2 (.saw (i:Int)):=s5 _ _ cE
  have hl5:=s5 _ _ (s4 _ _ hl3)
  obtain⟨sz,gz⟩:=pM (w:=.saw (i:Int)) s2 hl g2 ((s3.trans s4).trans s5) hl5 cE dh dp hw ⟨Int.natCast_nonneg i,by rw[Int.toNat_natCast];exact hd⟩
  exact⟨l,us,.ref c1,rfl,rfl,hl5,by omega,_,_,_,_,_,_,_,_,_,rfl,sz,cE,by rw[length_append];show us.length+1≤i+1;omega,gz⟩
 ·rintro σ H2 ⟨us,e1,e2,e3,e4,e5,e6,e7,e8,rfl,s2,hl2,ul,g2⟩
  refine⟨_,rfl,xL (s2 _ _ hr) rfl ⟨t,rfl,⟨_,cL.of (s2 _ _ ht)⟩,hJ (K:=X.K) (a:=t) (xs:=ts) (fun i=>Il r l c ps sg qd (24+2 * i) H)
   ⟨us,_,_,_,_,_,_,_,_,rfl,s2,hl2,by omega,g2⟩ ?_ ?_ ?_⟩⟩
  ·rintro i σ H3 ⟨us,e1,e2,e3,e4,e5,e6,e7,e8,rfl,s3,_⟩
   exact cL.of (s3 _ _ ht)
  ·rintro i v q σ H3 hv hq ⟨us,e1,e2,e3,e4,e5,e6,e7,e8,rfl,s3,hl3,ul3,g3⟩
   have hi:i < ts.length:=(List.getElem?_eq_some_iff.mp hv).1
   obtain⟨d,hd,a,rfl,ha⟩:=qs.at hv
   have dk:=qk d (mem_of_getElem? hd)
   have s4:=cI.upd (o:=.tup [.int i,.ref a]) hq
   refine⟨q,_,rfl,c8.of cE,rfl,_,_,rfl,_,_,rfl,rfl,?_⟩
   generalize upd H3 q (.tup [.int i,.ref a])=H4 at s4
   have s04:=s3.trans s4
   have ha4:=s04 _ _ ha
   have hl4:=s4 _ _ hl3
   refine⟨_,rfl,a,_,rfl,c8.of ha4,rfl,_,_,rfl,_,_,rfl,_,_,rfl,_,_,rfl,rfl,?_⟩
   refine⟨_,rfl,.inl ⟨rfl,_,cL.of hl4⟩,_,rfl,_,rfl,_,rfl,_,_,rfl,rfl,c,30+(i:Int),rfl,by omega,by omega,fun m m0 m1=>?_⟩
   refine⟨_,_,rfl,rfl,(by show(0:Int) < 97;decide),_,rfl,_,rfl,_,rfl,n9,fun q2 hq2=>⟨D0,fun c1 hc1=>?_⟩⟩
   have s5:=cI.upd (o:=.tup [.str "heard",.int i,.str d.2.1]) hq2
   have s6:=cI.upd (o:=.tup [.int d.1,.int (m % 97),.str d.2.2.1,.ref q2]) hc1
   have hw:tW (upd (upd H4 q2 (.tup [.str "heard",.int i,.str d.2.1])) c1 (.tup [.int d.1,.int (m % 97),.str d.2.2.1,.ref q2])) q2 (.hrd (i:Int) d.2.1):=s6 _ _ cE
   have hl6:=s6 _ _ (s5 _ _ hl4)
   obtain⟨sz,gz⟩:=pM (w:=.hrd (i:Int) d.2.1) s3 hl g3 ((s4.trans s5).trans s6) hl6 cE dk.1 dk.2.2.1 hw ⟨Int.natCast_nonneg i,d,by rw[Int.toNat_natCast];exact hd,rfl,AJ d⟩
   refine⟨l,us,.ref c1,rfl,rfl,hl6,by omega,?_⟩
   generalize hX:upd (upd (upd H4 q2 (.tup [.str "heard",.int i,.str d.2.1])) c1 (.tup [.int d.1,.int (m % 97),.str d.2.2.1,.ref q2])) l (.lst (us++[.ref c1]))=H7 at sz gz
   have hl7:H7 l=some (.lst (us++[.ref c1])):=by rw[←hX];exact cE
   have ul7:(us++[V.ref c1]).length≤24+2 * i+1:=by rw[length_append];show us.length+1≤_;omega
   generalize us++[V.ref c1]=us7 at gz hl7 ul7
   clear hX s5 s6 hw hl6 hq2 hc1
   refine⟨_,rfl,rfl,_,rfl,dG (fun hb=>?_) (fun hb=>⟨us7,_,_,_,_,_,_,_,_,rfl,sz,hl7,by omega,gz⟩)⟩
   refine⟨_,rfl,.inl ⟨rfl,_,cL.of hl7⟩,_,rfl,_,rfl,_,rfl,_,_,rfl,rfl,c,90+(i:Int),rfl,by omega,by omega,fun m m0 m1=>?_⟩
   refine⟨_,_,rfl,rfl,(by show(0:Int) < 97;decide),_,rfl,_,rfl,_,rfl,n9,fun q2 hq2=>⟨D0,fun c1 hc1=>?_⟩⟩
   have s5:=cI.upd (o:=.tup [.str "heard",.int i,.str d.2.2.1]) hq2
   have s6:=cI.upd (o:=.tup [.int d.1,.int (m % 97),.str d.2.1,.ref q2]) hc1
   have hw:tW (upd (upd H7 q2 (.tup [.str "heard",.int i,.str d.2.2.1])) c1 (.tup [.int d.1,.int (m % 97),.str d.2.1,.ref q2])) q2 (.hrd (i:Int) d.2.2.1):=s6 _ _ cE
   have hl8:=s6 _ _ (s5 _ _ hl7)
   obtain⟨sy,gy⟩:=pM (w:=.hrd (i:Int) d.2.2.1) sz hl gz (s5.trans s6) hl8 cE dk.1 dk.2.1 hw ⟨Int.natCast_nonneg i,d,by rw[Int.toNat_natCast];exact hd,rfl,Bb (V.str.inj (of_decide_eq_true hb))⟩
   exact⟨l,us7,.ref c1,rfl,rfl,hl8,by omega,_,_,_,_,_,_,_,_,_,rfl,sy,cE,by rw[length_append];show us7.length+1≤_;omega,gy⟩
  ·rintro σ H3 ⟨us,e1,e2,e3,e4,e5,e6,e7,e8,rfl,s3,hl3,ul3,g3⟩
   obtain⟨as,rfl⟩:∃as:List Addr,us=as.map V.ref:=by
    clear hl3 ul3
    induction us with
    |nil=>exact⟨[],rfl⟩
    |cons u us ih=>
     obtain⟨as,rfl⟩:=ih fun v hv=>g3 v (.tail _ hv)
     obtain⟨a,i,j,z,q,w,rfl,_⟩:=g3 u (.head _)
     exact⟨a::as,rfl⟩
   rw[length_map]at ul3
   refine⟨_,rfl,l,as,rfl,cL.of hl3,fun a ma=>?_,fun l2 ys nl2 pm=>?_⟩
   ·obtain⟨a',i,j,z,q,w,e,h1,h2,h3,h4,_⟩:=g3 (.ref a) (mem_map_of_mem ma)
    cases e
    refine⟨i,j,z,q,c8.of h1,?_⟩
    cases w with
    |saw n=>exact .saw n (c8.of h4)
    |hrd n te=>exact .heard n te (c8.of h4)
   ·have s4:=cI.upd (o:=.lst (ys.map V.ref)) nl2
    refine k l2 _ _ (s3.trans s4) (s3.free nl2) cE (by rw[length_map,pm.length_eq];omega) fun v hv=>?_
    obtain⟨a,ma,rfl⟩:=mem_map.mp hv
    exact(g3 _ (mem_map_of_mem (pm.mem_iff.mp ma))).mono (Tk.of s4)
abbrev KA:=RI×Addr
def ke(ks:List KA):List (Key×V):=ks.map fun p=>(Sum.inr p.1.1,V.ref p.2)
def Dj(H:Hp)(ks:List KA):Prop:=∀p∈ks,∃w,H p.2=some (.tup [.int p.1.2.1,.ref w])∧tW H w p.1.2.2
theorem Dj.mono{H H':Hp}(s:Tk H H'){ks:List KA}(h:Dj H ks):Dj H' ks:=fun p hp=>by
 obtain⟨w,h1,h2⟩:=h p hp
 exact⟨w,s _ _ h1,h2.mono s⟩
theorem gI:∀(ks:List KA) (z:Str),(dD (ke ks) (Sum.inr z)=none∧∀p∈ks,p.1.1≠z)∨∃p∈ks,p.1.1=z∧dD (ke ks) (Sum.inr z)=some (.ref p.2)
 |[],z=>.inl ⟨rfl,fun p hp=>by cases hp⟩
 |p::ks,z=>by
  by_cases e:p.1.1=z
  ·refine .inr ⟨p,.head _,e,?_⟩
   unfold dD ke
   rw[map_cons,List.find?_cons_of_pos (by exact decide_eq_true (congrArg Sum.inr e))]
   rfl
  ·have e2:dD (ke (p::ks)) (Sum.inr z)=dD (ke ks) (Sum.inr z):=by
    unfold dD ke
    rw[map_cons,List.find?_cons_of_neg (by
     intro h
     exact e (Sum.inr.inj (of_decide_eq_true h)))]
   rw[e2]
   rcases gI ks z with ⟨h1,h2⟩|⟨p',m,h1,h2⟩
   ·exact .inl ⟨h1,fun p' hp'=>by
     rcases mem_cons.mp hp' with rfl|hp'
     ·exact e
     ·exact h2 p' hp'⟩
   ·exact .inr ⟨p',.tail _ m,h1,h2⟩
theorem uX{ks:List KA}{p:KA}(h:∀q∈ks,q.1.1≠p.1.1):putK (ke ks) (Sum.inr p.1.1) (.ref p.2)=ke (ks++[p]):=by
 have no:((ke ks).any fun kv=>decide (kv.1=Sum.inr p.1.1))=false:=by
  rw[any_eq_false]
  intro kv hkv e
  obtain⟨q,hq,rfl⟩:=mem_map.mp hkv
  exact h q hq (Sum.inr.inj (of_decide_eq_true e))
 unfold putK
 rw[no,if_neg Bool.false_ne_true]
 unfold ke
 rw[map_append]
 rfl
theorem vz{ks:List KA}{p:KA}{te:Str}{h:Int}(nd:(ks.map (·.1.1)).Nodup)(m:p∈ks)(e:p.1.1=te)(l:p.1.2.1 < h):qS (hI (ks.map (·.1))) te h=true:=by
 have:=u7 (st:=ks.map (·.1)) (d:=p.1) (by rw[map_map];exact nd) (mem_map_of_mem m)
 unfold qS
 rw[←e,this]
 exact decide_eq_true l
theorem oR{sg:List GD}{qd:List QD}{ks:List KA}{st:List RI}(gd:Cd sg qd (ks.map (·.1)))(nk:(ks.map (·.1.1)).Nodup)(pm:(st.map (·.1)).Perm (ks.map (·.1.1)))(nd:(st.map (·.1)).Nodup)(so:PyProof.Rows.sortedS (st.map (·.1))=true)(ho:∀d∈st,∃p∈ks,d=p.1):zI sg qd st=true:=by
 unfold zI
 rw[uV (l9 nd so),Bool.true_and,all_eq_true]
 intro d hd
 obtain⟨p,mp,rfl⟩:=ho d hd
 obtain⟨h1,h2⟩:=gd p.1 (mem_map_of_mem mp)
 refine y4 h1 fun k te e=>?_
 have h3:=h2 k te e
 unfold qS at h3
 cases hF:hI (ks.map (·.1)) te with
 |none=>rw[hF]at h3;cases h3
 |some j=>
  rw[hF]at h3
  obtain⟨d',md',e1,e2⟩:=yj hF
  obtain⟨p',mp',rfl⟩:=mem_map.mp md'
  obtain⟨d2,md2,e3⟩:=mem_map.mp (pm.mem_iff.mpr (mem_map.mpr ⟨p',mp',rfl⟩))
  obtain⟨p2,mp2,rfl⟩:=ho d2 md2
  have hh:=u7 nd md2
  have u1:=u7 (st:=ks.map (·.1)) (d:=p2.1) (by rw[map_map];exact nk) (mem_map_of_mem mp2)
  have e3:p2.1.1=p'.1.1:=e3
  rw[e3,e1,hF]at u1
  rw[e3,e1]at hh
  unfold qS
  rw[hh,←Option.some.inj u1]
  exact h3
inductive Jl(vs:List V)(H:Hp)(Q:VK):Prop
 |mk(r p s t y:Addr)(c:Int)(ps:List Str)(ss ts:List V)(sg:List GD)(qd:List QD)(e:vs=[.ref r,.int c])(hr:H r=some (.lst [.ref p,.ref s,.ref t,.ref y]))(hs:H s=some (.lst ss))(ht:H t=some (.lst ts))(sl:ss.length≤24)(tl:ts.length≤120)(gs:Lz dA H ss sg)(gk:∀d∈sg,d.1∈ps∧cT d.2)(qs:Lz d3 H ts qd)(qk:∀d∈qd,mQ ps d)(pl:ps.length≤24)
   (k:∀l us st H',cI H H'→H l=none→H' l=some (.lst us)→Lz eD H' us st→st.length≤24→zI sg qd st=true→(st.map (·.1)).Nodup→(∀d∈st,uf sg qd d.2.1 d.1 d.2.2∧0≤d.2.1)→Q (.ref l) H')
def CO:Sp:=fun vs H Q _=>Jl vs H Q
inductive HX(r kn:Addr)(c:Int)(ps:List Str)(sg:List GD)(qd:List QD)(H:Hp)(i:Nat)(σ:St)(H2:Hp):Prop
 |mk(ks:List KA)(e1 e2 e3 e4 e5:Option V)(e:σ=[some (.ref r),some (.int c),some (.ref kn),some (.int i),e1,e2,e3,e4,e5])(s:cI H H2)(hk:H2 kn=some (.dK (ke ks)))(ka:Dj H2 ks)(nd:(ks.map (·.1.1)).Nodup)(g:∀p∈ks,p.1.1∈ps∧cT p.1.2.1)(gd:Cd sg qd (ks.map (·.1)))
theorem pL{H:Hp}{O:RI→Prop}:∀(ys:List V) (zs:List Str),ys.length=zs.length→(∀(j:Nat) v z,ys[j]? =some v→zs[j]? =some z→∃d:RI,d.1=z∧O d∧eD H v d)→∃st:List RI,st.map (·.1)=zs∧Lz eD H ys st∧∀d∈st,O d
 |[],[],_,_=>⟨[],rfl,⟨rfl,fun i v d h=>by cases h⟩,fun d hd=>by cases hd⟩
 |[],_::_,h,_=>by cases h
 |_::_,[],h,_=>by cases h
 |v::ys,z::zs,h,k=>by
  obtain⟨st,e,lz,ho⟩:=pL ys zs (Nat.succ.inj h) fun j v z h1 h2=>k (j+1) v z h1 h2
  obtain⟨d,e1,h1,h2⟩:=k 0 v z rfl rfl
  refine⟨d::st,by rw[map_cons,e1,e],⟨congrArg Nat.succ lz.1,fun i u d' hu hd=>?_⟩,fun d' hd=>?_⟩
  ·cases i with
   |zero=>
    cases hu
    cases hd
    exact h2
   |succ i=>exact lz.2 i u d' hu hd
  ·rcases mem_cons.mp hd with rfl|hd
   ·exact h1
   ·exact ho d' hd
theorem sG{r kn wa:Addr}{c h j:Int}{ps:List Str}{sg:List GD}{qd:List QD}{H H3:Hp}{i:Nat}{z:Str}{w:WI}{gb:Bool}{ks:List KA}{D:Ends}(il:i < 264)(nkn:H kn=none)(s3:cI H H3)(hk3:H3 kn=some (.dK (ke ks)))(ka:Dj H3 ks)(nd:(ks.map (·.1.1)).Nodup)(g3:∀p∈ks,p.1.1∈ps∧cT p.1.2.1)(pl:ps.length≤24)(hi:cT h)(hz:z∈ps)(hw:tW H3 wa w)(gd:Cd sg qd (ks.map (·.1)))(hk:uf sg qd h z w)(hg:gb=true→∀k te,w=.hrd k te→qS (hI (ks.map (·.1))) te h=true)
  (hD:∀σ H4,HX r kn c ps sg qd H (i+1) σ H4→(∀b o,H3 b=some o→b≠kn→H4 b=some o)→D.nx σ H4):
  xU (xh (tB (dE 8)) (xh (tB (iX (dE 6) (dE 2))) (oG (uZ (tI fun i j=>V.bl (decide (j < i))) (uZ (rI (fun _ j=>0 < j) fun i j=>V.int (i % j)) (mW lj [] E0 (da (dE 1) (da (uZ (tI fun i j=>V.int (i+j)) (tC (V.int 150)) (dE 3)) jl))) (tC (V.int 4))) (tC (V.int 0))))))
   (u6 (dE 2) (dE 6) (Bc (da (dE 4) (da (dE 7) jl)))) sR D [some (.ref r),some (.int c),some (.ref kn),some (.int ((i:Int)+1)),some (.int h),some (.int j),some (.str z),some (.ref wa),some (.bl gb)] H3:=by
 have hsz:sizeLine=16777216:=sizeLine_eq
 have kl:(ke ks).length < sizeLine:=by
  have:=gZ nd (ps:=ps) fun z hz=>by
   obtain⟨p,hp,rfl⟩:=mem_map.mp hz
   exact(g3 p hp).1
  unfold ke
  rw[length_map]at this ⊢
  omega
 have same:D.nx [some (.ref r),some (.int c),some (.ref kn),some (.int ((i:Int)+1)),some (.int h),some (.int j),some (.str z),some (.ref wa),some (.bl gb)] H3:=hD _ _ ⟨ks,_,_,_,_,_,rfl,s3,hk3,ka,nd,g3,gd⟩ fun b o e _=>e
 have dg:=eC.k (k:=Sum.inr z) hk3
 refine⟨_,rfl,_,rfl,dG (fun hb=>?_) (fun hb=>dt same)⟩
 rcases gI ks z with ⟨e1,no⟩|⟨p,mp,e1,e2⟩
 ·rw[e1]at dg
  refine⟨_,rfl,_,rfl,kn,_,rfl,dg,_,rfl,d6 ⟨_,rfl,_,rfl,_,_,rfl,rfl,c,150+((i:Int)+1),rfl,by omega,by omega,fun m m0 m1=>⟨_,_,rfl,rfl,(by show(0:Int) < 4;decide),_,_,rfl,rfl,_,rfl,dG (fun hm=>?_) (fun hm=>same)⟩⟩⟩
  refine⟨_,rfl,_,rfl,zD,fun c1 hc1=>?_⟩
  have s4:=cI.upd (o:=.tup [.int h,.ref wa]) hc1
  have h1:upd H3 c1 (.tup [.int h,.ref wa]) c1=some (.tup [.int h,.ref wa]):=cE
  generalize upd H3 c1 (.tup [.int h,.ref wa])=H4 at s4 h1
  refine⟨_,rfl,_,rfl,kn,_,rfl,lF.k (k:=Sum.inr z) (s4 _ _ hk3) kl,?_⟩
  have tk:Tk H4 (upd H4 kn (.dK (putK (ke ks) (Sum.inr z) (.ref c1)))):=fun b xs e=>by
   rw[cH (eW e (s4 _ _ hk3) (by intro z;cases z))]
   exact e
  have pe:putK (ke ks) (Sum.inr z) (.ref c1)=ke (ks++[((z,h,w),c1)]):=uX (p:=((z,h,w),c1)) no
  rw[pe]at tk ⊢
  refine hD _ _ ⟨ks++[((z,h,w),c1)],_,_,_,_,_,rfl,fun b o e=>?_,cE,fun p hp=>?_,?_,fun p hp=>?_,by rw[map_append];exact sN gd hk (hg hb)⟩ fun b o e n=>?_
  ·rw[cH (cF e nkn)]
   exact s4 _ _ (s3 _ _ e)
  ·rcases mem_append.mp hp with hp|hp
   ·exact(ka.mono ((Tk.of s4).trans tk)) p hp
   ·rw[mem_singleton.mp hp]
    exact⟨wa,tk _ _ h1,hw.mono ((Tk.of s4).trans tk)⟩
  ·rw[map_append]
   refine nodup_append.mpr ⟨nd,pairwise_singleton _ _,fun a ha b hb e=>?_⟩
   obtain⟨p,hp,rfl⟩:=mem_map.mp ha
   exact no p hp (e.trans (mem_singleton.mp hb))
  ·rcases mem_append.mp hp with hp|hp
   ·exact g3 p hp
   ·rw[mem_singleton.mp hp]
    exact⟨hz,hi⟩
  ·rw[cH n]
   exact s4 _ _ e
 ·rw[e2]at dg
  exact⟨_,rfl,_,rfl,kn,_,rfl,dg,_,rfl,dt same⟩
theorem uu:cJ ["_law_parts", "_law_cell", "_law_known", "_law_turn", "_law_hour_here", "_law_mixed", "_law_person", "_law_way", "_law_good"] ["_law_parts", "_law_cell"] (cG kF):={}
theorem Fu (D:Df K mg "_law_story" kF ["_law_parts", "_law_cell"] f fd) (T:Txt K mg kw C) (G__law_mix:Gd P w K mg base 1 "_law_mix" lj) (G__law_events:Gd P w K mg base 2 "_law_events" CM):Gd P w K mg base 3 "_law_story" CO:=by
 refine aH D uu fun X H vs Q E hh h=>?_
 obtain⟨r,p,s,t,y,c,ps,ss,ts,sg,qd,rfl,hr,hs,ht,sl,tl,gs,gk,qs,qk,pl,k⟩:=h
 obtain⟨S0,S1,S2,S3,S4,S5,S6,S7,S8,_⟩:=hh.eE [0,1,2,3,4,5,6,7,8]
 have B_sorted:=hh.b T.b_sorted
 have C__law_events:=hh.c G__law_events
 have C__law_mix:=hh.c G__law_mix
 have hu:=ft hh.room
 have hsz:sizeLine=16777216:=sizeLine_eq
 refine⟨_,(af (aB S2 hh.nd J.iI)
 (af (aB S3 hh.nd ae)
 (af (bq hh.own hh.calm (aV (av C__law_events (aD (aa S0) (aa S1)))) (bC hh.calm (aG (aP S4 hh.nd) (aG (aP S5 hh.nd) (aG (aP S6 hh.nd) (aG (aP S7 hh.nd) bh)))))
 (af (aB S3 hh.nd (ah a6 (aa S3) ae))
 (af (aB S8 hh.nd (aU aK (ag aw (aa S7) ae ao) aN (L2.cK _)))
 (af (aJ (aF aK (ag aw (aa S7) ae ao) aN (L2.cK _))
 (aj (aB S8 hh.nd (aT (cC hu (ag aw (aa S7) ae ao) (aa S2)) (aY (aU bR (ag aw (bB hu (aa S2) (ag aw (aa S7) ae ao) cy) ae ao) (aa S4) (L2.cK _))))))
 aM)
 (aj (aJ (bf (br (J.p9 (aa S8)) (br (J.oX hu (aa S6) (aa S2)) (bu (aF cf (ah aO (av C__law_mix (aD (aa S1) (ah a6 ae (aa S3)))) ae) ae (L2.cK _))))))
 (aj (cz hu (aa S2) (aa S6) (aR (aD (aa S4) (aa S7)))))
 aM))))))
 (aj (au (bw (is:=[2]) (xs:=["_law_person"]) (ns:=["_law_known"]) hh.calm (aV (aE B_sorted (J.eZ hh.calm) L2.iH (ak (aa S2)))) {} (fun _ _ _ _ _=>(aX (i:=0) (by decide+kernel) rfl rfl)) (fun _ _ _ _ _=>bE) (fun _ _ _ _ _=>(aR (aQ (aI (i:=0) rfl rfl (by decide) (by decide)) (ag a9 (bB hu (a8 (i:=1) rfl rfl (by decide) (by decide)) (aI (i:=0) rfl rfl (by decide) (by decide)) bo) ae ao) (ag a9 (bB hu (a8 (i:=1) rfl rfl (by decide) (by decide)) (aI (i:=0) rfl rfl (by decide) (by decide)) bo) ae ao)))) hh.hsc hh.hN)))))),?_⟩
 refine fun kn nkn=>?_
 have s1:=cI.upd (o:=.dK []) nkn
 have hk1:upd H kn (.dK []) kn=some (.dK []):=cE
 generalize upd H kn (.dK [])=H1 at s1 hk1
 refine⟨_,rfl,_,rfl,r,p,s,t,y,c,ps,ss,ts,sg,qd,rfl,s1 _ _ hr,s1 _ _ hs,s1 _ _ ht,sl,tl,gs.mono (dA.mono (Tk.of s1)),gk,qs.mono (d3.mono (Tk.of s1)),qk,fun l us H2 s2 nl hl ul g2=>?_⟩
 have s02:=s1.trans s2
 refine⟨l,rfl,⟨_,cL.of hl⟩,el (K:=X.K) (a:=l) (xs:=us) (fun i σ H3=>HX r kn c ps sg qd H i σ H3∧(∀b xs,H2 b=some (.tup xs)→H3 b=some (.tup xs))∧H3 l=some (.lst us)) ⟨⟨[],none,none,none,none,none,rfl,s02,s2 _ _ hk1,(fun p hp=>nomatch hp),nodup_nil,(fun p hp=>nomatch hp),(fun p hp=>nomatch hp)⟩,(fun b xs h=>h),hl⟩ ?_ ?_ ?_⟩
 ·rintro i σ H3 hi ⟨_,_,hl3⟩
  exact cL.of hl3
 ·rintro i v σ H3 hv ⟨⟨ks,e1,e2,e3,e4,e5,rfl,s3,hk3,ka,nd,g3,gd⟩,tk3,hl3⟩
  have hi:i < us.length:=(List.getElem?_eq_some_iff.mp hv).1
  obtain⟨a,h,j,z,wa,w,rfl,ha,hh',hz,hw,hk⟩:=(g2 v (mem_of_getElem? hv)).mono tk3
  refine⟨a,_,rfl,c8.of ha,rfl,_,_,rfl,_,_,rfl,_,_,rfl,_,_,rfl,rfl,?_⟩
  refine⟨_,rfl,_,_,rfl,rfl,?_⟩
  cases w with
  |saw i'=>
   refine⟨_,rfl,xT hw rfl ⟨rfl,?_⟩⟩
   dsimp only
   refine vi (fun σ' H'=>∃gb:Bool,σ'=[some (.ref r),some (.int c),some (.ref kn),some (.int ((i:Int)+1)),some (.int h),some (.int j),some (.str z),some (.ref wa),some (.bl gb)]∧H'=H3) ?_ (decide (V.str "saw" =V.str "heard")) (fun Q q=>⟨_,rfl,xT hw rfl ⟨rfl,_,rfl,q⟩⟩) (fun h=>absurd h (by decide+kernel)) (fun _=>⟨_,rfl,rfl⟩)
   rintro σ' H' ⟨gb,rfl,rfl⟩
   exact sG (by omega) nkn s3 hk3 ka nd g3 pl hh' hz hw gd hk (fun _ _ _ e=>by cases e) fun σ H4 st kp=>⟨st,fun b xs e=>kp _ _ (tk3 _ _ e) (eW (tk3 _ _ e) hk3 (by intro z;cases z)),kp _ _ hl3 (eW hl3 hk3 (by intro z;cases z))⟩
  |hrd kk te=>
   refine⟨_,rfl,xT hw rfl ⟨rfl,?_⟩⟩
   dsimp only
   refine vi (fun σ' H'=>∃gb:Bool,σ'=[some (.ref r),some (.int c),some (.ref kn),some (.int ((i:Int)+1)),some (.int h),some (.int j),some (.str z),some (.ref wa),some (.bl gb)]∧H'=H3∧(gb=true→qS (hI (ks.map (·.1))) te h=true)) ?_ (decide (V.str "heard" =V.str "heard")) (fun Q q=>⟨_,rfl,xT hw rfl ⟨rfl,_,rfl,q⟩⟩) (fun _ hR=>?_) (fun h=>absurd h (by decide+kernel))
   ·rintro σ' H' ⟨gb,rfl,rfl,hgb⟩
    exact sG (by omega) nkn s3 hk3 ka nd g3 pl hh' hz hw gd hk (fun h _ _ e=>by cases e;exact hgb h) fun σ H4 st kp=>⟨st,fun b xs e=>kp _ _ (tk3 _ _ e) (eW (tk3 _ _ e) hk3 (by intro z;cases z)),kp _ _ hl3 (eW hl3 hk3 (by intro z;cases z))⟩
   ·have dg:=eC.k (k:=Sum.inr te) hk3
    rcases gI ks te with ⟨e1,no⟩|⟨p,mp,e1,e2⟩
    ·rw[e1]at dg
     exact⟨_,rfl,xT hw rfl ⟨_,rfl,kn,_,rfl,dg,_,rfl,dt (hR _ _ ⟨_,rfl,rfl,fun h=>by cases h⟩)⟩⟩
    ·rw[e2]at dg
     obtain⟨w2,hp2,_⟩:=ka p mp
     exact⟨_,rfl,xT hw rfl ⟨_,rfl,kn,_,rfl,dg,_,rfl,d6 ⟨_,rfl,_,rfl,xT hw rfl ⟨kn,_,rfl,dg,xT hp2 rfl ⟨_,rfl,_,_,rfl,rfl,hR _ _ ⟨_,rfl,rfl,fun h=>vz nd mp e1 (of_decide_eq_true h)⟩⟩⟩⟩⟩⟩
 ·rintro σ H3 ⟨⟨ks,e1,e2,e3,e4,e5,rfl,s3,hk3,ka,nd,g3,gd⟩,tk3,hl3⟩
  have kl:ks.length≤24:=by
   have:=gZ nd (ps:=ps) fun z hz=>by
    obtain⟨p,hp,rfl⟩:=mem_map.mp hz
    exact(g3 p hp).1
   rw[length_map]at this
   omega
  refine⟨_,rfl,kn,ke ks,ks.map (·.1.1),rfl,hk3,(by unfold ke;rw[map_map,map_map];rfl),(by rw[length_map];omega),fun l2 zs nl2 znd pm srt=>?_⟩
  have s4:=cI.upd (o:=.lst (zs.map V.str)) nl2
  have hl4:upd H3 l2 (.lst (zs.map V.str)) l2=some (.lst (zs.map V.str)):=cE
  generalize upd H3 l2 (.lst (zs.map V.str))=H4 at s4 hl4
  have zl:zs.length=ks.length:=by rw[pm.length_eq,length_map]
  refine⟨l2,rfl,⟨_,cL.of hl4⟩,jF (fun j H v=>∃z,zs[j]? =some z∧∃p∈ks,p.1.1=z∧eD H v p.1) (fun _ v _ _ tk ⟨z,e,p,m,e2,h⟩=>⟨z,e,p,m,e2,eD.mono tk v _ h⟩) (cL.of hl4) (by rw[length_map];omega) ?_ ?_⟩
  ·intro j v H5 K1 hv s5 k1
   rw[getElem?_map]at hv
   obtain⟨z,hz,rfl⟩:=map_eq_some_iff.mp hv
   have hk5:=s5 _ _ (s4 _ _ hk3)
   have dg:=eC.k (k:=Sum.inr z) hk5
   rcases gI ks z with ⟨e1,no⟩|⟨p,mp,e1,e2⟩
   ·exfalso
    obtain⟨p,hp,e⟩:=mem_map.mp (pm.mem_iff.mp (mem_of_getElem? hz))
    exact no p hp e
   ·rw[e2]at dg
    obtain⟨w2,hp2,hw2⟩:=(ka.mono (Tk.of (s4.trans s5))) p mp
    refine⟨_,rfl,_,rfl,_,rfl,kn,_,rfl,dg,xT hp2 rfl ⟨_,rfl,_,rfl,kn,_,rfl,dg,xT hp2 rfl ⟨n9,fun c1 hc1=>?_⟩⟩⟩
    have s6:=cI.upd (o:=.tup [.str z,.int p.1.2.1,.ref w2]) hc1
    refine k1 _ _ s6 ⟨z,hz,p,mp,e1,c1,w2,rfl,?_,hw2.mono (Tk.of s6)⟩
    rw[e1]
    exact cE
  ·intro D' ys H' hD' s' hd' yl hy
   rw[length_map]at yl
   obtain⟨st,e1,lz,ho⟩:=pL (H:=H') (O:=fun d=>∃p∈ks,d=p.1) ys zs (by rw[yl]) fun j v z hv hz=>by
    obtain⟨z',hz',p,mp,e2,en⟩:=hy j v hv
    rw[hz]at hz'
    cases hz'
    exact⟨p.1,e2,⟨p,mp,rfl⟩,en⟩
   refine k D' ys st H' ((s3.trans s4).trans s') ((s3.trans s4).free hD') hd' lz (by rw[←lz.1];omega) (oR gd nd (by rw[e1];exact pm) (by rw[e1];exact pm.nodup_iff.mpr znd) (by rw[e1];exact srt) ho) (by rw[e1];exact pm.nodup_iff.mpr znd) fun d hd=>?_
   obtain⟨p,mp,rfl⟩:=ho d hd
   exact⟨(gd p.1 (mem_map_of_mem mp)).1,(g3 p mp).2.1⟩
def DS(F:FH)(q:Str)(o:Option Int):Bool:=match F q with
 |none=>true
 |some i=>match o with
  |none=>false
  |some j=>decide (i > j)
inductive Jd(vs:List V)(H:Hp)(Q:VK):Prop
 |mk(d:Addr)(q:Str)(o:Option Int)(kvs:List (Key×V))(F:FH)(e:vs=[.ref d,.str q,oV o])(hd:H d=some (.dK kvs))(get:∀z,dD kvs (Sum.inr z)=(F z).map V.int)(k:Q (.bl (DS F q o)) H)
def Dc:Sp:=fun vs H Q _=>Jd vs H Q
def vE(q:Str)(d:RI):Bool:=match d.2.2 with
 |.saw _=>false
 |.hrd _ te=>decide (te=q)
def Af(p:Str)(d:RI):Bool:=decide (d.1=p) && (match d.2.2 with|.saw _=>false|.hrd _ _=>true)
theorem vL{H:Hp}:∀{us:List V}{st:List RI},Lz eD H us st→∃ws:List (Addr×RI),ws.map (·.2)=st∧∀(i:Nat) v pr,us[i]? =some v→ws[i]? =some pr→∃a,v=.ref a∧H a=some (.tup [.str pr.2.1,.int pr.2.2.1,.ref pr.1])∧tW H pr.1 pr.2.2.2
 |[],[],_=>⟨[],rfl,fun i v pr h=>by cases h⟩
 |[],_::_,lz=>by cases lz.1
 |_::_,[],lz=>by cases lz.1
 |u::us,d::st,lz=>by
  obtain⟨a,wa,rfl,ha,hw⟩:=lz.2 0 u d rfl rfl
  obtain⟨ws,e,h⟩:=vL (us:=us) (st:=st) ⟨Nat.succ.inj lz.1,fun i v d h1 h2=>lz.2 (i+1) v d h1 h2⟩
  refine⟨(wa,d)::ws,by rw[map_cons,e],fun i v pr h1 h2=>?_⟩
  cases i with
  |zero=>
   cases h1
   cases h2
   exact⟨a,rfl,ha,hw⟩
  |succ j=>exact h j v pr h1 h2
theorem lH:cJ ["hours", "person", "hour"] ["hours", "person", "hour"] (cG fw):={}
theorem EH (D:Df K mg "fits_unheard" fw ["hours", "person", "hour"] f fd):Gd P w K mg base 1 "fits_unheard" Dc:=by
 refine aH D lH fun X H vs Q E hh h=>?_
 obtain⟨d,q,o,kvs,F,rfl,hd,get,k⟩:=h
 obtain⟨S0,S1,S2,_⟩:=hh.eE [0,1,2]
 have hu:=ft hh.room
 refine⟨_,(aj (au (J.o9 (J.kO hu (aa S1) (aa S0)) (aY (aT (aU J.lV (aa S2) cj (L2.cK _)) (aY (aU cf (bB hu (aa S0) (aa S1) bo) (aa S2) (L2.cK _)))))))),?_⟩
 have dg:=eC.k (k:=Sum.inr q) hd
 rw[get]at dg
 unfold DS at k
 cases hI:F q with
 |none=>
  rw[hI]at k dg
  exact⟨_,rfl,_,rfl,d,_,rfl,dg,_,rfl,d6 k⟩
 |some i=>
  rw[hI]at k dg
  cases o with
  |none=>exact⟨_,rfl,_,rfl,d,_,rfl,dg,_,rfl,dt ⟨_,rfl,rfl,_,rfl,dt k⟩⟩
  |some j=>exact⟨_,rfl,_,rfl,d,_,rfl,dg,_,rfl,dt ⟨_,rfl,rfl,_,rfl,d6 ⟨_,rfl,_,rfl,d,_,rfl,dg,_,rfl,_,_,rfl,rfl,k⟩⟩⟩
def HL(F:FH)(q:Str)(h:Int):Bool:=match F q with
 |none=>false
 |some i=>decide (i≤h)
def BD(b e h:Int):Bool:=decide (b≤h) && decide (h≤e)
def FT(q:Str)(b e:Int)(d:RI):Bool:=vE q d && BD b e d.2.1
def Fe(p q:Str)(d:RI):Bool:=Af p d && vE q d
def sF(st:List RI):SD→Bool
 |.knew q h=>HL (hI st) q h
 |.unh q o=>DS (hI st) q o
 |.sil q b e=> !(st.any (FT q b e))
 |.bar p q=> !(st.any (Fe p q))
inductive Jh(vs:List V)(H:Hp)(Q:VK):Prop
 |mk(d:Addr)(q:Str)(h:Int)(kvs:List (Key×V))(F:FH)(e:vs=[.ref d,.str q,.int h])(hd:H d=some (.dK kvs))(get:∀z,dD kvs (Sum.inr z)=(F z).map V.int)(k:Q (.bl (HL F q h)) H)
def DM:Sp:=fun vs H Q _=>Jh vs H Q
inductive Kf(vs:List V)(H:Hp)(Q:VK):Prop
 |mk(l:Addr)(us:List V)(st:List RI)(q:Str)(b e:Int)(ev:vs=[.ref l,.str q,.int b,.int e])(hl:H l=some (.lst us))(lz:Lz eD H us st)(sl:st.length≤24)(k:∀H',cI H H'→Q (.bl (!(st.any (FT q b e)))) H')
def CW:Sp:=fun vs H Q _=>Kf vs H Q
inductive JZ(vs:List V)(H:Hp)(Q:VK):Prop
 |mk(l:Addr)(us:List V)(st:List RI)(p q:Str)(ev:vs=[.ref l,.str p,.str q])(hl:H l=some (.lst us))(lz:Lz eD H us st)(sl:st.length≤24)(k:∀H',cI H H'→Q (.bl (!(st.any (Fe p q)))) H')
def BZ:Sp:=fun vs H Q _=>JZ vs H Q
inductive Jg(vs:List V)(H:Hp)(Q:VK):Prop
 |mk(l a:Addr)(us:List V)(st:List RI)(d:SD)(e:vs=[.ref l,.ref a])(hl:H l=some (.lst us))(lz:Lz eD H us st)(nd:(st.map (·.1)).Nodup)(sl:st.length≤24)(ha:H a=some (.tup d.tup))(k:∀H',cI H H'→Q (.bl (sF st d)) H')
def DL:Sp:=fun vs H Q _=>Jg vs H Q
def bx(st:List RI)(sd:List SD):List V:=((List.range sd.length).filter (i9 sd fun d=> !sF st d)).map fun i=>V.int (i:Nat)
inductive II(C:Addr)(vs:List V)(H:Hp)(Q:VK):Prop
 |mk(x p s t y l:Addr)(ps:List Str)(ss ts ys us:List V)(sd:List SD)(st:List RI)(e:vs=[.ref x,.ref l])(bk:Bk C H x p s t y ps ss ts ys)(sy:Sys H ys sd)(l60:ys.length≤60)(hl:H l=some (.lst us))(lz:Lz eD H us st)(nd:(st.map (·.1)).Nodup)(sl:st.length≤24)
   (k:∀o H',cI H H'→H o=none→H' o=some (.lst (bx st sd))→Q (.ref o) H')
def Ct(C:Addr):Sp:=fun vs H Q _=>II C vs H Q
theorem nK{α:Type}(f g:α→Bool)(l:List α):((l.filter f).map g).any id=l.any fun d=>f d && g d:=by
 induction l with
 |nil=>rfl
 |cons d r ih=>
  rw[filter_cons,any_cons]
  cases h:f d with
  |true=>
   rw[if_pos rfl,map_cons,any_cons,ih]
   rfl
  |false=>
   rw[if_neg Bool.false_ne_true,ih]
   rfl
theorem p6:cJ ["hours", "person", "hour"] ["hours", "person", "hour"] (cG ig):={}
theorem EB (D:Df K mg "fits_knew" ig ["hours", "person", "hour"] f fd):Gd P w K mg base 1 "fits_knew" DM:=by
 refine aH D p6 fun X H vs Q E hh h=>?_
 obtain⟨d,q,h,kvs,F,rfl,hd,get,k⟩:=h
 obtain⟨S0,S1,S2,_⟩:=hh.eE [0,1,2]
 have hu:=ft hh.room
 refine⟨_,(aj (au (aT (cC hu (aa S1) (aa S0)) (aY (aU bH (bB hu (aa S0) (aa S1) bo) (aa S2) (L2.cK _)))))),?_⟩
 have dg:=eC.k (k:=Sum.inr q) hd
 rw[get]at dg
 unfold HL at k
 cases hI:F q with
 |none=>
  rw[hI]at k dg
  exact⟨_,rfl,_,rfl,d,_,rfl,dg,_,rfl,dt k⟩
 |some i=>
  rw[hI]at k dg
  exact⟨_,rfl,_,rfl,d,_,rfl,dg,_,rfl,d6 ⟨_,rfl,_,rfl,d,_,rfl,dg,_,rfl,_,_,rfl,rfl,k⟩⟩
theorem mS:cJ ["story", "person", "begin", "end", "heard"] ["story", "person", "begin", "end"] (cG fM):={}
theorem EY (D:Df K mg "fits_silent" fM ["story", "person", "begin", "end"] f fd) (T:Txt K mg kw C):Gd P w K mg base 1 "fits_silent" CW:=by
 refine aH D mS fun X H vs Q E hh h=>?_
 obtain⟨l,us,st,q,b,e,rfl,hl,lz,sl,k⟩:=h
 obtain⟨S0,S1,S2,S3,S4,_⟩:=hh.eE [0,1,2,3,4]
 have B_any:=hh.b T.b_any
 have hsz:sizeLine=16777216:=sizeLine_eq
 have ul:=lz.1
 refine⟨_,(af (cw (is:=[1]) (xs:=["hearer", "hour", "way"]) (ns:=["person"]) S4 hh.nd hh.calm (aV (aa S0)) {} (fun _ _ _ _ _=>(cn (n:=3) hh.calm (aG (aX (i:=0) (by decide+kernel) rfl rfl) (aG (aX (i:=1) (by decide+kernel) rfl rfl) (aG (aX (i:=2) (by decide+kernel) rfl rfl) bh))))) (fun _ _ _ _ _=>(bT (bf (br (aF aK (ag a9 (aI (i:=2) rfl rfl (by decide) (by decide)) ae ao) aN (L2.cK _)) (bu (aF aK (ag a9 (aI (i:=2) rfl rfl (by decide) (by decide)) ae ao) (a8 (i:=3) rfl rfl (by decide) (by decide)) (L2.cK _))))))) (fun _ _ _ _ _=>(aI (i:=1) rfl rfl (by decide) (by decide))) hh.hsc hh.hN (by decide+kernel))
 (aj (au (J.mv (aE B_any (J.f6 hh.calm) L2.tR (ak (bw (is:=[2,3]) (xs:=["hour"]) (ns:=["begin", "end"]) hh.calm (aV (aa S4)) {} (fun _ _ _ _ _=>(aX (i:=0) (by decide+kernel) rfl rfl)) (fun _ _ _ _ _=>bE) (fun _ _ _ _ _=>(J.fg bH bH (a8 (i:=1) rfl rfl (by decide) (by decide)) (aI (i:=0) rfl rfl (by decide) (by decide)) (a8 (i:=2) rfl rfl (by decide) (by decide)) L2.fu)) hh.hsc hh.hN))))))),?_⟩
 refine⟨_,rfl,l,rfl,⟨_,cL.of hl⟩,dM (xs:=us) (i9 st (vE q)) (uL st fun d=>V.int d.2.1) (cL.of hl) (by omega) ?_ ?_⟩
 ·intro i os v H2 K1 K2 hv hos s2 k1 k2
  match os,hos with
  |[o1,o2,o3],_=>
   obtain⟨d,hd,a,wa,rfl,ha,hw⟩:=lz.at hv
   rw[dy hd]at k1 k2
   rw[gM hd]at k1
   refine⟨a,_,rfl,c8.of (s2 _ _ ha),rfl,_,_,rfl,_,_,rfl,_,_,rfl,rfl,⟨[some (.str d.1),some (.int d.2.1),some (.ref wa)],rfl,rfl⟩,?_⟩
   obtain⟨z,h,w⟩:=d
   cases w with
   |saw i'=>exact⟨_,rfl,xT (s2 _ _ hw) rfl ⟨rfl,_,rfl,iN (dt (k2 rfl H2 (cI.refl _)))⟩⟩
   |hrd kk te=>
    refine⟨_,rfl,xT (s2 _ _ hw) rfl ⟨rfl,_,rfl,iP ⟨_,rfl,xT (s2 _ _ hw) rfl ⟨_,rfl,rfl,_,rfl,dG (fun hq=>⟨_,rfl,k1 ?_ H2 (cI.refl _)⟩) (fun hq=>k2 ?_ H2 (cI.refl _))⟩⟩⟩⟩
    ·exact decide_eq_true (V.str.inj (of_decide_eq_true hq))
    ·exact decide_eq_false fun e=>hq (decide_eq_true (congrArg V.str e))
 intro o H1 no1 s1 ho
 rw[ul,dZ]at ho
 have fl:=length_filter_le (vE q) st
 refine⟨_,rfl,o,rfl,⟨_,cL.of ho⟩,dM (xs:=(st.filter (vE q)).map fun d=>V.int d.2.1) (i9 (st.filter (vE q)) fun _=>true) (uL (st.filter (vE q)) fun d=>V.bl (BD b e d.2.1)) (cL.of ho) (by rw[length_map];omega) ?_ ?_⟩
 ·intro i os v H2 K1 K2 hv hos s2 k1 k2
  match os,hos with
  |[o1],_=>
   rw[getElem?_map]at hv
   obtain⟨d,hd,rfl⟩:=map_eq_some_iff.mp hv
   rw[dy hd]at k1
   rw[gM hd]at k1
   unfold BD at k1
   refine⟨⟨[some (.int d.2.1)],rfl,rfl⟩,d6 (B:=K2 H2) ⟨_,rfl,_,rfl,_,_,rfl,rfl,_,rfl,dG (fun hb=>⟨_,rfl,_,_,rfl,rfl,?_⟩) (fun hb=>?_)⟩⟩
   ·rw[hb,Bool.true_and]at k1
    exact k1 rfl H2 (cI.refl _)
   ·rw[eq_false_of_ne_true hb,Bool.false_and]at k1
    exact k1 rfl H2 (cI.refl _)
 ·intro D2 H3 hD2 s3 hd3
  rw[length_map,dZ,filter_eq_self.mpr (fun _ _=>rfl)]at hd3
  have e2:((st.filter (vE q)).map fun d=>V.bl (BD b e d.2.1))=((st.filter (vE q)).map fun d=>BD b e d.2.1).map V.bl:=by rw[map_map];rfl
  rw[e2]at hd3
  refine⟨D2,_,rfl,cL.of hd3,?_⟩
  rw[nK]
  exact⟨_,rfl,k _ (s1.trans s3)⟩
theorem m7:cJ ["story", "person", "other", "ways"] ["story", "person", "other"] (cG fP):={}
theorem Ef (D:Df K mg "fits_barred" fP ["story", "person", "other"] f fd) (T:Txt K mg kw C):Gd P w K mg base 1 "fits_barred" BZ:=by
 refine aH D m7 fun X H vs Q E hh h=>?_
 obtain⟨l,us,st,p,q,rfl,hl,lz,sl,k⟩:=h
 obtain⟨S0,S1,S2,S3,_⟩:=hh.eE [0,1,2,3]
 have B_any:=hh.b T.b_any
 have hsz:sizeLine=16777216:=sizeLine_eq
 obtain⟨ws,we,wr⟩:=vL lz
 have ul:=lz.1
 have wl:ws.length=st.length:=by rw[←we,length_map]
 have wat:∀{i:Nat}{v:V},us[i]? =some v→∃pr,ws[i]? =some pr:=fun h=>⟨_,getElem?_eq_getElem (by rw[wl,←ul];exact(List.getElem?_eq_some_iff.mp h).1)⟩
 refine⟨_,(af (cw (is:=[1]) (xs:=["hearer", "hour", "way"]) (ns:=["person"]) S3 hh.nd hh.calm (aV (aa S0)) {} (fun _ _ _ _ _=>(cn (n:=3) hh.calm (aG (aX (i:=0) (by decide+kernel) rfl rfl) (aG (aX (i:=1) (by decide+kernel) rfl rfl) (aG (aX (i:=2) (by decide+kernel) rfl rfl) bh))))) (fun _ _ _ _ _=>(bT (bf (br (aF aK (aI (i:=0) rfl rfl (by decide) (by decide)) (a8 (i:=3) rfl rfl (by decide) (by decide)) (L2.cK _)) (bu (aF aK (ag a9 (aI (i:=2) rfl rfl (by decide) (by decide)) ae ao) aN (L2.cK _))))))) (fun _ _ _ _ _=>(aI (i:=2) rfl rfl (by decide) (by decide))) hh.hsc hh.hN (by decide+kernel))
 (aj (au (J.mv (aE B_any (J.f6 hh.calm) L2.tR (ak (bw (is:=[2]) (xs:=["way"]) (ns:=["other"]) hh.calm (aV (aa S3)) {} (fun _ _ _ _ _=>(aX (i:=0) (by decide+kernel) rfl rfl)) (fun _ _ _ _ _=>bE) (fun _ _ _ _ _=>(aU aK (ag a9 (aI (i:=0) rfl rfl (by decide) (by decide)) ae ao) (a8 (i:=1) rfl rfl (by decide) (by decide)) (L2.cK _))) hh.hsc hh.hN))))))),?_⟩
 refine⟨_,rfl,l,rfl,⟨_,cL.of hl⟩,dM (xs:=us) (i9 ws fun pr=>Af p pr.2) (uL ws fun pr=>V.ref pr.1) (cL.of hl) (by omega) ?_ ?_⟩
 ·intro i os v H2 K1 K2 hv hos s2 k1 k2
  match os,hos with
  |[o1,o2,o3],_=>
   obtain⟨⟨wa,d⟩,hpr⟩:=wat hv
   obtain⟨a,rfl,ha,hw⟩:=wr i _ _ hv hpr
   rw[dy hpr]at k1 k2
   rw[gM hpr]at k1
   refine⟨a,_,rfl,c8.of (s2 _ _ ha),rfl,_,_,rfl,_,_,rfl,_,_,rfl,rfl,⟨[some (.str d.1),some (.int d.2.1),some (.ref wa)],rfl,rfl⟩,?_⟩
   obtain⟨z,h,w⟩:=d
   refine⟨_,rfl,_,rfl,rfl,_,rfl,dG (fun e1=>?_) (fun e1=>dt (k2 ?_ H2 (cI.refl _)))⟩
   ·have e1':z=p:=V.str.inj (of_decide_eq_true e1)
    cases w with
    |saw i'=>
     refine⟨_,rfl,xT (s2 _ _ hw) rfl ⟨rfl,_,rfl,iN (k2 ?_ H2 (cI.refl _))⟩⟩
     exact Bool.and_false _
    |hrd kk te=>
     refine⟨_,rfl,xT (s2 _ _ hw) rfl ⟨rfl,_,rfl,iP ⟨_,rfl,k1 ?_ H2 (cI.refl _)⟩⟩⟩
     show(decide (z=p) && true)=true
     rw[decide_eq_true e1']
     rfl
   ·show(decide (z=p) && _)=false
    rw[decide_eq_false fun e=>e1 (decide_eq_true (congrArg V.str e))]
    rfl
 intro o H1 no1 s1 ho
 rw[ul,←wl,dZ]at ho
 have fl:=length_filter_le (fun pr:Addr×RI=>Af p pr.2) ws
 refine⟨_,rfl,o,rfl,⟨_,cL.of ho⟩,dM (xs:=(ws.filter fun pr=>Af p pr.2).map fun pr=>V.ref pr.1) (i9 (ws.filter fun pr=>Af p pr.2) fun _=>true) (uL (ws.filter fun pr=>Af p pr.2) fun pr=>V.bl (vE q pr.2)) (cL.of ho) (by rw[length_map];omega) ?_ ?_⟩
 ·intro i os v H2 K1 K2 hv hos s2 k1 k2
  match os,hos with
  |[o1],_=>
   rw[getElem?_map]at hv
   obtain⟨⟨wa,d⟩,hd,rfl⟩:=map_eq_some_iff.mp hv
   rw[dy hd]at k1
   rw[gM hd]at k1
   obtain⟨md,mf⟩:=mem_filter.mp (mem_of_getElem? hd)
   obtain⟨j,hj⟩:=getElem?_of_mem md
   obtain⟨vj,hvj⟩:∃vj,us[j]? =some vj:=⟨_,getElem?_eq_getElem (by rw[ul,←wl];exact(List.getElem?_eq_some_iff.mp hj).1)⟩
   obtain⟨a,_,_,hw⟩:=wr j _ _ hvj hj
   obtain⟨z,h,w⟩:=d
   cases w with
   |saw i'=>
    have mf':(decide (z=p) && false)=true:=mf
    rw[Bool.and_false]at mf'
    cases mf'
   |hrd kk te=>
    refine⟨⟨[some (.ref wa)],rfl,rfl⟩,d6 (B:=K2 H2) ⟨_,rfl,xT (s2 _ _ (s1 _ _ hw)) rfl ⟨_,rfl,rfl,?_⟩⟩⟩
    have e3:decide (V.str te=V.str q)=vE q (z,h,.hrd kk te):=decide_eq_decide.mpr ⟨fun e=>V.str.inj e,fun e=>congrArg V.str e⟩
    rw[e3]
    exact k1 rfl H2 (cI.refl _)
 ·intro D2 H3 hD2 s3 hd3
  rw[length_map,dZ,filter_eq_self.mpr (fun _ _=>rfl)]at hd3
  have e2:((ws.filter fun pr=>Af p pr.2).map fun pr=>V.bl (vE q pr.2))=((ws.filter fun pr=>Af p pr.2).map fun pr=>vE q pr.2).map V.bl:=by rw[map_map];rfl
  rw[e2]at hd3
  refine⟨D2,_,rfl,cL.of hd3,?_⟩
  rw[nK]
  have e4:(ws.any fun pr=>Af p pr.2 && vE q pr.2)=st.any (Fe p q):=by rw[←we,any_map];rfl
  rw[e4]
  exact⟨_,rfl,k _ (s1.trans s3)⟩
theorem AQ:cJ ["story", "saying"] ["story", "saying"] (cG uM):={}
theorem EJ (D:Df K mg "fits" uM ["story", "saying"] f fd) (G_hours_in:Gd P w K mg base 1 "hours_in" A6) (G_fits_knew:Gd P w K mg base 1 "fits_knew" DM) (G_fits_unheard:Gd P w K mg base 1 "fits_unheard" Dc) (G_fits_silent:Gd P w K mg base 1 "fits_silent" CW) (G_fits_barred:Gd P w K mg base 1 "fits_barred" BZ):Gd P w K mg base 2 "fits" DL:=by
 refine aH D AQ fun X H vs Q E hh h=>?_
 obtain⟨l,a,us,st,d,rfl,hl,lz,nd,sl,ha,k⟩:=h
 obtain⟨S0,S1,_⟩:=hh.eE [0,1]
 have C_fits_barred:=hh.c G_fits_barred
 have C_fits_knew:=hh.c G_fits_knew
 have C_fits_silent:=hh.c G_fits_silent
 have C_fits_unheard:=hh.c G_fits_unheard
 have C_hours_in:=hh.c G_hours_in
 refine⟨_,(af (aJ (aF aK (ag aw (aa S1) ae ao) aN (L2.cK _))
 (aj (au (av C_fits_knew (aQ (av C_hours_in (ak (aa S0))) (ag aw (aa S1) ae ao) (ag aw (aa S1) ae ao)))))
 aM)
 (af (aJ (aF aK (ag aw (aa S1) ae ao) aN (L2.cK _))
 (aj (au (av C_fits_unheard (aQ (av C_hours_in (ak (aa S0))) (ag aw (aa S1) ae ao) (ag aw (aa S1) ae ao)))))
 aM)
 (af (aJ (aF aK (ag aw (aa S1) ae ao) aN (L2.cK _))
 (aj (au (av C_fits_silent (bI (aa S0) (ag aw (aa S1) ae ao) (ag aw (aa S1) ae ao) (ag aw (aa S1) ae ao)))))
 aM)
 (aj (au (av C_fits_barred (aQ (aa S0) (ag aw (aa S1) ae ao) (ag aw (aa S1) ae ao)))))))),?_⟩
 cases d with
 |knew q h=>
  refine⟨_,rfl,xT ha rfl ⟨rfl,_,rfl,iP ⟨_,rfl,l,us,st,rfl,hl,lz,nd,(by omega),fun kn H1 s1 _ hk=>?_⟩⟩⟩
  exact⟨_,rfl,xT (s1 _ _ ha) rfl ⟨_,rfl,xT (s1 _ _ ha) rfl ⟨kn,q,h,_,hI st,rfl,hk,pP st,k _ s1⟩⟩⟩
 |unh q o=>
  refine⟨_,rfl,xT ha rfl ⟨rfl,_,rfl,iN ⟨_,rfl,xT ha rfl ⟨rfl,_,rfl,iP ⟨_,rfl,l,us,st,rfl,hl,lz,nd,(by omega),fun kn H1 s1 _ hk=>?_⟩⟩⟩⟩⟩
  exact⟨_,rfl,xT (s1 _ _ ha) rfl ⟨_,rfl,xT (s1 _ _ ha) rfl ⟨kn,q,o,_,hI st,rfl,hk,pP st,k _ s1⟩⟩⟩
 |sil q b e=>
  refine⟨_,rfl,xT ha rfl ⟨rfl,_,rfl,iN ⟨_,rfl,xT ha rfl ⟨rfl,_,rfl,iN ⟨_,rfl,xT ha rfl ⟨rfl,_,rfl,iP ?_⟩⟩⟩⟩⟩⟩
  exact⟨_,rfl,_,rfl,xT ha rfl ⟨_,rfl,xT ha rfl ⟨_,rfl,xT ha rfl ⟨l,us,st,q,b,e,rfl,hl,lz,sl,k⟩⟩⟩⟩
 |bar p o=>
  refine⟨_,rfl,xT ha rfl ⟨rfl,_,rfl,iN ⟨_,rfl,xT ha rfl ⟨rfl,_,rfl,iN ⟨_,rfl,xT ha rfl ⟨rfl,_,rfl,iN ?_⟩⟩⟩⟩⟩⟩
  exact⟨_,rfl,_,rfl,xT ha rfl ⟨_,rfl,xT ha rfl ⟨l,us,st,p,o,rfl,hl,lz,sl,k⟩⟩⟩
theorem qM:cJ ["book", "story"] ["book", "story"] (cG jm):={}
theorem Fw (D:Df K mg "unfitted" jm ["book", "story"] f fd) (T:Txt K mg kw C) (G_sayings:Md P w K mg base 1 C "sayings" (dw C fun _ _ _ y=>y)) (G_fits:Gd P w K mg base 2 "fits" DL):Gd P w K mg base 3 "unfitted" (Ct C):=by
 refine aH D qM fun X H vs Q E hh h=>?_
 obtain⟨x,p,s,t,y,l,ps,ss,ts,ys,us,sd,st,rfl,bk,sy,l60,hl,lz,nd,sl,k⟩:=h
 obtain⟨S0,S1,_⟩:=hh.eE [0,1]
 have B_enumerate:=hh.b T.b_enumerate
 have CI_fits:=hh.ci G_fits
 have M_sayings:=hh.met G_sayings (by decide)
 have hsz:sizeLine=16777216:=sizeLine_eq
 refine⟨_,(aj (au (bw (is:=[1]) (xs:=["k", "saying"]) (ns:=["story"]) hh.calm (bX B_enumerate (ak (bJ M_sayings (aa S0) rfl))) {} (fun _ _ _ _ _=>(cn (n:=2) hh.calm (aG (aX (i:=0) (by decide+kernel) rfl rfl) (aG (aX (i:=1) (by decide+kernel) rfl rfl) bh)))) (fun _ _ _ _ _=>(bT (ba (bj (av (CI_fits.lg rfl) (aD (a8 (i:=2) rfl rfl (by decide) (by decide)) (aI (i:=1) rfl rfl (by decide) (by decide)))))))) (fun _ _ _ _ _=>(aI (i:=0) rfl rfl (by decide) (by decide))) hh.hsc hh.hN))),?_⟩
 obtain⟨⟨dx,hx⟩,hp,hs,ht,hy⟩:=id bk
 refine⟨_,rfl,x,dx,_,rfl,hx,fc _ _ _ _ (by decide+kernel) (by decide+kernel) (by decide+kernel) (by decide+kernel),x,p,s,t,y,ys,rfl,⟨dx,hx⟩,hy,fun yl nyl=>?_⟩
 have s1:=cI.upd (o:=.lst ys) nyl
 have hyl:upd H yl (.lst ys) yl=some (.lst ys):=cE
 generalize upd H yl (.lst ys)=H1 at s1 hyl
 refine⟨yl,rfl,⟨_,cL.of hyl⟩,rW (xs:=ys) (i9 sd fun d=> !sF st d) (fun i=>V.int (i:Nat)) (cL.of hyl) (by omega) ?_ ?_⟩
 ·intro i os v q H2 K1 K2 hv hos s3 hq k1 k2
  match os,hos with
  |[o1,o2],_=>
   obtain⟨d,a,hd,rfl,ha⟩:=sy.at hv
   rw[dy hd]at k1 k2
   have s4:=cI.upd (o:=.tup [.int i,.ref a]) hq
   have s14:=(s1.trans s3).trans s4
   refine⟨q,_,rfl,c8.of cE,rfl,_,_,rfl,_,_,rfl,rfl,⟨[_,_],rfl,rfl⟩,?_⟩
   refine⟨_,rfl,_,rfl,l,a,us,st,d,rfl,s14 _ _ hl,lz.mono (eD.mono (Tk.of s14)),nd,sl,s14 _ _ ha,fun H5 s5=>⟨_,rfl,dG (fun hb=>⟨_,rfl,k1 hb _ (s4.trans s5)⟩) (fun hb=>k2 (eq_false_of_ne_true hb) _ (s4.trans s5))⟩⟩
 ·intro D' H' hD' s' hd'
  rw[sy.1]at hd'
  exact k D' H' (s1.trans s') (s1.free hD') hd'
def wx:SD→Bool
 |.knew _ _=>true
 |_=>false
def FZ(st:List RI)(sd:List SD):Bool:=sd.all fun d=>wx d || sF st d
def qo(sg:List GD)(qd:List QD)(sd:List SD)(d:RI):Bool:=match d.2.2 with
 |.saw n=>decide (0≤n) && i9 sg (jf sd) n.toNat
 |.hrd k te=>decide (0≤k) && decide ((k.toNat,te,d.1)∈(fB 0 (gU qd)).filter (dF qd sd))
theorem iO{z:Str}{h:Int}{sd:List SD}(h0:0≤h):ff h (floorOf z sd)=true↔∀o,SD.unh z o∈sd→∃i,o=some i∧i < h:=by
 have mem:∀o,o∈mY z sd↔SD.unh z o∈sd:=fun o=>by
  unfold mY
  rw[mem_map]
  constructor
  ·rintro⟨d,hd,rfl⟩
   obtain⟨h1,h2⟩:=mem_filter.mp hd
   cases d with
   |unh p o=>
    have e:p=z:=of_decide_eq_true h2
    rw[←e]
    exact h1
   |knew p h=>cases h2
   |sil p b e=>cases h2
   |bar p q=>cases h2
  ·intro h
   exact⟨.unh z o,mem_filter.mpr ⟨h,decide_eq_true rfl⟩,rfl⟩
 unfold floorOf
 by_cases hn:none∈mY z sd
 ·rw[rm hn]
  constructor
  ·intro q
   cases q
  ·intro q
   obtain⟨i,e,_⟩:=q none ((mem none).mp hn)
   cases e
 ·obtain⟨vs,hv⟩:=all_some hn
  obtain⟨m,h1,h2,h3⟩:=rM vs (-1)
  rw[hv,h1]
  constructor
  ·intro q o ho
   have ho':o∈vs.map some:=by
    rw[←hv]
    exact(mem o).mpr ho
   obtain⟨i,hi,rfl⟩:=mem_map.mp ho'
   have:=h3 i (.tail _ hi)
   have q:m < h:=of_decide_eq_true q
   exact⟨i,rfl,by omega⟩
  ·intro q
   refine decide_eq_true ?_
   rcases mem_cons.mp h2 with e|hm
   ·omega
   ·obtain⟨i,e,hi⟩:=q (some m) ((mem _).mp (by rw[hv];exact mem_map_of_mem hm))
    cases e
    exact hi
theorem uT{sg:List GD}{qd:List QD}{sd:List SD}{d:RI}(g:uf sg qd d.2.1 d.1 d.2.2):qo sg qd sd d=true↔ff d.2.1 (floorOf d.1 sd)=true∧∀k te,d.2.2=.hrd k te→∀e∈sd,jX te d.2.1 e=false∧kK d.1 te e=false:=by
 obtain⟨z,h,w⟩:=d
 cases w with
 |saw n=>
  obtain⟨h0,h1⟩:=g
  have e:qo sg qd sd (z,h,.saw n)=ff h (floorOf z sd):=by
   show(decide (0≤n) && i9 sg (jf sd) n.toNat)=_
   rw[decide_eq_true h0,Bool.true_and,dy h1]
   rfl
  rw[e]
  exact⟨fun q=>⟨q,fun _ _ z=>by cases z⟩,fun q=>q.1⟩
 |hrd k te=>
  obtain⟨h0,q,h1,h2,h3⟩:=g
  have m:(k.toNat,te,z)∈fB 0 (gU qd):=(l3 _ _ _ qd 0).mpr ⟨k.toNat,q,h1,by omega,h3⟩
  have h2:q.1=h:=h2
  have e:qo sg qd sd (z,h,.hrd k te)=(ff h (floorOf z sd) && !(sd.any (jX te h) || sd.any (kK z te))):=by
   show(decide (0≤k) && decide ((k.toNat,te,z)∈(fB 0 (gU qd)).filter (dF qd sd)))=_
   rw[decide_eq_true h0,Bool.true_and]
   have e1:dF qd sd (k.toNat,te,z)=(ff h (floorOf z sd) && !(sd.any (jX te h) || sd.any (kK z te))):=by
    show(ff (eB qd k.toNat) (floorOf z sd) && !(sd.any (jX te (eB qd k.toNat)) || sd.any (kK z te)))=_
    rw[gh h1,h2]
   rw[←e1]
   rw[Bool.eq_iff_iff,decide_eq_true_iff,mem_filter]
   exact⟨fun z=>z.2,fun z=>⟨m,z⟩⟩
  rw[e,and_eq_true,not_eq_true',Bool.or_eq_false_iff,any_eq_false,any_eq_false]
  constructor
  ·rintro⟨a,b,c⟩
   exact⟨a,fun k' te' z e he=>by cases z;exact⟨eq_false_of_ne_true (b e he),eq_false_of_ne_true (c e he)⟩⟩
  ·rintro⟨a,b⟩
   exact⟨a,fun e he=>by rw[(b _ _ rfl e he).1];exact Bool.false_ne_true,fun e he=>by rw[(b _ _ rfl e he).2];exact Bool.false_ne_true⟩
theorem sv(z p:Str)(h b c:Int):jX z h (.sil p b c)=(decide (p=z) && BD b c h):=by
 show(decide (p=z) && if b≤h then decide (h≤c) else false)=(decide (p=z) && (decide (b≤h) && decide (h≤c)))
 by_cases y:b≤h
 ·rw[if_pos y,decide_eq_true y,Bool.true_and]
 ·rw[if_neg y,decide_eq_false y,Bool.false_and]
theorem qT{sg:List GD}{qd:List QD}{sd:List SD}{st:List RI}(gd:∀d∈st,uf sg qd d.2.1 d.1 d.2.2)(nd:(st.map (·.1)).Nodup)(ho:∀d∈st,0≤d.2.1):st.all (qo sg qd sd)=FZ st sd:=by
 unfold FZ
 rw[Bool.eq_iff_iff,all_eq_true,all_eq_true]
 constructor
 ·intro al e he
  have al':=fun d hd=>(uT (sd:=sd) (gd d hd)).mp (al d hd)
  cases e with
  |knew p h=>rfl
  |unh p o=>
   show(false || DS (hI st) p o)=true
   rw[Bool.false_or]
   unfold DS
   cases hF:hI st p with
   |none=>rfl
   |some i=>
    obtain⟨d,md,rfl,rfl⟩:=yj hF
    obtain⟨j,rfl,hj⟩:=(iO (ho d md)).mp (al' d md).1 o he
    exact decide_eq_true hj
  |sil p b c=>
   show(false || !(st.any (FT p b c)))=true
   rw[Bool.false_or,not_eq_true',any_eq_false]
   intro d md q
   obtain⟨z,h,w⟩:=d
   cases w with
   |saw n=>cases q
   |hrd k te=>
    have q:(decide (te=p) && BD b c h)=true:=q
    rw[and_eq_true]at q
    have e1:te=p:=of_decide_eq_true q.1
    have:=((al' _ md).2 k te rfl _ he).1
    rw[e1]at this
    have t2:jX p h (.sil p b c)=true:=by
     rw[sv,decide_eq_true (rfl:p=p),Bool.true_and]
     exact q.2
    rw[show jX p ((z,h,WI.hrd k te):RI).2.1 (.sil p b c)=jX p h (.sil p b c) from rfl,t2]at this
    cases this
  |bar p q=>
   show(false || !(st.any (Fe p q)))=true
   rw[Bool.false_or,not_eq_true',any_eq_false]
   intro d md y
   obtain⟨z,h,w⟩:=d
   cases w with
   |saw n=>
    have y:((decide (z=p) && false) && false)=true:=y
    rw[Bool.and_false]at y
    cases y
   |hrd k te=>
    have y:((decide (z=p) && true) && decide (te=q))=true:=y
    rw[Bool.and_true,and_eq_true]at y
    have e1:z=p:=of_decide_eq_true y.1
    have e2:te=q:=of_decide_eq_true y.2
    have t:=((al' _ md).2 k te rfl _ he).2
    have t2:kK z te (.bar p q)=true:=by
     rw[e1,e2]
     show(decide (p=p) && decide (q=q))=true
     rw[decide_eq_true rfl,decide_eq_true rfl]
     rfl
    rw[show kK ((z,h,WI.hrd k te):RI).1 te (.bar p q)=kK z te (.bar p q) from rfl,t2]at t
    cases t
 ·intro al d md
  have al':∀e∈sd,wx e=false→sF st e=true:=fun e he hk=>by
   have:=al e he
   rw[hk,Bool.false_or]at this
   exact this
  refine(uT (gd d md)).mpr ⟨(iO (ho d md)).mpr fun o hu=>?_,fun k te hw e he=>?_⟩
  ·have:=al' _ hu rfl
   have this:DS (hI st) d.1 o=true:=this
   unfold DS at this
   rw[u7 nd md]at this
   cases o with
   |none=>cases this
   |some j=>exact⟨j,rfl,of_decide_eq_true this⟩
  ·obtain⟨z,h,w⟩:=d
   have hw:w=.hrd k te:=hw
   subst hw
   constructor
   ·cases e with
    |sil p b c=>
     cases q:jX te h (.sil p b c) with
     |false=>first|exact q|rfl
     |true=>
      have q':=q
      rw[sv,and_eq_true]at q'
      have f:=al' _ he rfl
      have f:(!(st.any (FT p b c)))=true:=f
      rw[not_eq_true',any_eq_false]at f
      refine absurd ?_ (f _ md)
      show(decide (te=p) && BD b c h)=true
      rw[decide_eq_true (of_decide_eq_true q'.1).symm,Bool.true_and]
      exact q'.2
    |knew p h'=>rfl
    |unh p o=>rfl
    |bar p q=>rfl
   ·cases e with
    |bar p q=>
     cases y:kK z te (.bar p q) with
     |false=>first|exact y|rfl
     |true=>
      have y':(decide (p=z) && decide (q=te))=true:=y
      rw[and_eq_true]at y'
      have f:=al' _ he rfl
      have f:(!(st.any (Fe p q)))=true:=f
      rw[not_eq_true',any_eq_false]at f
      refine absurd ?_ (f _ md)
      show((decide (z=p) && true) && decide (te=q))=true
      rw[decide_eq_true (of_decide_eq_true y'.1).symm,decide_eq_true (of_decide_eq_true y'.2).symm]
      rfl
    |knew p h'=>rfl
    |unh p o=>rfl
    |sil p b c=>rfl
end K16
namespace K16
open PySem L2
variable {P:Program}{w:World}{K:PySem.W.Frag}{mg:Str→Option Value}{base:Heap}{kw C:Addr}{f:Addr}{fd:FuncData}
inductive xZ  (vs:List V)(H:Hp)(Q:VK):Prop
 |mk(n:Int)(h0:vs=[.int n])(h1:∀(l:Addr)(us:List Str)(H':Hp),cI H H'→H l=none→H' l=some (.lst (us.map V.str))→pB us→Q (.ref l) H')
def pR  :Sp:=fun vs H Q _=>xZ  vs H Q
inductive yf  (vs:List V)(H:Hp)(Q:VK):Prop
 |mk(n:Int)(h0:vs=[.int n])(h1:∀h:Int,cT h→Q (.int h) H)
def j7  :Sp:=fun vs H Q _=>yf  vs H Q
inductive zm  (vs:List V)(H:Hp)(Q:VK):Prop
 |mk(n:Int)(l:Addr)(us:List Str)(h0:vs=[.int n,.ref l])(h1:H l=some (.lst (us.map V.str)))(h2:pB us)(h3:∀(t:Addr)(ws:List Str)(H':Hp),cI H H'→H' t=some (.tup (ws.map V.str))→1≤ws.length→ws.length≤6→(∀x∈ws,dR x=true)→Q (.ref t) H')
def pK  :Sp:=fun vs H Q _=>zm  vs H Q
inductive zB  (vs:List V)(H:Hp)(Q:VK):Prop
 |mk(n:Int)(l:Addr)(ps:List Str)(h0:vs=[.int n,.ref l])(h1:H l=some (.lst (ps.map V.str)))(h2:eR ps)(h3:2≤ps.length)(h4:∀(v:V)(H':Hp),cI H H'→eQ ps H' v→Q v H')
def pX  :Sp:=fun vs H Q _=>zB  vs H Q
inductive Ad  (vs:List V)(H:Hp)(Q:VK):Prop
 |mk(n:Int)(l:Addr)(ps:List Str)(h0:vs=[.int n,.ref l])(h1:H l=some (.lst (ps.map V.str)))(h2:eR ps)(h3:∀(v:V)(H':Hp),cI H H'→gB ps H' v→Q v H')
def t7  :Sp:=fun vs H Q _=>Ad  vs H Q
inductive y9  (K:PySem.W.Frag)(vs:List V)(H:Hp)(Q:VK):Prop
 |mk(a:Addr)(ns:List Int)(h0:vs=[.ref a,.int 12])(h1:cL K H a (ns.map V.int))(h2:ns.length≤63)(h3:∀(r p s t y:Addr)(ps:List Str)(ss ts ys:List V)(H':Hp),cI H H'→H r=none→H p=none→H s=none→H t=none→H y=none→[r,p,s,t,y].Nodup→H' r=some (.lst [.ref p,.ref s,.ref t,.ref y])→H' p=some (.lst (ps.map V.str))→H' s=some (.lst ss)→H' t=some (.lst ts)→H' y=some (.lst ys)→     Parts H' ps ss ts ys→ts.length≤60→ys.length≤60→Q (.ref r) H')
def pU  (K:PySem.W.Frag):Sp:=fun vs H Q _=>y9 K vs H Q
theorem uG:cJ ["_law_cell", "_law_letters", "_law_number", "_law_many", "_law_stem", "_law_at", "_law_more", "_law_names_here", "_law_k", "_law_name"] ["_law_cell"] (cG kE):={}
theorem tK (D:Df K mg "_law_names" kE ["_law_cell"] f fd) (T:Txt K mg kw C):Gd P w K mg base 1 "_law_names" pR:=by
 refine aH D uG fun X H vs Q E hh h=>?_
 obtain⟨n,rfl,k⟩:=h
 obtain⟨S0,S1,S2,S3,S4,S5,S6,S7,S8,S9,_⟩:=hh.eE [0,1,2,3,4,5,6,7,8,9]
 have B_range:=hh.b T.b_range
 have hsz:sizeLine=16777216:=sizeLine_eq
 refine⟨_,(af (aB S1 hh.nd aN)
 (af (aB S2 hh.nd (ah aO (ah bA (ah a6 (ah aO (aa S0) (ah cb ae ae)) ae) ae) ae))
 (af (aB S3 hh.nd (ah aO (aa S2) ae))
 (af (aB S4 hh.nd (bF PySem.F.plainAttrs_str PySem.F.slot_str_join PySem.F.type_str_join J.pF aN (ak (bW (is:=[1,2]) (ns:=["_law_letters", "_law_number"]) hh.calm (J.e9 B_range (ak (aa S3))) {} (fun _ _ _ _ _=>(ag J.m8 (bU (i:=0) rfl rfl (by decide) (by decide)) (ah aO (ah a6 (ah a7 (bU (i:=1) rfl rfl (by decide) (by decide)) ae) (ah bA (ah bA ae (bP rfl (by decide) (by decide))) (bP rfl (by decide) (by decide)))) ae) bN)) hh.hsc hh.hN))))
 (af (aB S5 hh.nd (ah aO (ah a7 (aa S2) ae) (ah a6 (aa S3) ae)))
 (af (aB S6 hh.nd (ag J.m8 (aa S1) (ah aO (ah a7 (aa S2) ae) ae) bN))
 (af (aB S7 hh.nd (bg bz))
 (af (bq hh.own hh.calm (J.e9 B_range (ak ae)) (aP S8 hh.nd)
 (af (aB S9 hh.nd (ah J.fj (ah J.fj (bQ J.ph (aa S4) bY (bM (aa S5))) (ag J.m8 (aa S1) (ah aO (ah a6 (ah a7 (aa S2) ae) (ah bA ae (aa S8))) ae) bN)) (bQ J.ph (aa S4) (bM (aa S5)) bY)))
 (aj (aB S7 hh.nd (ah J.iY (aa S7) (bg (aD (aa S9) (ah J.fj (aa S9) (aa S6)))))))))
 (aj (au (aa S7))))))))))),?_⟩
 refine⟨_,rfl,_,_,rfl,rfl,⟨by decide,by decide,by decide⟩,_,_,rfl,rfl,(by show(0:Int) < 10 ^ Int.toNat 15;decide+kernel),_,_,rfl,rfl,_,_,rfl,rfl,.inr ⟨by decide,by decide⟩,_,_,rfl,rfl,(by show(0:Int) < 2147483647;decide),?_⟩
 dsimp only
 generalize (n % 10 ^ Int.toNat 15+7) * 48271 % 2147483647=N
 refine⟨_,rfl,_,_,rfl,rfl,(by show(0:Int) < 11;decide),?_⟩
 have m0:0≤N % 11:=Int.emod_nonneg _ (by decide)
 have m1:N % 11 < 11:=Int.emod_lt_of_pos _ (by decide)
 dsimp only
 generalize N % 11=M at m0 m1
 have a22:∀x:Int,0≤x % 22∧x % 22 < 22:=fun x=>⟨Int.emod_nonneg _ (by decide),Int.emod_lt_of_pos _ (by decide)⟩
 refine⟨rfl,_,rfl,M,rfl,by omega,by omega,rQ (lo:=0) (n:=M.toNat) (fun v=>match v with|.int i=>.str ⟨#[fJ ((N / 11+5 * i * i) % 22)]⟩|_=>.non) (by omega) (fun i H2 Q' hi sm q'=>?_) (fun D' hD=>?_)⟩
 ·refine⟨_,rfl,_,rfl,_,_,rfl,rfl,⟨by decide,by decide⟩,_,rfl,_,_,rfl,rfl,.inl ⟨by decide,by decide⟩,_,rfl,_,_,rfl,rfl,.inr ⟨by omega,by omega⟩,_,_,rfl,rfl,_,_,rfl,rfl,(by show(0:Int) < 22;decide),lets,_,_,rfl,rfl,(by show lets.length≤sizeLine;decide+kernel),(gx (a22 _).1 (a22 _).2).1,q'⟩
 ·refine⟨"",D',(List.range M.toNat).map fun(i:Nat)=>(⟨#[fJ ((N / 11+5 * (0+(i:Int)) * (0+(i:Int))) % 22)]⟩:Str),rfl,rfl,cL.of (cE.trans (by rw[map_map];rfl)),?_,?_⟩
  ·have l1:∀zs:List Str,(∀z∈zs,z.length=1)→(zs.map (·.length)).sum=zs.length:=fun zs=>by
    induction zs with
    |nil=>intro _;rfl
    |cons z r ih=>intro hz;rw[map_cons,List.sum_cons,ih fun y hy=>hz y (mem_cons_of_mem _ hy),hz z (mem_cons_self ..),length_cons];omega
   rw[l1 _ (fun z hz=>by obtain⟨i,_,rfl⟩:=mem_map.mp hz;rfl),length_map,length_range]
   have:("" :Str).length=0:=by decide+kernel
   rw[this]
   omega
  ·generalize hzs:(List.range M.toNat).map (fun(i:Nat)=>(⟨#[fJ ((N / 11+5 * (0+(i:Int)) * (0+(i:Int))) % 22)]⟩:Str))=zs
   have one:∀z∈zs,z.length=1∧iC z:=fun z hz=>by
    rw[←hzs]at hz
    obtain⟨i,_,rfl⟩:=mem_map.mp hz
    exact⟨rfl,vJ (gx (a22 _).1 (a22 _).2).2⟩
   have zl:zs.length=M.toNat:=by rw[←hzs,length_map,length_range]
   have sl:(Txt.join "" zs).length=M.toNat:=(PySem.W.KT.join_ones zs fun z hz=>(one z hz).1).trans zl
   have sL:iC (Txt.join "" zs):=by
    show iC (Builtin.Str.glued "" zs)
    rw[StrLaws.glued_eq_join]
    exact sr "" (fun c hc=>by have:c∈([]:List Nat):=hc;cases this) zs fun z hz=>(one z hz).2
   generalize Txt.join "" zs=stem at sl sL
   have sz:(upd H D' (.lst (zs.map V.str)))=(upd H D' (.lst (zs.map V.str))):=rfl
   refine⟨_,rfl,_,_,rfl,rfl,⟨by decide,by decide⟩,_,rfl,_,_,rfl,rfl,_,_,rfl,rfl,(by omega),?_⟩
   have t0:0≤N / 276 % (M+1):=Int.emod_nonneg _ (by omega)
   have t1:N / 276 % (M+1) < M+1:=Int.emod_lt_of_pos _ (by omega)
   dsimp only
   generalize N / 276 % (M+1)=A at t0 t1
   have aA:((A.toNat:Nat):Int)=A:=Int.toNat_of_nonneg t0
   have aL:A.toNat≤stem.length:=by omega
   have s10:stem.length≤10:=by
    clear aA aL t0 t1
    omega
   clear sl t1 m0 m1 zl
   refine⟨_,rfl,_,rfl,_,_,rfl,rfl,⟨by decide,by decide⟩,_,_,rfl,rfl,(by show(0:Int) < 22;decide),lets,_,_,rfl,rfl,(by show lets.length≤sizeLine;decide+kernel),(gx (a22 _).1 (a22 _).2).1,?_⟩
   generalize hmr:fJ (N / 13 % 22)=mr
   have mrl:mr∈lets.cps.toList:=by rw[←hmr];exact(gx (a22 _).1 (a22 _).2).2
   refine⟨xG,fun p0 hp0=>?_⟩
   have sm0:=(cI.upd (o:=.lst ((List.range M.toNat).map fun(i:Nat)=>V.str ⟨#[fJ ((N / 11+5 * (0+(i:Int)) * (0+(i:Int))) % 22)]⟩)) hD).trans (cI.upd (o:=.lst []) hp0)
   have h0n:H p0=none:=(cI.upd (o:=.lst ((List.range M.toNat).map fun(i:Nat)=>V.str ⟨#[fJ ((N / 11+5 * (0+(i:Int)) * (0+(i:Int))) % 22)]⟩)) hD).free hp0
   let fN:Nat→Str:=fun j=>putIn stem A (fJ ((N / 7+3 * (0+(j:Int))) % 22))
   have fl:∀j,(fN j).length=stem.length+1:=fun j=>by
    show(putIn stem A _).length=_
    rw[←aA]
    exact wL aL
   refine⟨12,rfl,by decide,by decide,wQ (lo:=0) (n:=12) (fun i σ H2=>∃(l:Addr) (a b:Option V),σ=[some (.int n),some (.str lets),some (.int N),some (.int M),some (.str stem),some (.int A),some (.str ⟨#[mr]⟩),some (.ref l),a,b]∧cI H H2∧H l=none∧H2 l=some (.lst ((nQ fN ⟨#[mr]⟩ i).map V.str)))
    ⟨p0,none,none,rfl,sm0,h0n,cE⟩ ?_ ?_⟩
   ·rintro i σ H2 hi ⟨l,a,b,rfl,sm,hln,hl⟩
    refine⟨_,rfl,_,rfl,_,rfl,stem,rfl,by omega,_,rfl,_,rfl,_,_,rfl,rfl,⟨by decide,by decide⟩,_,rfl,_,_,rfl,rfl,.inl ⟨by decide,by decide⟩,_,_,rfl,rfl,_,_,rfl,rfl,(by show(0:Int) < 22;decide),lets,_,_,rfl,rfl,(by show lets.length≤sizeLine;decide+kernel),(gx (a22 _).1 (a22 _).2).1,?_⟩
    have c1:=iD stem none (some A)
    have c2:=iD stem (some A) none
    have o1:∀c:Nat,(⟨#[c]⟩:Str).length=1:=fun _=>rfl
    refine⟨_,_,rfl,rfl,(by rw[o1];omega),_,rfl,_,rfl,_,rfl,stem,rfl,by omega,_,_,rfl,rfl,(by rw[lT,o1];omega),?_⟩
    have hlenN:=fl i
    have gl:=nv fN ⟨#[mr]⟩ i
    refine⟨_,rfl,_,rfl,_,rfl,_,rfl,_,_,rfl,rfl,(by rw[show((lA stem none (some A)++(⟨#[fJ ((N / 7+3 * (0+(i:Int))) % 22)]⟩:Str))++lA stem (some A) none).length=stem.length+1 from hlenN,o1];omega),zD,fun q hq=>?_⟩
    refine⟨l,q,_,_,rfl,rfl,cL.of ((cI.upd hq) _ _ hl),cL.of cE,(by rw[length_map,gl];show 2 * i+2≤_;omega),fun l' hl'=>?_⟩
    refine⟨l',_,_,rfl,(sm.trans (cI.upd hq)).trans (cI.upd hl'),(sm.trans (cI.upd hq)).free hl',?_⟩
    rw[cE]
    show some (HO.lst ((nQ fN ⟨#[mr]⟩ i).map V.str++[V.str (fN i),V.str (fN i++⟨#[mr]⟩)]))=some (HO.lst ((nQ fN ⟨#[mr]⟩ i++[fN i,fN i++⟨#[mr]⟩]).map V.str))
    rw[map_append]
    rfl
   ·rintro σ H2 ⟨l,a,b,rfl,sm,hln,hl⟩
    refine⟨_,rfl,k l _ H2 sm hln hl (zh fN ⟨#[mr]⟩ (stem.length+1) fl (fun j=>?_) (by omega) (by omega) rfl (vJ mrl) (fun j q hj hq e=>?_))⟩
    ·show iC (putIn stem A _)
     rw[←aA]
     exact wO aL sL (gx (a22 _).1 (a22 _).2).2
    ·have e':putIn stem A (fJ ((N / 7+3 * (0+(j:Int))) % 22))=putIn stem A (fJ ((N / 7+3 * (0+(q:Int))) % 22)):=e
     rw[←aA]at e'
     have e2:=v9 (a22 _).1 (a22 _).2 (a22 _).1 (a22 _).2 (xv aL e')
     omega
theorem w4:cJ ["_law_number", "_law_kind"] ["_law_number"] (cG mC):={}
theorem wg (D:Df K mg "_law_hour" mC ["_law_number"] f fd):Gd P w K mg base 1 "_law_hour" j7:=by
 refine aH D w4 fun X H vs Q E hh h=>?_
 obtain⟨n,rfl,k⟩:=h
 obtain⟨S0,S1,_⟩:=hh.eE [0,1]
 have big:(10:Int) ^ Int.toNat 18=1000000000000000000:=by decide+kernel
 have r3:0≤n / 8 % 3∧n / 8 % 3 < 3:=⟨Int.emod_nonneg _ (by decide),Int.emod_lt_of_pos _ (by decide)⟩
 have r12:0≤n / 8 % 12∧n / 8 % 12 < 12:=⟨Int.emod_nonneg _ (by decide),Int.emod_lt_of_pos _ (by decide)⟩
 have rb:0≤n / 8 % ((10:Int) ^ Int.toNat 18+1)∧n / 8 % ((10:Int) ^ Int.toNat 18+1) < (10:Int) ^ Int.toNat 18+1:=⟨Int.emod_nonneg _ (by decide+kernel),Int.emod_lt_of_pos _ (by decide+kernel)⟩
 refine⟨_,(af (aB S1 hh.nd (ah aO (aa S0) ae))
 (af (aJ (aF aK (aa S1) ae (L2.cK _))
 (aj (au (ah J.k6 (ah cb ae ae) (ah aO (ah a7 (aa S0) ae) ae))))
 aM)
 (af (aJ (aF aK (aa S1) ae (L2.cK _))
 (aj (au (ah aO (ah a7 (aa S0) ae) (ah a6 (ah cb ae ae) ae))))
 aM)
 (aj (au (ah aO (ah a7 (aa S0) ae) ae)))))),?_⟩
 refine⟨_,rfl,_,_,rfl,rfl,(by show(0:Int) < 8;decide),?_⟩
 refine⟨_,rfl,rfl,_,rfl,dG (fun _=>?_) (fun _=>?_)⟩
 ·exact⟨_,_,rfl,rfl,⟨by decide,by decide,by decide⟩,_,rfl,_,_,rfl,rfl,⟨by decide,by decide⟩,_,_,rfl,rfl,(by show(0:Int) < 3;decide),_,_,rfl,rfl,k _ ⟨by omega,by omega⟩⟩
 refine⟨_,rfl,rfl,_,rfl,dG (fun _=>?_) (fun _=>?_)⟩
 ·exact⟨_,rfl,_,_,rfl,rfl,⟨by decide,by decide⟩,_,_,rfl,rfl,⟨by decide,by decide,by decide⟩,_,_,rfl,rfl,_,_,rfl,rfl,(by show(0:Int) < 10 ^ Int.toNat 18+1;decide+kernel),k _ ⟨rb.1,by omega⟩⟩
 ·exact⟨_,rfl,_,_,rfl,rfl,⟨by decide,by decide⟩,_,_,rfl,rfl,(by show(0:Int) < 12;decide),k _ ⟨by omega,by omega⟩⟩
theorem v5:cJ ["_law_number", "_law_names_here"] ["_law_number", "_law_names_here"] (cG ng):={}
theorem v3 (D:Df K mg "_law_tale" ng ["_law_number", "_law_names_here"] f fd) (T:Txt K mg kw C):Gd P w K mg base 1 "_law_tale" pK:=by
 refine aH D v5 fun X H vs Q E hh h=>?_
 obtain⟨n,l,us,rfl,hl,hU,k⟩:=h
 obtain⟨S0,S1,_⟩:=hh.eE [0,1]
 have B_range:=hh.b T.b_range
 have B_tuple:=hh.b T.b_tuple
 have r6:0≤n % 6∧n % 6 < 6:=⟨Int.emod_nonneg _ (by decide),Int.emod_lt_of_pos _ (by decide)⟩
 have hsz:sizeLine=16777216:=sizeLine_eq
 have u24:=hU.len
 have at24:∀x:Int,um (us.map V.str) (x % 24)=some (.str (us.getD (x % 24).toNat ""))∧us.getD (x % 24).toNat "" ∈us:=fun x=>by
  have h0:0≤x % 24:=Int.emod_nonneg _ (by decide)
  have h1:x % 24 < 24:=Int.emod_lt_of_pos _ (by decide)
  have hj:(x % 24).toNat < us.length:=by omega
  have eg:us.getD (x % 24).toNat "" =us[(x % 24).toNat]:=by
   rw[getD_eq_getElem?_getD,getElem?_eq_getElem hj]
   rfl
  have e:(((x % 24).toNat:Nat):Int)=x % 24:=Int.toNat_of_nonneg h0
  have:=dv (xs:=us.map V.str) (j:=(x % 24).toNat) (v:=V.str us[(x % 24).toNat]) (by rw[getElem?_map,getElem?_eq_getElem hj];rfl)
  rw[e]at this
  rw[eg]
  exact⟨this,getElem_mem hj⟩
 refine⟨_,(aj (au (bG B_tuple J.fO L2.j8 (ak (bW (is:=[0,1]) (ns:=["_law_number", "_law_names_here"]) hh.calm (J.e9 B_range (ak (ah a6 ae (ah aO (aa S0) ae)))) {} (fun _ _ _ _ _=>(ag J.yn (bU (i:=1) rfl rfl (by decide) (by decide)) (ah aO (ah a7 (bU (i:=0) rfl rfl (by decide) (by decide)) (ah a6 (ah bA ae (bP rfl (by decide) (by decide))) ae)) ae) bN)) hh.hsc hh.hN))))),?_⟩
 refine⟨_,rfl,_,_,rfl,rfl,(by show(0:Int) < 6;decide),_,_,rfl,rfl,1+n % 6,rfl,by omega,by omega,rQ (lo:=0) (n:=(1+n % 6).toNat) (fun v=>match v with|.int i=>.str (us.getD (n / (3 * i+7) % 24).toNat "")|_=>.non) (by omega) (fun i H2 Q' hi sm q'=>?_) (fun D' hD=>?_)⟩
 ·exact⟨_,rfl,_,rfl,_,rfl,_,_,rfl,rfl,.inl ⟨by decide,by decide⟩,_,_,rfl,rfl,_,_,rfl,rfl,⟨by omega,by omega⟩,_,_,rfl,rfl,(by show(0:Int) < 24;decide),xL (sm _ _ hl) ((at24 _).1) q'⟩
 ·refine⟨D',_,rfl,.inl ⟨cL.of cE,fun t ht=>?_⟩⟩
  refine k t ((List.range (1+n % 6).toNat).map fun(i:Nat)=>us.getD (n / (3 * (0+(i:Int))+7) % 24).toNat "") _ ((cI.upd hD).trans (cI.upd ht)) (cE.trans (by rw[map_map];rfl)) ?_ ?_ ?_
  ·rw[length_map,length_range];omega
  ·rw[length_map,length_range];omega
  ·intro x hx
   obtain⟨i,_,rfl⟩:=mem_map.mp hx
   exact hU.nm _ (at24 _).2
theorem j2{ps:List Str}{i:Int}(h0:0≤i)(h1:i < ps.length):∃z,um (ps.map V.str) i=some (.str z)∧ps[i.toNat]? =some z∧z∈ps:=by
 have hj:i.toNat < ps.length:=by omega
 have e:((i.toNat:Nat):Int)=i:=Int.toNat_of_nonneg h0
 have:=dv (xs:=ps.map V.str) (j:=i.toNat) (v:=V.str ps[i.toNat]) (by rw[getElem?_map,getElem?_eq_getElem hj];rfl)
 rw[e]at this
 exact⟨ps[i.toNat],this,getElem?_eq_getElem hj,getElem_mem hj⟩
theorem uU{ps:List Str}(nd:ps.Nodup){i j:Int}{y z:Str}(hi:ps[i.toNat]? =some y)(hj:ps[j.toNat]? =some z)(i0:0≤i)(j0:0≤j)(ne:i≠j):y≠z:=by
 rintro rfl
 obtain⟨a,e1⟩:=List.getElem?_eq_some_iff.mp hi
 obtain⟨b,e2⟩:=List.getElem?_eq_some_iff.mp hj
 have:=(getElem_inj nd).mp (e1.trans e2.symm)
 omega
theorem xB:cJ ["_law_number", "_law_persons", "_law_one", "_law_other"] ["_law_number", "_law_persons"] (cG nu):={}
theorem vQ (D:Df K mg "_law_talk" nu ["_law_number", "_law_persons"] f fd) (T:Txt K mg kw C) (G__law_hour:Gd P w K mg base 1 "_law_hour" j7):Gd P w K mg base 2 "_law_talk" pX:=by
 refine aH D xB fun X H vs Q E hh h=>?_
 obtain⟨n,l,ps,rfl,hl,hP,h2,k⟩:=h
 obtain⟨S0,S1,S2,S3,_⟩:=hh.eE [0,1,2,3]
 have B_len:=hh.b T.b_len
 have C__law_hour:=hh.c G__law_hour
 have pl:(ps.map V.str).length=ps.length:=length_map ..
 have hi:=hP.hi
 refine⟨_,(af (aB S2 hh.nd (ah aO (aa S0) (aE B_len aZ L2.cV (ak (aa S1)))))
 (af (aB S3 hh.nd (ah aO (ah a6 (ah a6 (aa S2) ae) (ah aO (ah a7 (aa S0) ae) (ah J.k6 (aE B_len aZ L2.cV (ak (aa S1))) ae))) (aE B_len aZ L2.cV (ak (aa S1)))))
 (aj (au (aR (bI (av C__law_hour (ak (ah a7 (aa S0) ae))) (ag a5 (aa S1) (aa S2) bo) (ag a5 (aa S1) (aa S3) bo) (ag a5 (bg (aQ aN aN aN)) (ah aO (ah a7 (aa S0) ae) ae) bN))))))),?_⟩
 refine⟨_,rfl,_,rfl,l,_,rfl,.inl (cL.of hl),_,_,rfl,rfl,(by omega),?_⟩
 refine⟨_,rfl,_,_,rfl,rfl,_,rfl,_,_,rfl,rfl,⟨by decide,by decide⟩,_,rfl,l,_,rfl,.inl (cL.of hl),_,_,rfl,rfl,_,_,rfl,rfl,(by omega),_,_,rfl,rfl,_,rfl,l,_,rfl,.inl (cL.of hl),_,_,rfl,rfl,(by omega),?_⟩
 dsimp only
 rw[pl]
 have o0:0≤n % (ps.length:Int):=Int.emod_nonneg _ (by omega)
 have o1:n % (ps.length:Int) < ps.length:=Int.emod_lt_of_pos _ (by omega)
 have r0:0≤n / 24 % ((ps.length:Int) - 1):=Int.emod_nonneg _ (by omega)
 have r1:n / 24 % ((ps.length:Int) - 1) < (ps.length:Int) - 1:=Int.emod_lt_of_pos _ (by omega)
 generalize hq:(n % (ps.length:Int)+1+n / 24 % ((ps.length:Int) - 1)) % (ps.length:Int)=q
 have q0:0≤q:=by rw[←hq];exact Int.emod_nonneg _ (by omega)
 have q1:q < ps.length:=by rw[←hq];exact Int.emod_lt_of_pos _ (by omega)
 have qn:q≠n % (ps.length:Int):=by
  rw[←hq]
  have:=rF (n:=n % (ps.length:Int)) (L:=ps.length) (by omega) r0 r1
  rw[Int.emod_emod]at this
  exact this
 obtain⟨y,ay,gy,my⟩:=j2 o0 o1
 obtain⟨z,az,gz,mz⟩:=j2 q0 q1
 have yz:y≠z:=uU hP.nd gy gz o0 q0 fun e=>qn e.symm
 obtain⟨wv,hw,hwm⟩:=zo (xs:=[V.str "both",V.str "both",V.str "one"]) (i:=n / 200 % 3) (Int.emod_nonneg _ (by decide)) (by
  have:n / 200 % 3 < 3:=Int.emod_lt_of_pos _ (by decide)
  show _ < (3:Int)
  omega)
 have hwy:∃wy:Str,wv=.str wy∧(wy= "both" ∨wy= "one"):=by
  simp only[mem_cons,not_mem_nil,or_false]at hwm
  rcases hwm with rfl|rfl|rfl
  ·exact⟨_,rfl,.inl rfl⟩
  ·exact⟨_,rfl,.inl rfl⟩
  ·exact⟨_,rfl,.inr rfl⟩
 obtain⟨wy,rfl,hwy⟩:=hwy
 refine⟨_,rfl,_,_,rfl,rfl,⟨by decide,by decide⟩,n / 600,rfl,fun h hho=>?_⟩
 refine⟨_,rfl,_,rfl,xL hl ay ⟨_,rfl,_,rfl,xL hl az ⟨n9,fun b3 hb3=>?_⟩⟩⟩
 refine⟨_,rfl,_,_,rfl,rfl,⟨by decide,by decide⟩,_,_,rfl,rfl,(by show(0:Int) < 3;decide),xL cE hw ⟨D0,fun t ht=>?_⟩⟩
 exact k (.ref t) _ ((cI.upd hb3).trans (cI.upd ht)) ⟨t,h,y,z,wy,rfl,cE,hho,my,mz,yz,hwy⟩
theorem rj:cJ ["_law_number", "_law_persons", "_law_person", "_law_kind", "_law_hour_here", "_law_end"] ["_law_number", "_law_persons"] (cG jy):={}
theorem qP (D:Df K mg "_law_saying" jy ["_law_number", "_law_persons"] f fd) (T:Txt K mg kw C) (G__law_hour:Gd P w K mg base 1 "_law_hour" j7):Gd P w K mg base 2 "_law_saying" t7:=by
 refine aH D rj fun X H vs Q E hh h=>?_
 obtain⟨n,l,ps,rfl,hl,hP,k⟩:=h
 obtain⟨S0,S1,S2,S3,S4,S5,_⟩:=hh.eE [0,1,2,3,4,5]
 have B_int:=hh.b T.b_int
 have B_len:=hh.b T.b_len
 have B_max:=hh.b T.b_max
 have B_min:=hh.b T.b_min
 have C__law_hour:=hh.c G__law_hour
 have pl:(ps.map V.str).length=ps.length:=length_map ..
 have hi:=hP.hi
 have lo:=hP.lo
 have o0:0≤n % (ps.length:Int):=Int.emod_nonneg _ (by omega)
 have o1:n % (ps.length:Int) < ps.length:=Int.emod_lt_of_pos _ (by omega)
 obtain⟨y,ay,gy,my⟩:=j2 o0 o1
 refine⟨_,(af (aB S2 hh.nd (ag a5 (aa S1) (ah aO (aa S0) (aE B_len aZ L2.cV (ak (aa S1)))) bN))
 (af (aB S3 hh.nd (ah aO (ah a7 (aa S0) ae) ae))
 (af (aB S4 hh.nd (av C__law_hour (ak (ah a7 (aa S0) ae))))
 (af (aJ (aF aK (aa S3) ae (L2.cK _))
 (aj (au (aR (aQ aN (aa S2) (aa S4)))))
 aM)
 (af (aJ (aF aK (aa S3) ae (L2.cK _))
 (aj (au (aR (aQ aN (aa S2) (ag a5 (bg (aD (aa S4) cj)) (bG B_int J.ku L2.xP (ak (aU aK (ah aO (ah a7 (aa S0) ae) ae) ae (L2.cK _)))) J.Bp)))))
 aM)
 (af (aJ (aF aK (aa S3) ae (L2.cK _))
 (af (aB S5 hh.nd (av C__law_hour (ak (ah a7 (aa S0) ae))))
 (aj (au (aR (bI aN (aa S2) (aE B_min (J.kq hh.calm) L2.CS (aD (aa S4) (aa S5))) (aE B_max (J.iS hh.calm) L2.y8 (aD (aa S4) (aa S5))))))))
 aM)
 (af (aJ (bf (br (aF aK (aa S3) ae (L2.cK _)) (bu (aF cf (aE B_len aZ L2.cV (ak (aa S1))) ae (L2.cK _)))))
 (aj (au (aR (aQ aN (aa S2) (ag a5 (aa S1) (ah aO (ah a6 (ah a6 (aa S0) ae) (ah aO (ah a7 (aa S0) ae) (ah J.k6 (aE B_len aZ L2.cV (ak (aa S1))) ae))) (aE B_len aZ L2.cV (ak (aa S1)))) bN)))))
 aM)
 (aj (au (aR (aQ aN (aa S2) (ah a7 (aa S4) ae)))))))))))),?_⟩
 refine⟨_,rfl,_,rfl,_,rfl,l,_,rfl,.inl (cL.of hl),_,_,rfl,rfl,(by omega),xL hl (by rw[pl];exact ay) ?_⟩
 refine⟨_,rfl,_,_,rfl,rfl,⟨by decide,by decide⟩,_,_,rfl,rfl,(by show(0:Int) < 5;decide),?_⟩
 refine⟨_,rfl,_,_,rfl,rfl,⟨by decide,by decide⟩,n / 120,rfl,fun h hho=>?_⟩
 refine⟨_,rfl,rfl,_,rfl,dG (fun _=>?_) (fun _=>?_)⟩
 ·refine⟨_,rfl,_,rfl,n9,fun t ht=>k (.ref t) _ (cI.upd ht) ⟨t,rfl,.inl ⟨y,h,cE,my,hho⟩⟩⟩
 refine⟨_,rfl,rfl,_,rfl,dG (fun _=>?_) (fun _=>?_)⟩
 ·refine⟨_,rfl,_,rfl,zD,fun b2 hb2=>?_⟩
  obtain⟨bv,hb,hbm⟩:=zo (xs:=[V.int h,V.non]) (i:=if decide (V.int (n / 7 % 9)=V.int 1) then 1 else 0) (by split<;>decide) (by show _ < (2:Int);split<;>decide)
  have hbv:bv=.non∨∃h:Int,bv=.int h∧cT h:=by
   simp only[mem_cons,not_mem_nil,or_false]at hbm
   rcases hbm with rfl|rfl
   ·exact .inr ⟨h,rfl,hho⟩
   ·exact .inl rfl
  refine⟨_,rfl,_,_,rfl,rfl,⟨by decide,by decide⟩,_,_,rfl,rfl,(by show(0:Int) < 9;decide),rfl,.inr ⟨_,rfl,xL cE hb ⟨n9,fun t ht=>?_⟩⟩⟩
  exact k (.ref t) _ ((cI.upd hb2).trans (cI.upd ht)) ⟨t,rfl,.inr (.inl ⟨y,bv,cE,my,hbv⟩)⟩
 refine⟨_,rfl,rfl,_,rfl,dG (fun _=>?_) (fun _=>?_)⟩
 ·refine⟨_,rfl,_,_,rfl,rfl,⟨by decide,by decide⟩,n / 1000,rfl,fun h2 hho2=>?_⟩
  refine⟨_,rfl,_,rfl,_,rfl,_,_,rfl,_,rfl,_,rfl,_,_,rfl,D0,fun t ht=>?_⟩
  refine k (.ref t) _ (cI.upd ht) ⟨t,rfl,.inr (.inr (.inl ⟨y,(if h2 < h then h2 else h),(if h2 > h then h2 else h),cE,my,?_,?_,?_⟩))⟩
  ·split
   ·exact hho2
   ·exact hho
  ·split
   ·exact hho2
   ·exact hho
  ·split<;>split<;>omega
 have last:∀(σ:St),True:=fun _=>True.intro
 refine⟨_,rfl,rfl,_,rfl,dG (fun _=>?_) (fun _=>?_)⟩
 ·refine⟨_,rfl,l,_,rfl,.inl (cL.of hl),_,_,rfl,rfl,_,rfl,dG (fun h2=>?_) (fun h2=>?_)⟩
  ·have p2:2≤ps.length:=by
    rw[decide_eq_true_iff,pl]at h2
    omega
   have r0:0≤n / 120 % ((ps.length:Int) - 1):=Int.emod_nonneg _ (by omega)
   have r1:n / 120 % ((ps.length:Int) - 1) < (ps.length:Int) - 1:=Int.emod_lt_of_pos _ (by omega)
   have rn:=rF (n:=n) (L:=ps.length) (by omega) r0 r1
   generalize hq:(n+1+n / 120 % ((ps.length:Int) - 1)) % (ps.length:Int)=q at rn
   have q0:0≤q:=by rw[←hq];exact Int.emod_nonneg _ (by omega)
   have q1:q < ps.length:=by rw[←hq];exact Int.emod_lt_of_pos _ (by omega)
   obtain⟨z,az,gz,mz⟩:=j2 q0 q1
   have yz:y≠z:=uU hP.nd gy gz o0 q0 fun e=>rn e.symm
   refine⟨_,rfl,_,rfl,_,rfl,_,_,rfl,rfl,_,rfl,_,_,rfl,rfl,⟨by decide,by decide⟩,_,rfl,l,_,rfl,.inl (cL.of hl),_,_,rfl,rfl,_,_,rfl,rfl,(by omega),_,_,rfl,rfl,_,rfl,l,_,rfl,.inl (cL.of hl),_,_,rfl,rfl,(by omega),xL hl (by rw[pl,hq];exact az) ⟨n9,fun t ht=>?_⟩⟩
   exact k (.ref t) _ (cI.upd ht) ⟨t,rfl,.inr (.inr (.inr ⟨y,z,cE,my,mz,yz⟩))⟩
  ·refine⟨_,rfl,_,rfl,_,_,rfl,rfl,⟨by decide,by decide⟩,n9,fun t ht=>k (.ref t) _ (cI.upd ht) ⟨t,rfl,.inr (.inl ⟨y,_,cE,my,.inr ⟨_,rfl,?_⟩⟩)⟩⟩
   have:=hho.1
   have:=hho.2
   exact⟨by omega,by omega⟩
 ·refine⟨_,rfl,_,rfl,_,_,rfl,rfl,⟨by decide,by decide⟩,n9,fun t ht=>k (.ref t) _ (cI.upd ht) ⟨t,rfl,.inr (.inl ⟨y,_,cE,my,.inr ⟨_,rfl,?_⟩⟩)⟩⟩
  have:=hho.1
  have:=hho.2
  exact⟨by omega,by omega⟩
theorem wZ:cJ ["_law_script", "_law_most", "_law_cells", "_law_names_here", "_law_persons", "_law_sights", "_law_talks", "_law_sayings", "_law_k", "_law_cell", "_law_number", "_law_kind", "_law_person"] ["_law_script", "_law_most"] (cG mi):={}
theorem zA(us:List Str){k:Int}(h0:0≤k)(h1:k≤us.length):∃vs:List Str,dz (us.map V.str) (some k) none=vs.map V.str∧vs.Sublist us∧vs.length=us.length - k.toNat:=by
 refine⟨_,oH ..,(take_sublist _ _).trans (List.drop_sublist _ _),?_⟩
 have e:HT.gu us.length 0 (some k)=k.toNat:=by
  show(if k < 0 then(k+(us.length:Int)).toNat else min k.toNat us.length)=_
  rw[if_neg (Int.not_lt.mpr h0)]
  exact min_eq_left (Int.toNat_le.mpr h1)
 rw[length_take,length_drop,HT.f9,e]
 exact Nat.min_self _
theorem yP(us:List Str){k:Int}(h0:0≤k):∃vs:List Str,dz (us.map V.str) none (some k)=vs.map V.str∧vs.Sublist us∧vs.length=min k.toNat us.length:=by
 refine⟨_,oH ..,(take_sublist _ _).trans (List.drop_sublist _ _),?_⟩
 have e:HT.gu us.length us.length (some k)=min k.toNat us.length:=by
  show(if k < 0 then(k+(us.length:Int)).toNat else min k.toNat us.length)=_
  rw[if_neg (Int.not_lt.mpr h0)]
 rw[length_take,length_drop,HT.f9,e]
 exact min_eq_left (min_le_right _ _)
theorem xu{u l p:Nat}{c1 c2:Int}(u24:u=24)(a:0≤c2∧c2 < 5)(b:0≤c1∧c1 < 12)(l1:l=u - c2.toNat)(lp:p=min (1+c1).toNat l):1≤p∧p≤24:=by
 rw[lp,l1,u24]
 refine⟨Nat.le_min.mpr ⟨by omega,by omega⟩,le_trans (Nat.min_le_left _ _) (by omega)⟩
inductive zV(a cl nl p S Tt Y:Addr)(H5:Hp)(ps:List Str)(n i:Nat)(σ:St)(H':Hp):Prop
 |mk(ss ts ys:List V)(e1 e2 e3 e4 e5:Option V)(e:σ=[some (.ref a),some (.int 12),some (.ref cl),some (.ref nl),some (.ref p),some (.ref S),some (.ref Tt),some (.ref Y),e1,e2,e3,e4,e5])
   (hs:H' S=some (.lst ss))(ht:H' Tt=some (.lst ts))(hy:H' Y=some (.lst ys))(kp:∀b o,H5 b=some o→b≠S→b≠Tt→b≠Y→H' b=some o)
   (ls:ss.length≤24)(lt:ts.length≤i)(ly:ys.length≤i)(li:i≤n)(gs:∀v∈ss,ej ps H' v)(gt:∀v∈ts,eQ ps H' v)(gy:∀v∈ys,gB ps H' v)
theorem both{G A:Prop}(g:G)(f:G→A):A:=f g
theorem wY (D:Df K mg "_law_book" mi ["_law_script", "_law_most"] f fd) (T:Txt K mg kw C) (G__law_hour:Gd P w K mg base 1 "_law_hour" j7) (G__law_names:Gd P w K mg base 1 "_law_names" pR) (G__law_tale:Gd P w K mg base 1 "_law_tale" pK)
  (G__law_talk:Gd P w K mg base 2 "_law_talk" pX) (G__law_saying:Gd P w K mg base 2 "_law_saying" t7):Gd P w K mg base 3 "_law_book" (pU K):=by
 refine aH D wZ fun X H vs Q E hh h=>?_
 obtain⟨a,ns,rfl,hS,hlen,k⟩:=h
 obtain⟨S0,S1,S2,S3,S4,S5,S6,S7,S8,S9,S10,S11,S12,_⟩:=hh.eE [0,1,2,3,4,5,6,7,8,9,10,11,12]
 have B_enumerate:=hh.b T.b_enumerate
 have B_len:=hh.b T.b_len
 have C__law_hour:=hh.c G__law_hour
 have C__law_names:=hh.c G__law_names
 have C__law_saying:=hh.c G__law_saying
 have C__law_tale:=hh.c G__law_tale
 have C__law_talk:=hh.c G__law_talk
 obtain rfl:=hh.fK
 have hsz:sizeLine=16777216:=sizeLine_eq
 refine⟨_,(af (aB S2 hh.nd (ah J.iY (aa S0) (bg (aQ ae ae ae))))
 (af (aB S3 hh.nd (av C__law_names (ak (ag a5 (aa S2) ae ao))))
 (af (aB S4 hh.nd (bQ ck (bQ ck (aa S3) (bM (ah aO (ag a5 (aa S2) ae ao) ae)) bY) bY (bM (ah a6 ae (ah aO (ag a5 (aa S2) ae ao) (aa S1))))))
 (af (aB S5 hh.nd (bg bz))
 (af (aB S6 hh.nd (bg bz))
 (af (aB S7 hh.nd (bg bz))
 (af (bq hh.own hh.calm (bX B_enumerate (ak (bQ ck (aa S0) (bM ae) (bM ae)))) (bC hh.calm (aG (aP S8 hh.nd) (aG (aP S9 hh.nd) bh)))
 (af (aB S10 hh.nd (ah aO (ah bA (ah a6 (ah aO (aa S9) (ah cb ae ae)) (ah bA (ah bA ae (aa S8)) (aa S8))) ae) (ah a6 (ah cb ae ae) ae)))
 (af (aB S11 hh.nd (ah aO (aa S10) ae))
 (aj (aJ (bf (br (aF bR (aa S11) ae (L2.cK _)) (bu (aF bR (aE B_len aZ L2.cV (ak (aa S5))) ae (L2.cK _)))))
 (af (aB S12 hh.nd (ag a5 (aa S4) (ah aO (ah a7 (aa S10) ae) (aE B_len aZ L2.cV (ak (aa S4)))) bN))
 (aj (bL (bF plainAttrs_list PySem.F.slot_list_append PySem.F.type_list_append bK (aa S5) (ak (aR (aQ (aa S12) (av C__law_hour (ak (ah a7 (aa S10) ae))) (av C__law_tale (aD (ah aO (ah a7 (aa S10) ae) (ah cb ae ae)) (aa S3))))))))))
 (aj (aJ (bf (br (aF bR (aa S11) ae (L2.cK _)) (bu (aF cf (aE B_len aZ L2.cV (ak (aa S4))) ae (L2.cK _)))))
 (aj (bL (bF plainAttrs_list PySem.F.slot_list_append PySem.F.type_list_append bK (aa S6) (ak (av C__law_talk (aD (ah a7 (aa S10) ae) (aa S4)))))))
 (aj (bL (bF plainAttrs_list PySem.F.slot_list_append PySem.F.type_list_append bK (aa S7) (ak (av C__law_saying (aD (ah a7 (aa S10) ae) (aa S4))))))))))))))
 (aj (au (bg (bI (aa S4) (aa S5) (aa S6) (aa S7)))))))))))),?_⟩
 refine⟨_,rfl,n9,fun z3 hz3=>?_⟩
 refine⟨a,z3,_,_,rfl,rfl,(cI.upd hz3).seq hS,cL.of cE,(by rw[length_map];show ns.length+3≤_;omega),fun cl hcl=>?_⟩
 have sc:=(cI.upd (o:=.lst [V.int 0,V.int 0,V.int 0]) hz3).trans (cI.upd (o:=.lst (ns.map V.int++[V.int 0,V.int 0,V.int 0])) hcl)
 have hcells:upd (upd H z3 (.lst [V.int 0,V.int 0,V.int 0])) cl (.lst (ns.map V.int++[V.int 0,V.int 0,V.int 0])) cl=some (.lst (ns.map V.int++[V.int 0,V.int 0,V.int 0])):=cE
 generalize upd (upd H z3 (.lst [V.int 0,V.int 0,V.int 0])) cl (.lst (ns.map V.int++[V.int 0,V.int 0,V.int 0]))=H1 at sc hcells
 have cellAt:∀i:Nat,i < 3→∃c:Int,um (ns.map V.int++[V.int 0,V.int 0,V.int 0]) (i:Int)=some (.int c):=fun i hi=>by
  obtain⟨v,hv,hm⟩:=zo (xs:=ns.map V.int++[V.int 0,V.int 0,V.int 0]) (i:=(i:Int)) (by omega) (by rw[length_append];show _ < (((ns.map V.int).length+3:Nat):Int);omega)
  rw[mem_append]at hm
  rcases hm with hm|hm
  ·obtain⟨c,_,rfl⟩:=mem_map.mp hm
   exact⟨c,hv⟩
  ·simp only[mem_cons,not_mem_nil,or_false]at hm
   rcases hm with rfl|rfl|rfl<;>exact⟨0,hv⟩
 obtain⟨c0,hc0⟩:=cellAt 0 (by decide)
 obtain⟨c1,hc1⟩:=cellAt 1 (by decide)
 obtain⟨c2,hc2⟩:=cellAt 2 (by decide)
 refine⟨_,rfl,xL hcells hc0 ⟨c0,rfl,fun nl us H2 s12 nln hnl hU=>?_⟩⟩
 have u24:=hU.len
 have k5:0≤c2 % 5∧c2 % 5 < 5:=⟨Int.emod_nonneg _ (by decide),Int.emod_lt_of_pos _ (by decide)⟩
 have k24:0≤c1 % 12∧c1 % 12 < 12:=⟨Int.emod_nonneg _ (by decide),Int.emod_lt_of_pos _ (by decide)⟩
 obtain⟨us1,e1,sub1,l1⟩:=zA us (k:=c2 % 5) k5.1 (by omega)
 obtain⟨ps,e2,sub2,lp⟩:=yP us1 (k:=1+c1 % 12) (by omega)
 refine⟨_,rfl,_,rfl,xL (s12 _ _ hcells) hc2 ⟨_,_,rfl,rfl,(by show(0:Int) < 5;decide),_,rfl,nl,_,rfl,cL.of hnl,?_⟩⟩
 rw[show dz (us.map V.str) (some (c2 % 5)) none=us1.map V.str from e1]
 refine fun p1 hp1=>?_
 refine⟨_,rfl,xL ((cI.upd hp1) _ _ (s12 _ _ hcells)) hc1 ⟨_,rfl,_,_,rfl,rfl,(by show(0:Int) < 12;decide),_,_,rfl,rfl,_,rfl,p1,_,rfl,cL.of cE,?_⟩⟩
 rw[show dz (us1.map V.str) none (some (1+c1 % 12))=ps.map V.str from e2]
 refine fun p hp=>?_
 have subp:=sub2.trans sub1
 have pln:=xu u24 k5 k24 l1 lp
 have hP:eR ps:=⟨pln.1,pln.2,hU.nd.sublist subp,fun z hz=>hU.nm z (subp.mem hz)⟩
 clear k5 k24 l1 lp u24 e1 e2 sub1 sub2 subp
 have hpp:upd (upd H2 p1 (.lst (us1.map V.str))) p (.lst (ps.map V.str)) p=some (.lst (ps.map V.str)):=cE
 have s23:=(cI.upd (o:=.lst (us1.map V.str)) hp1).trans (cI.upd (o:=.lst (ps.map V.str)) hp)
 have pnn:H2 p=none:=(cI.upd (o:=.lst (us1.map V.str)) hp1).free hp
 generalize upd (upd H2 p1 (.lst (us1.map V.str))) p (.lst (ps.map V.str))=H3 at hpp s23
 have s03:=(sc.trans s12).trans s23
 have pn:H p=none:=(sc.trans s12).free pnn
 refine⟨xG,fun S hSn=>⟨xG,fun Tt hTn=>⟨xG,fun Y hYn=>?_⟩⟩⟩
 have sS:=cI.upd (o:=.lst []) hSn
 have sT:=cI.upd (o:=.lst []) hTn
 have sY:=cI.upd (o:=.lst []) hYn
 have nST:S≠Tt:=cF cE hTn
 have nSY:S≠Y:=cF (sT _ _ cE) hYn
 have nTY:Tt≠Y:=cF cE hYn
 have npS:p≠S:=cF hpp hSn
 have npT:p≠Tt:=cF (sS _ _ hpp) hTn
 have npY:p≠Y:=cF (sT _ _ (sS _ _ hpp)) hYn
 have hnS:H S=none:=s03.free hSn
 have hnT:H Tt=none:=(s03.trans sS).free hTn
 have hnY:H Y=none:=((s03.trans sS).trans sT).free hYn
 have hS4:upd (upd (upd H3 S (.lst [])) Tt (.lst [])) Y (.lst []) S=some (.lst []):=sY _ _ (sT _ _ cE)
 have hT4:upd (upd (upd H3 S (.lst [])) Tt (.lst [])) Y (.lst []) Tt=some (.lst []):=sY _ _ cE
 have hY4:upd (upd (upd H3 S (.lst [])) Tt (.lst [])) Y (.lst []) Y=some (.lst []):=cE
 have s34:=(sS.trans sT).trans sY
 generalize upd (upd (upd H3 S (.lst [])) Tt (.lst [])) Y (.lst [])=H4 at hS4 hT4 hY4 s34
 have s04:=s03.trans s34
 have hp4:=s34 _ _ hpp
 have hn4:=s34 _ _ (s23 _ _ hnl)
 have nnS:nl≠S:=cF (s23 _ _ hnl) hSn
 have nnT:nl≠Tt:=cF (sS _ _ (s23 _ _ hnl)) hTn
 have nnY:nl≠Y:=cF (sT _ _ (sS _ _ (s23 _ _ hnl))) hYn
 refine⟨_,rfl,_,rfl,_,rfl,a,_,rfl,s04.seq hS,fun sl hsl=>?_⟩
 have slen:(dz (ns.map V.int) (some 3) (some 63)).length≤60:=by
  unfold dz
  rw[length_take,length_drop,length_map]
  have e1:HT.gu ns.length 0 (some 3)=min 3 ns.length:=HT.iW ns.length 0 3
  have e2:HT.gu ns.length ns.length (some 63)=min 63 ns.length:=HT.iW ns.length ns.length 63
  rw[e1,e2]
  refine le_trans (Nat.min_le_left _ _) ?_
  rw[Nat.min_eq_right hlen]
  rcases Nat.le_total 3 ns.length with h3|h3
  ·rw[min_eq_left h3]
   exact Nat.sub_le_of_le_add hlen
  ·rw[Nat.min_eq_right h3,sub_self]
   exact zero_le _
 have sints:∀v∈dz (ns.map V.int) (some 3) (some 63),∃c:Int,v=.int c:=fun v hv=>by
  obtain⟨c,_,rfl⟩:=mem_map.mp (mem_of_mem_drop (mem_of_mem_take hv))
  exact⟨c,rfl⟩
 have hsl5:upd H4 sl (.lst (dz (ns.map V.int) (some 3) (some 63))) sl=some (.lst (dz (ns.map V.int) (some 3) (some 63))):=cE
 have s45:=cI.upd (o:=.lst (dz (ns.map V.int) (some 3) (some 63))) hsl
 have nlS:sl≠S:=(cF hS4 hsl).symm
 have nlT:sl≠Tt:=(cF hT4 hsl).symm
 have nlY:sl≠Y:=(cF hY4 hsl).symm
 generalize upd H4 sl (.lst (dz (ns.map V.int) (some 3) (some 63)))=H5 at hsl5 s45
 generalize dz (ns.map V.int) (some 3) (some 63)=cs at slen sints hsl5
 have s05:=s04.trans s45
 refine⟨sl,rfl,⟨_,cL.of hsl5⟩,hJ (K:=X.K) (a:=sl) (xs:=cs) (zV a cl nl p S Tt Y H5 ps cs.length)
  ⟨[],[],[],none,none,none,none,none,rfl,s45 _ _ hS4,s45 _ _ hT4,s45 _ _ hY4,fun b o e _ _ _=>e,by decide,by decide,by decide,zero_le _,(fun v hv=>by cases hv),(fun v hv=>by cases hv),(fun v hv=>by cases hv)⟩
  (by rintro i σ H' ⟨_,_,_,_,_,_,_,_,_,_,_,_,kp,_⟩;exact cL.of (kp _ _ hsl5 nlS nlT nlY)) ?_ ?_⟩
 ·rintro i x q σ H6 hx hq ⟨ss,ts,ys,e1,e2,e3,e4,e5,rfl,hs6,ht6,hy6,kp,ls,lt,ly,li,gs,gt,gy⟩
  obtain⟨c,rfl⟩:=sints x (mem_of_getElem? hx)
  have hi:i < cs.length:=(List.getElem?_eq_some_iff.mp hx).1
  refine⟨q,_,rfl,c8.of cE,rfl,_,_,rfl,_,_,rfl,rfl,?_⟩
  have s6:=cI.upd (o:=.tup [.int i,.int c]) hq
  have hs7:=s6 _ _ hs6
  have ht7:=s6 _ _ ht6
  have hy7:=s6 _ _ hy6
  have kp7:∀b o,H5 b=some o→b≠S→b≠Tt→b≠Y→upd H6 q (.tup [.int i,.int c]) b=some o:=fun b o e n1 n2 n3=>s6 _ _ (kp b o e n1 n2 n3)
  have gs7:∀v∈ss,ej ps (upd H6 q (.tup [.int i,.int c])) v:=fun v hv=>(gs v hv).mono (Tk.of s6)
  have gt7:∀v∈ts,eQ ps (upd H6 q (.tup [.int i,.int c])) v:=fun v hv=>(gt v hv).mono (Tk.of s6)
  have gy7:∀v∈ys,gB ps (upd H6 q (.tup [.int i,.int c])) v:=fun v hv=>(gy v hv).mono (Tk.of s6)
  generalize upd H6 q (.tup [.int i,.int c])=H7 at hs7 ht7 hy7 kp7 gs7 gt7 gy7
  have hp7:=kp7 _ _ (s45 _ _ hp4) npS npT npY
  have hn7:=kp7 _ _ (s45 _ _ hn4) nnS nnT nnY
  refine⟨_,rfl,_,_,rfl,rfl,⟨by decide,by decide,by decide⟩,_,_,rfl,rfl,(by show(0:Int) < 10 ^ Int.toNat 40;decide+kernel),_,rfl,_,_,rfl,rfl,.inl ⟨by decide,by decide⟩,_,rfl,_,_,rfl,rfl,.inr ⟨by omega,by omega⟩,_,_,rfl,rfl,_,_,rfl,rfl,.inr ⟨by decide,by decide⟩,_,_,rfl,rfl,⟨by decide,by decide,by decide⟩,_,_,rfl,rfl,_,_,rfl,rfl,(by show(0:Int) < 10 ^ Int.toNat 41+7;decide+kernel),?_⟩
  dsimp only
  generalize (c % 10 ^ Int.toNat 40+31 * (i:Int) * (i:Int)) * 48271 % (10 ^ Int.toNat 41+7)=N
  refine⟨_,rfl,_,_,rfl,rfl,(by show(0:Int) < 8;decide),?_⟩
  have pl:(ps.map V.str).length=ps.length:=length_map ..
  have plo:=hP.lo
  refine both ?_ fun other=>⟨_,rfl,_,_,rfl,rfl,_,rfl,dG (fun _=>⟨_,rfl,S,_,rfl,.inl (cL.of hs7),_,_,rfl,rfl,_,rfl,dG (fun h24=>?_) (fun _=>other)⟩) (fun _=>other)⟩
  ·refine both ?_ fun other=>⟨_,rfl,_,_,rfl,rfl,_,rfl,dG (fun _=>⟨_,rfl,p,_,rfl,.inl (cL.of hp7),_,_,rfl,rfl,_,rfl,dG (fun h1=>?_) (fun _=>other)⟩) (fun _=>other)⟩
   ·refine⟨_,rfl,.inl ⟨rfl,_,cL.of hy7⟩,_,rfl,_,_,rfl,rfl,⟨by decide,by decide⟩,_,rfl,N / 8,p,ps,rfl,hp7,hP,fun v H8 s8 hv8=>?_⟩
    refine⟨Y,ys,v,rfl,rfl,s8 _ _ hy7,by omega,?_⟩
    have tk:=(Tk.of s8).trans (Tk.upd (s8 _ _ hy7) (ys:=ys++[v]))
    refine⟨ss,ts,ys++[v],_,_,_,_,_,rfl,(by rw[cH nSY];exact s8 _ _ hs7),(by rw[cH nTY];exact s8 _ _ ht7),cE,fun b o e n1 n2 n3=>(by rw[cH n3];exact s8 _ _ (kp7 b o e n1 n2 n3)),ls,by omega,(by rw[length_append];show ys.length+1≤i+1;omega),by omega,fun v hv=>(gs7 v hv).mono tk,fun v hv=>(gt7 v hv).mono tk,fun u hu=>?_⟩
    rw[mem_append,mem_singleton]at hu
    rcases hu with hu|rfl
    ·exact(gy7 u hu).mono tk
    ·exact hv8.mono (Tk.upd (s8 _ _ hy7))
   ·have p2:2≤ps.length:=by
     rw[decide_eq_true_iff,pl]at h1
     omega
    refine⟨_,rfl,.inl ⟨rfl,_,cL.of ht7⟩,_,rfl,_,_,rfl,rfl,⟨by decide,by decide⟩,_,rfl,N / 8,p,ps,rfl,hp7,hP,p2,fun v H8 s8 hv8=>?_⟩
    refine⟨Tt,ts,v,rfl,rfl,s8 _ _ ht7,by omega,?_⟩
    have tk:=(Tk.of s8).trans (Tk.upd (s8 _ _ ht7) (ys:=ts++[v]))
    refine⟨ss,ts++[v],ys,_,_,_,_,_,rfl,(by rw[cH nST];exact s8 _ _ hs7),cE,(by rw[cH nTY.symm];exact s8 _ _ hy7),fun b o e n1 n2 n3=>(by rw[cH n2];exact s8 _ _ (kp7 b o e n1 n2 n3)),ls,(by rw[length_append];show ts.length+1≤i+1;omega),by omega,by omega,fun v hv=>(gs7 v hv).mono tk,fun u hu=>?_,fun v hv=>(gy7 v hv).mono tk⟩
    rw[mem_append,mem_singleton]at hu
    rcases hu with hu|rfl
    ·exact(gt7 u hu).mono tk
    ·exact hv8.mono (Tk.upd (s8 _ _ ht7))
  ·have s24:ss.length < 24:=by
    rw[decide_eq_true_iff]at h24
    omega
   have o0:0≤N / 8 % (ps.length:Int):=Int.emod_nonneg _ (by omega)
   have o1:N / 8 % (ps.length:Int) < ps.length:=Int.emod_lt_of_pos _ (by omega)
   obtain⟨y,ay,gy',my⟩:=j2 o0 o1
   refine⟨_,rfl,_,rfl,_,_,rfl,rfl,⟨by decide,by decide⟩,_,rfl,p,_,rfl,.inl (cL.of hp7),_,_,rfl,rfl,(by omega),xL hp7 (by rw[pl];exact ay) ?_⟩
   refine⟨_,rfl,.inl ⟨rfl,_,cL.of hs7⟩,_,rfl,_,rfl,_,_,rfl,rfl,⟨by decide,by decide⟩,N / 200,rfl,fun h hho=>?_⟩
   refine⟨_,rfl,_,_,rfl,rfl,⟨by decide,by decide⟩,_,_,rfl,rfl,⟨by decide,by decide,by decide⟩,_,_,rfl,rfl,(by show(0:Int) < 10 ^ Int.toNat 9;decide+kernel),_,rfl,_,nl,us,rfl,hn7,hU,fun tl ws H8 s8 htl w1 w6 hw=>?_⟩
   refine⟨n9,fun tp htp=>?_⟩
   have s9:=s8.trans (cI.upd (o:=.tup [.str y,.int h,.ref tl]) htp)
   refine⟨S,ss,.ref tp,rfl,rfl,s9 _ _ hs7,by omega,?_⟩
   have tk:=(Tk.of s9).trans (Tk.upd (s9 _ _ hs7) (ys:=ss++[.ref tp]))
   refine⟨ss++[.ref tp],ts,ys,_,_,_,_,_,rfl,cE,(by rw[cH nST.symm];exact s9 _ _ ht7),(by rw[cH nSY.symm];exact s9 _ _ hy7),fun b o e n1 n2 n3=>(by rw[cH n1];exact s9 _ _ (kp7 b o e n1 n2 n3)),(by rw[length_append];show ss.length+1≤24;omega),by omega,by omega,by omega,fun v hv=>?_,fun v hv=>(gt7 v hv).mono tk,fun v hv=>(gy7 v hv).mono tk⟩
   rw[mem_append,mem_singleton]at hv
   rcases hv with hv|rfl
   ·exact(gs7 v hv).mono tk
   ·have n1:tp≠S:=(cF (s8 _ _ hs7) htp).symm
    have n2:tl≠S:=eW htl (s8 _ _ hs7) (by intro z;cases z)
    exact⟨tp,y,h,tl,ws,rfl,(by rw[cH n1];exact cE),my,hho,(by rw[cH n2];exact(cI.upd htp) _ _ htl),w1,w6,hw⟩
 ·rintro σ H6 ⟨ss,ts,ys,e1,e2,e3,e4,e5,rfl,hs6,ht6,hy6,kp,ls,lt,ly,li,gs,gt,gy⟩
  refine⟨_,rfl,_,rfl,_,rfl,_,rfl,D0,fun r hr=>?_⟩
  have s6:=cI.upd (o:=.lst [.ref p,.ref S,.ref Tt,.ref Y]) hr
  have hp6:=kp _ _ (s45 _ _ hp4) npS npT npY
  have s06:cI H H6:=fun b o e=>kp b o (s05 _ _ e) (cF e hnS) (cF e hnT) (cF e hnY)
  have rp:r≠p:=(cF hp6 hr).symm
  have rS:r≠S:=(cF hs6 hr).symm
  have rT:r≠Tt:=(cF ht6 hr).symm
  have rY:r≠Y:=(cF hy6 hr).symm
  refine k r p S Tt Y ps ss ts ys _ (s06.trans s6) (s06.free hr) pn hnS hnT hnY ?_ cE (s6 _ _ hp6) (s6 _ _ hs6) (s6 _ _ ht6) (s6 _ _ hy6) ⟨hP,ls,fun v hv=>(gs v hv).mono (Tk.of s6),by omega,fun v hv=>(gt v hv).mono (Tk.of s6),by omega,fun v hv=>(gy v hv).mono (Tk.of s6)⟩ (by omega) (by omega)
  simp only[nodup_cons,mem_cons,not_mem_nil,or_false,not_or,nodup_nil,and_true,not_false_eq_true]
  exact⟨⟨rp,rS,rT,rY⟩,⟨npS,npT,npY⟩,⟨nST,nSY⟩,nTY⟩
end K16
namespace K16
open PySem L2
variable {P:Program}{w:World}{K:PySem.W.Frag}{mg:Str→Option Value}{base:Heap}{kw C:Addr}{f:Addr}{fd:FuncData}
theorem nz{sg:List GD}{sd:List SD}{n:Int}(h0:0≤n):tG (.int n) (dO sg sd sg.length)=i9 sg (jf sd) n.toNat:=by
 unfold tG dO
 rw[Bool.eq_iff_iff,any_eq_true]
 constructor
 ·rintro⟨v,hv,e⟩
  obtain⟨i,hi,rfl⟩:=mem_map.mp hv
  have e:((i:Int) == n)=true:=e
  have e:=eq_of_beq e
  rw[←e,Int.toNat_natCast]
  exact(mem_filter.mp hi).2
 ·intro h
  obtain⟨m,rfl⟩:=Int.eq_ofNat_of_zero_le h0
  rw[Int.toNat_natCast]at h
  have hm:m < sg.length:=by
   unfold i9 at h
   cases q:sg[m]? with
   |none=>rw[q]at h;cases h
   |some d=>exact(List.getElem?_eq_some_iff.mp q).1
  exact⟨.int m,mem_map_of_mem (mem_filter.mpr ⟨mem_range.mpr hm,h⟩),beq_self_eq_true _⟩
theorem lq(sg:List GD)(sd:List SD)(n:Nat):(dO sg sd n).all de=true:=by
 rw[all_eq_true]
 intro v hv
 obtain⟨i,rfl⟩:=sJ sg sd n v hv
 rfl
inductive IW(vs:List V)(H:Hp)(Q:VK):Prop
 |mk(so to l:Addr)(tv us:List V)(sg:List GD)(qd:List QD)(sd:List SD)(st:List RI)(e:vs=[.ref so,.ref to,.ref l])(hso:H so=some (.lst (dO sg sd sg.length)))(hto:H to=some (.lst tv))(tu:fq H tv ((fB 0 (gU qd)).filter (dF qd sd)))(hl:H l=some (.lst us))(lz:Lz eD H us st)(gd:∀d∈st,uf sg qd d.2.1 d.1 d.2.2)(k:∀H',cI H H'→Q (.bl (st.all (qo sg qd sd))) H')
def Cy:Sp:=fun vs H Q _=>IW vs H Q
theorem oj:cJ ["_law_sights", "_law_tellings", "_law_story_here", "_law_person", "_law_hour_here", "_law_way"] ["_law_sights", "_law_tellings", "_law_story_here"] (cG gN):={}
theorem Ey (D:Df K mg "_law_all_open" gN ["_law_sights", "_law_tellings", "_law_story_here"] f fd):Gd P w K mg base 1 "_law_all_open" Cy:=by
 refine aH D oj fun X H vs Q E hh h=>?_
 obtain⟨so,to,l,tv,us,sg,qd,sd,st,rfl,hso,hto,tu,hl,lz,gd,k⟩:=h
 obtain⟨S0,S1,S2,S3,S4,S5,_⟩:=hh.eE [0,1,2,3,4,5]
 have hu:=ft hh.room
 have ul:=lz.1
 refine⟨_,(af (bq hh.own hh.calm (aV (aa S2)) (bC hh.calm (aG (aP S3 hh.nd) (aG (aP S4 hh.nd) (aG (aP S5 hh.nd) bh))))
 (af (aJ (bf (br (aF aK (ag aw (aa S5) ae ao) aN (L2.cK _)) (bu (aF J.ei (ag aw (aa S5) ae ao) (aa S0) b9))))
 (aj (au bp))
 aM)
 (aj (aJ (bf (br (aF aK (ag aw (aa S5) ae ao) aN (L2.cK _)) (bu (aF (J.eJ hu) (aR (aQ (ag aw (aa S5) ae ao) (ag aw (aa S5) ae ao) (aa S3))) (aa S1) b9))))
 (aj (au bp))
 aM))))
 (aj (au bp))),?_⟩
 refine⟨_,rfl,l,rfl,⟨_,cL.of hl⟩,el (K:=X.K) (a:=l) (xs:=us) (fun i σ H2=>∃e1 e2 e3:Option V,σ=[some (.ref so),some (.ref to),some (.ref l),e1,e2,e3]∧cI H H2∧(st.take i).all (qo sg qd sd)=true) ⟨none,none,none,rfl,cI.refl _,rfl⟩ ?_ ?_ ?_⟩
 ·rintro i σ H2 hi ⟨e1,e2,e3,rfl,s2,_⟩
  exact cL.of (s2 _ _ hl)
 ·rintro i v σ H2 hv ⟨e1,e2,e3,rfl,s2,al⟩
  obtain⟨d,hd,a,wa,rfl,ha,hw⟩:=lz.at hv
  have md:=mem_of_getElem? hd
  have yes:qo sg qd sd d=true→(st.take (i+1)).all (qo sg qd sd)=true:=fun h=>by
   rw[take_add_one,hd,List.all_append,al]
   show(true && (qo sg qd sd d && true))=true
   rw[h]
   rfl
  have no:qo sg qd sd d=false→∀H',cI H2 H'→Q (.bl false) H':=fun h H' s'=>by
   have e:st.all (qo sg qd sd)=false:=by
    rw[List.all_eq_false]
    exact⟨d,md,by rw[h];exact Bool.false_ne_true⟩
   have:=k H' (s2.trans s')
   rw[e]at this
   exact this
  have g:=gd d md
  obtain⟨z,h,w⟩:=d
  refine⟨a,_,rfl,c8.of (s2 _ _ ha),rfl,_,_,rfl,_,_,rfl,_,_,rfl,rfl,?_⟩
  cases w with
  |saw n=>
   have hw2:H2 wa=some (.tup [.str "saw",.int n]):=s2 _ _ hw
   have e:qo sg qd sd (z,h,.saw n)=tG (.int n) (dO sg sd sg.length):=by
    show(decide (0≤n) && i9 sg (jf sd) n.toNat)=_
    rw[decide_eq_true g.1,Bool.true_and,nz g.1]
   rw[e]at yes no
   refine⟨_,rfl,xT hw2 rfl ⟨rfl,_,rfl,iP ⟨_,rfl,xT hw2 rfl ⟨_,rfl,so,_,rfl,.inl (cL.of (s2 _ _ hso)),rfl,lq sg sd _,_,rfl,dG (fun hb=>?_) (fun hb=>?_)⟩⟩⟩⟩
   ·exact no ((not_eq_true' _).mp hb) H2 (cI.refl _)
   ·refine⟨_,rfl,xT hw2 rfl ⟨rfl,_,rfl,iN (dt ⟨_,_,_,rfl,s2,yes ?_⟩)⟩⟩
    cases q:tG (.int n) (dO sg sd sg.length) with
    |true=>rfl
    |false=>exact absurd (by show(!tG (.int n) (dO sg sd sg.length))=true;rw[q];rfl) hb
  |hrd kk te=>
   have hw2:H2 wa=some (.tup [.str "heard",.int kk,.str te]):=s2 _ _ hw
   obtain⟨h0,q,h1,h2,h3⟩:=g
   obtain⟨m,rfl⟩:=Int.eq_ofNat_of_zero_le h0
   have e:qo sg qd sd (z,h,.hrd (m:Int) te)=decide ((m,te,z)∈(fB 0 (gU qd)).filter (dF qd sd)):=by
    show(decide (0≤(m:Int)) && decide ((((m:Int)).toNat,te,z)∈_))=_
    rw[decide_eq_true h0,Bool.true_and,Int.toNat_natCast]
   rw[e]at yes no
   refine⟨_,rfl,xT hw2 rfl ⟨rfl,_,rfl,iN (dt ?_)⟩⟩
   refine⟨_,rfl,xT hw2 rfl ⟨rfl,_,rfl,iP ?_⟩⟩
   refine⟨_,rfl,xT hw2 rfl ⟨_,rfl,xT hw2 rfl ⟨_,rfl,n9,fun c hc=>?_⟩⟩⟩
   have s3:=cI.upd (o:=.tup [.int (m:Int),.str te,.str z]) hc
   have h4:upd H2 c (.tup [.int (m:Int),.str te,.str z]) c=some (.tup [.int (m:Int),.str te,.str z]):=cE
   generalize upd H2 c (.tup [.int (m:Int),.str te,.str z])=H3 at s3 h4
   have s03:=s2.trans s3
   have tu3:=tu.mono (Tk.of s03)
   have ea:=vf tu3 (m,te,z)
   refine⟨_,rfl,c,to,_,tv,rfl,rfl,h4,cL.of (s03 _ _ hto),rfl,rf tu3,_,rfl,?_⟩
   rw[ea]
   refine dG (fun hb=>no ((not_eq_true' _).mp hb) H3 s3) (fun hb=>⟨_,_,_,rfl,s03,yes ?_⟩)
   cases q:decide ((m,te,z)∈(fB 0 (gU qd)).filter (dF qd sd)) with
   |true=>rfl
   |false=>rw[q]at hb;exact absurd rfl hb
 ·rintro σ H2 ⟨e1,e2,e3,rfl,s2,al⟩
  rw[ul,take_length]at al
  have:=k H2 s2
  rw[al]at this
  exact this
def qL(st:List RI)(sd:List SD):List Nat:=(List.range sd.length).filter (i9 sd fun d=> !sF st d)
def sU(st:List RI)(sd:List SD):List Nat:=(qL st sd).filter (i9 sd fun d=> !wx d)
theorem oU(st:List RI)(sd:List SD):((sU st sd).map fun i=>V.int (i:Nat)).isEmpty=FZ st sd:=by
 unfold FZ sU qL
 rw[List.isEmpty_map,Bool.eq_iff_iff,List.isEmpty_iff,List.filter_eq_nil_iff,all_eq_true]
 constructor
 ·intro h d hd
  obtain⟨i,hi⟩:=getElem?_of_mem hd
  have hl:=(List.getElem?_eq_some_iff.mp hi).1
  cases f:sF st d with
  |true=>rw[Bool.or_true]
  |false=>
   have:=h i (mem_filter.mpr ⟨mem_range.mpr hl,by rw[dy hi,f];rfl⟩)
   rw[dy hi]at this
   cases q:wx d with
   |true=>rfl
   |false=>rw[q]at this;exact absurd rfl this
 ·intro h i hi
  obtain⟨h1,h2⟩:=mem_filter.mp hi
  have hl:=mem_range.mp h1
  have hd:sd[i]? =some sd[i]:=getElem?_eq_getElem hl
  rw[dy hd]at h2 ⊢
  have:=h _ (mem_of_getElem? hd)
  have h2:=(not_eq_true' _).mp h2
  rw[h2,Bool.or_false]at this
  rw[this]
  exact Bool.false_ne_true
inductive Jx(C:Addr)(vs:List V)(H:Hp)(Q:VK):Prop
 |mk(x r p s t y p' s' t' y' l:Addr)(ps:List Str)(ss ts ys us:List V)(sd:List SD)(st:List RI)(e:vs=[.ref x,.ref r,.ref l])(bk:Bk C H x p' s' t' y' ps ss ts ys)(hr:H r=some (.lst [.ref p,.ref s,.ref t,.ref y]))(hy:H y=some (.lst ys))(sy:Sys H ys sd)(l60:ys.length≤60)(hl:H l=some (.lst us))(lz:Lz eD H us st)(nd:(st.map (·.1)).Nodup)(sl:st.length≤24)
   (k:∀o H',cI H H'→H o=none→H' o=some (.lst ((sU st sd).map fun i=>V.int (i:Nat)))→Q (.ref o) H')
def AW(C:Addr):Sp:=fun vs H Q _=>Jx C vs H Q
theorem rL:cJ ["_law_book_here", "_law_parts", "_law_story_here"] ["_law_book_here", "_law_parts", "_law_story_here"] (cG jA):={}
theorem ET (D:Df K mg "_law_others" jA ["_law_book_here", "_law_parts", "_law_story_here"] f fd) (G_unfitted:Gd P w K mg base 3 "unfitted" (Ct C)):Gd P w K mg base 4 "_law_others" (AW C):=by
 refine aH D rL fun X H vs Q E hh h=>?_
 obtain⟨x,r,p,s,t,y,p',s',t',y',l,ps,ss,ts,ys,us,sd,st,rfl,bk,hr,hy,sy,l60,hl,lz,nd,sl,k⟩:=h
 obtain⟨S0,S1,S2,_⟩:=hh.eE [0,1,2]
 have C_unfitted:=hh.c G_unfitted
 have hsz:sizeLine=16777216:=sizeLine_eq
 refine⟨_,(aj (au (bw (is:=[1]) (xs:=["_law_number"]) (ns:=["_law_parts"]) hh.calm (aV (av C_unfitted (aD (aa S0) (aa S2)))) {} (fun _ _ _ _ _=>(aX (i:=0) (by decide+kernel) rfl rfl)) (fun _ _ _ _ _=>(bT (aF cv (ag a9 (ag bO (ag bO (a8 (i:=1) rfl rfl (by decide) (by decide)) ae ao) (aI (i:=0) rfl rfl (by decide) (by decide)) bo) ae ao) aN (L2.cK _)))) (fun _ _ _ _ _=>(aI (i:=0) rfl rfl (by decide) (by decide))) hh.hsc hh.hN))),?_⟩
 refine⟨_,rfl,_,rfl,x,p',s',t',y',l,ps,ss,ts,ys,us,sd,st,rfl,bk,sy,l60,hl,lz,nd,sl,fun o H1 s1 no ho=>?_⟩
 have ho:H1 o=some (.lst ((qL st sd).map fun i=>V.int (i:Nat))):=ho
 have il:(qL st sd).length≤60:=by
  have:=length_filter_le (i9 sd fun d=> !sF st d) (List.range sd.length)
  rw[length_range]at this
  unfold qL
  have:=sy.1
  omega
 have im:∀n∈qL st sd,n < sd.length:=fun n hn=>mem_range.mp (mem_filter.mp hn).1
 have eo:sU st sd=(qL st sd).filter (i9 sd fun d=> !wx d):=rfl
 rw[eo]at k
 generalize qL st sd=ix at ho il im k
 refine⟨o,rfl,⟨_,cL.of ho⟩,dM (xs:=ix.map fun i=>V.int (i:Nat)) (i9 ix (i9 sd fun d=> !wx d)) (uL ix fun i=>V.int (i:Nat)) (cL.of ho) (by rw[length_map];omega) ?_ ?_⟩
 ·intro i os v H2 K1 K2 hv hos s2 k1 k2
  match os,hos with
  |[o1],_=>
   rw[getElem?_map]at hv
   obtain⟨n,hn,rfl⟩:=map_eq_some_iff.mp hv
   have nl:=im n (mem_of_getElem? hn)
   rw[dy hn]at k1 k2
   rw[gM hn]at k1
   obtain⟨v,hv'⟩:∃v,ys[n]? =some v:=⟨_,getElem?_eq_getElem (by rw[sy.1];exact nl)⟩
   obtain⟨d,a,hd,rfl,ha⟩:=sy.at hv'
   rw[dy hd]at k1 k2
   have s02:=s1.trans s2
   have ha2:=s02 _ _ ha
   refine⟨⟨[some (.int n)],rfl,rfl⟩,?_⟩
   cases d with
   |knew q h=>exact⟨_,rfl,xL (s02 _ _ hr) rfl ⟨_,rfl,xL (s02 _ _ hy) (dv hv') (xT ha2 rfl ⟨rfl,_,rfl,iN (k2 rfl H2 (cI.refl _))⟩)⟩⟩
   |unh q h=>exact⟨_,rfl,xL (s02 _ _ hr) rfl ⟨_,rfl,xL (s02 _ _ hy) (dv hv') (xT ha2 rfl ⟨rfl,_,rfl,iP ⟨_,rfl,k1 rfl H2 (cI.refl _)⟩⟩)⟩⟩
   |sil q b e=>exact⟨_,rfl,xL (s02 _ _ hr) rfl ⟨_,rfl,xL (s02 _ _ hy) (dv hv') (xT ha2 rfl ⟨rfl,_,rfl,iP ⟨_,rfl,k1 rfl H2 (cI.refl _)⟩⟩)⟩⟩
   |bar q q'=>exact⟨_,rfl,xL (s02 _ _ hr) rfl ⟨_,rfl,xL (s02 _ _ hy) (dv hv') (xT ha2 rfl ⟨rfl,_,rfl,iP ⟨_,rfl,k1 rfl H2 (cI.refl _)⟩⟩)⟩⟩
 ·intro D' H' hD' s' hd'
  rw[length_map,dZ]at hd'
  exact k D' H' (s1.trans s') (s1.free hD') hd'
def D6(sg:List GD)(sd:List SD)(H:Hp)(v:V):Prop:=∃(a b ta:Addr) (n:Nat) (g:GD),v=.ref a∧H a=some (.tup [.ref b,.int n])∧H b=some (.tup [.str g.1,.int g.2,.ref ta])∧sg[n]? =some g∧jf sd g=true
def D7(qd:List QD)(sd:List SD)(H:Hp)(v:V):Prop:=∃(a b:Addr) (t:TK) (q:QD),v=.ref a∧H a=some (.tup [.ref b,.int q.1])∧H b=some (.tup [.int t.1,.str t.2.1,.str t.2.2])∧t∈(fB 0 (gU qd)).filter (dF qd sd)∧qd[t.1]? =some q
theorem D6.mono{sg:List GD}{sd:List SD}{H H':Hp}(s:Tk H H'){v:V}(h:D6 sg sd H v):D6 sg sd H' v:=by
 obtain⟨a,b,ta,n,g,e,h1,h2,h3⟩:=h
 exact⟨a,b,ta,n,g,e,s _ _ h1,s _ _ h2,h3⟩
theorem D7.mono{qd:List QD}{sd:List SD}{H H':Hp}(s:Tk H H'){v:V}(h:D7 qd sd H v):D7 qd sd H' v:=by
 obtain⟨a,b,t,q,e,h1,h2,h3⟩:=h
 exact⟨a,b,t,q,e,s _ _ h1,s _ _ h2,h3⟩
inductive J6(vs:List V)(H:Hp)(Q:VK):Prop
 |mk(r p s t y so to:Addr)(ps:List Str)(ss ts tv:List V)(sg:List GD)(qd:List QD)(sd:List SD)(e:vs=[.ref r,.ref so,.ref to])(hr:H r=some (.lst [.ref p,.ref s,.ref t,.ref y]))(hs:H s=some (.lst ss))(ht:H t=some (.lst ts))(sl:ss.length≤24)(tl:ts.length≤120)(gs:Lz dA H ss sg)(qs:Lz d3 H ts qd)(qk:∀d∈qd,mQ ps d)(hso:H so=some (.lst (dO sg sd sg.length)))(hto:H to=some (.lst tv))(tu:fq H tv ((fB 0 (gU qd)).filter (dF qd sd)))
   (k:∀o vw tw (vws tws:List V) H',cI H H'→H' o=some (.lst [.ref vw,.ref tw])→H' vw=some (.lst vws)→H' tw=some (.lst tws)→vws.length≤24→tws.length≤240→(∀v∈vws,D6 sg sd H' v)→(∀v∈tws,D7 qd sd H' v)→Q (.ref o) H')
def CI:Sp:=fun vs H Q _=>J6 vs H Q
theorem lG:cJ ["_law_parts", "_law_sights", "_law_tellings", "_law_views"] ["_law_parts", "_law_sights", "_law_tellings"] (cG fm):={}
theorem ER (D:Df K mg "_law_open_parts" fm ["_law_parts", "_law_sights", "_law_tellings"] f fd):Gd P w K mg base 1 "_law_open_parts" CI:=by
 refine aH D lG fun X H vs Q E hh h=>?_
 obtain⟨r,p,s,t,y,so,to,ps,ss,ts,tv,sg,qd,sd,rfl,hr,hs,ht,sl,tl,gs,qs,qk,hso,hto,tu,k⟩:=h
 obtain⟨S0,S1,S2,S3,_⟩:=hh.eE [0,1,2,3]
 have hsz:sizeLine=16777216:=sizeLine_eq
 have ol:=mV sg sd sg.length
 have gl:=gs.1
 refine⟨_,(af (cw (is:=[0]) (xs:=["_law_number"]) (ns:=["_law_parts"]) S3 hh.nd hh.calm (aV (aa S1)) {} (fun _ _ _ _ _=>(aX (i:=0) (by decide+kernel) rfl rfl)) (fun _ _ _ _ _=>bE) (fun _ _ _ _ _=>(aR (aD (ag bO (ag bO (a8 (i:=1) rfl rfl (by decide) (by decide)) ae ao) (aI (i:=0) rfl rfl (by decide) (by decide)) bo) (aI (i:=0) rfl rfl (by decide) (by decide))))) hh.hsc hh.hN (by decide+kernel))
 (aj (au (bg (aD (aa S3) (bw (is:=[0]) (xs:=["_law_telling"]) (ns:=["_law_parts"]) hh.calm (aV (aa S2)) {} (fun _ _ _ _ _=>(aX (i:=0) (by decide+kernel) rfl rfl)) (fun _ _ _ _ _=>bE) (fun _ _ _ _ _=>(aR (aD (aI (i:=0) rfl rfl (by decide) (by decide)) (ag a9 (ag bO (ag bO (a8 (i:=1) rfl rfl (by decide) (by decide)) ae ao) (ag a9 (aI (i:=0) rfl rfl (by decide) (by decide)) ae ao) cy) ae ao)))) hh.hsc hh.hN)))))),?_⟩
 refine⟨_,rfl,so,rfl,⟨_,cL.of hso⟩,jF (fun _ H v=>D6 sg sd H v) (fun _ _ _ _ tk h=>h.mono tk) (cL.of hso) (by omega) ?_ ?_⟩
 ·intro i v H2 K1 hv s2 k1
  obtain⟨n,hn,rfl⟩:=mem_map.mp (mem_of_getElem? hv)
  obtain⟨nl,hp⟩:=mem_filter.mp hn
  have nl:=mem_range.mp nl
  obtain⟨g,hg⟩:∃g,sg[n]? =some g:=⟨_,getElem?_eq_getElem nl⟩
  rw[dy hg]at hp
  obtain⟨u,hu⟩:∃u,ss[n]? =some u:=⟨_,getElem?_eq_getElem (by rw[gl];exact nl)⟩
  obtain⟨b,ta,rfl,hb⟩:=gs.2 _ _ _ hu hg
  refine⟨_,rfl,xL (s2 _ _ hr) rfl ⟨_,rfl,xL (s2 _ _ hs) (dv hu) ⟨_,rfl,zD,fun a ha=>?_⟩⟩⟩
  have s3:=cI.upd (o:=.tup [.ref b,.int (n:Nat)]) ha
  exact k1 _ _ s3 ⟨a,b,ta,n,g,rfl,cE,s3 _ _ (s2 _ _ hb),hg,hp⟩
 intro vw vws H1 nvw s1 hvw vl hv1
 have tul:tv.length≤240:=by
  have:=iJ (gU qd) 0
  have:=length_filter_le (dF qd sd) (fB 0 (gU qd))
  have:=tu.1
  have:=(xm qs).1
  omega
 refine⟨_,rfl,?_⟩
 refine⟨_,rfl,to,rfl,⟨_,cL.of (s1 _ _ hto)⟩,jF (fun _ H v=>D7 qd sd H v) (fun _ _ _ _ tk h=>h.mono tk) (cL.of (s1 _ _ hto)) (by omega) ?_ ?_⟩
 ·intro i v H2 K1 hv s2 k1
  have il:=(List.getElem?_eq_some_iff.mp hv).1
  obtain⟨tk,htk⟩:∃tk,((fB 0 (gU qd)).filter (dF qd sd))[i]? =some tk:=⟨_,getElem?_eq_getElem (by rw[←tu.1];exact il)⟩
  obtain⟨b,rfl,hb⟩:=tu.2 _ _ _ hv htk
  have mt:=mem_of_getElem? htk
  obtain⟨q,hq,_⟩:=xS qk (mem_filter.mp mt).1
  obtain⟨u,hu⟩:∃u,ts[tk.1]? =some u:=⟨_,getElem?_eq_getElem (by rw[qs.1];exact(List.getElem?_eq_some_iff.mp hq).1)⟩
  obtain⟨qa,rfl,hqa⟩:=qs.2 _ _ _ hu hq
  have s02:=s1.trans s2
  have hb2:=s02 _ _ hb
  refine⟨_,rfl,_,rfl,xL (s02 _ _ hr) rfl ⟨_,rfl,xT hb2 rfl (xL (s02 _ _ ht) (dv hu) (xT (s02 _ _ hqa) rfl ⟨zD,fun a ha=>?_⟩))⟩⟩
  have s3:=cI.upd (o:=.tup [.ref b,.int q.1]) ha
  exact k1 _ _ s3 ⟨a,b,tk,q,rfl,cE,s3 _ _ hb2,mt,hq⟩
 intro tw tws H2 ntw s2 htw wl hv2
 refine⟨zD,fun o no=>?_⟩
 have s3:=cI.upd (o:=.lst [.ref vw,.ref tw]) no
 refine k o vw tw vws tws _ ((s1.trans s2).trans s3) cE (s3 _ _ (s2 _ _ hvw)) (s3 _ _ htw) (by omega) (by omega) (fun v hv=>?_) (fun v hv=>?_)
 ·obtain⟨i,hi⟩:=getElem?_of_mem hv
  exact((hv1 i v hi).mono (Tk.of s2)).mono (Tk.of s3)
 ·obtain⟨i,hi⟩:=getElem?_of_mem hv
  exact(hv2 i v hi).mono (Tk.of s3)
def DO(ps:List Str)(sg:List GD)(qd:List QD)(sd:List SD)(H:Hp)(v:V):Prop:=∃(a:Addr) (i:Int) (z:Str) (q:Addr) (w:WI),v=.ref a∧H a=some (.tup [.int i,.str z,.ref q])∧cT i∧z∈ps∧tW H q w∧uf sg qd i z w∧qo sg qd sd (z,i,w)=true
theorem DO.mono{ps:List Str}{sg:List GD}{qd:List QD}{sd:List SD}{H H':Hp}(s:Tk H H'){v:V}(h:DO ps sg qd sd H v):DO ps sg qd sd H' v:=by
 obtain⟨a,i,z,q,w,e,h1,h2,h3,h4,h5⟩:=h
 exact⟨a,i,z,q,w,e,s _ _ h1,h2,h3,h4.mono s,h5⟩
inductive IF(vs:List V)(H:Hp)(Q:VK):Prop
 |mk(o vw tw:Addr)(c:Int)(ps:List Str)(vws tws:List V)(sg:List GD)(qd:List QD)(sd:List SD)(e:vs=[.ref o,.int c])(ho:H o=some (.lst [.ref vw,.ref tw]))(hv:H vw=some (.lst vws))(ht:H tw=some (.lst tws))(vl:vws.length≤24)(tl:tws.length≤240)(gv:∀v∈vws,D6 sg sd H v)(gt:∀v∈tws,D7 qd sd H v)(gk:∀d∈sg,d.1∈ps∧cT d.2)(qk:∀d∈qd,mQ ps d)(pl:ps.length≤24)
   (k:∀l us st H',cI H H'→H l=none→H' l=some (.lst us)→Lz eD H' us st→st.length≤24→zI sg qd st=true→(st.map (·.1)).Nodup→(∀d∈st,uf sg qd d.2.1 d.1 d.2.2∧0≤d.2.1∧qo sg qd sd d=true)→Q (.ref l) H')
def B0:Sp:=fun vs H Q _=>IF vs H Q
inductive Gh(o kn ev:Addr)(c:Int)(ps:List Str)(sg:List GD)(qd:List QD)(sd:List SD)(H:Hp)(σ:St)(H2:Hp):Prop
 |mk(ks:List KA)(e1 e2 e3 e4 e5 e6 e7:Option V)(e:σ=[some (.ref o),some (.int c),some (.ref kn),some (.ref ev),e1,e2,e3,e4,e5,e6,e7])(s:cI H H2)(hk:H2 kn=some (.dK (ke ks)))(ka:Dj H2 ks)(nd:(ks.map (·.1.1)).Nodup)(g:∀p∈ks,p.1.1∈ps∧cT p.1.2.1)(gd:Cd sg qd (ks.map (·.1)))(op:∀p∈ks,qo sg qd sd p.1=true)
theorem nj{o kn ev wa ea:Addr}{c h:Int}{ps:List Str}{sg:List GD}{qd:List QD}{sd:List SD}{e1:Option V}{H H3:Hp}{i:Nat}{z:Str}{w:WI}{gb:Bool}{ks:List KA}{D:Ends}(il:i < 400)(nkn:H kn=none)(s3:cI H H3)(hk3:H3 kn=some (.dK (ke ks)))(ka:Dj H3 ks)(nd:(ks.map (·.1.1)).Nodup)(g3:∀p∈ks,p.1.1∈ps∧cT p.1.2.1)(pl:ps.length≤24)(hi:cT h)(hz:z∈ps)(hw:tW H3 wa w)(gd:Cd sg qd (ks.map (·.1)))(hk:uf sg qd h z w)(hg:gb=true→∀k te,w=.hrd k te→qS (hI (ks.map (·.1))) te h=true)(op:∀p∈ks,qo sg qd sd p.1=true)(ow:qo sg qd sd (z,h,w)=true)
  (hD:∀σ H4,Gh o kn ev c ps sg qd sd H σ H4→(∀b o,H3 b=some o→b≠kn→H4 b=some o)→D.nx σ H4):
  xU (xh (tB (dE 10)) (xh (tB (iX (dE 8) (dE 2))) (oG (uZ (tI fun i j=>V.bl (decide (j < i))) (uZ (rI (fun _ j=>0 < j) fun i j=>V.int (i % j)) (mW lj [] E0 (da (dE 1) (da (uZ (tI fun i j=>V.int (i+j)) (tC (V.int 300)) (dE 6)) jl))) (tC (V.int 5))) (tC (V.int 0))))))
   (u6 (dE 2) (dE 8) (Bc (da (dE 5) (da (dE 9) jl)))) sR D [some (.ref o),some (.int c),some (.ref kn),some (.ref ev),e1,some (.int h),some (.int (i:Int)),some (.ref ea),some (.str z),some (.ref wa),some (.bl gb)] H3:=by
 have hsz:sizeLine=16777216:=sizeLine_eq
 have kl:(ke ks).length < sizeLine:=by
  have:=gZ nd (ps:=ps) fun z hz=>by
   obtain⟨p,hp,rfl⟩:=mem_map.mp hz
   exact(g3 p hp).1
  unfold ke
  rw[length_map]at this ⊢
  omega
 have same:D.nx [some (.ref o),some (.int c),some (.ref kn),some (.ref ev),e1,some (.int h),some (.int (i:Int)),some (.ref ea),some (.str z),some (.ref wa),some (.bl gb)] H3:=hD _ _ ⟨ks,_,_,_,_,_,_,_,rfl,s3,hk3,ka,nd,g3,gd,op⟩ fun b o e _=>e
 have dg:=eC.k (k:=Sum.inr z) hk3
 refine⟨_,rfl,_,rfl,dG (fun hb=>?_) (fun hb=>dt same)⟩
 rcases gI ks z with ⟨e1,no⟩|⟨p,mp,e1,e2⟩
 ·rw[e1]at dg
  refine⟨_,rfl,_,rfl,kn,_,rfl,dg,_,rfl,d6 ⟨_,rfl,_,rfl,_,_,rfl,rfl,c,300+(i:Int),rfl,by omega,by omega,fun m m0 m1=>⟨_,_,rfl,rfl,(by show(0:Int) < 5;decide),_,_,rfl,rfl,_,rfl,dG (fun hm=>?_) (fun hm=>same)⟩⟩⟩
  refine⟨_,rfl,_,rfl,zD,fun c1 hc1=>?_⟩
  have s4:=cI.upd (o:=.tup [.int h,.ref wa]) hc1
  have h1:upd H3 c1 (.tup [.int h,.ref wa]) c1=some (.tup [.int h,.ref wa]):=cE
  generalize upd H3 c1 (.tup [.int h,.ref wa])=H4 at s4 h1
  refine⟨_,rfl,_,rfl,kn,_,rfl,lF.k (k:=Sum.inr z) (s4 _ _ hk3) kl,?_⟩
  have tk:Tk H4 (upd H4 kn (.dK (putK (ke ks) (Sum.inr z) (.ref c1)))):=fun b xs e=>by
   rw[cH (eW e (s4 _ _ hk3) (by intro z;cases z))]
   exact e
  have pe:putK (ke ks) (Sum.inr z) (.ref c1)=ke (ks++[((z,h,w),c1)]):=uX (p:=((z,h,w),c1)) no
  rw[pe]at tk ⊢
  refine hD _ _ ⟨ks++[((z,h,w),c1)],_,_,_,_,_,_,_,rfl,fun b o e=>?_,cE,fun p hp=>?_,?_,fun p hp=>?_,(by rw[map_append];exact sN gd hk (hg hb)),fun p hp=>(mem_append.mp hp).elim (op p) fun z=>by rw[mem_singleton.mp z];exact ow⟩ fun b o e n=>?_
  ·rw[cH (cF e nkn)]
   exact s4 _ _ (s3 _ _ e)
  ·rcases mem_append.mp hp with hp|hp
   ·exact(ka.mono ((Tk.of s4).trans tk)) p hp
   ·rw[mem_singleton.mp hp]
    exact⟨wa,tk _ _ h1,hw.mono ((Tk.of s4).trans tk)⟩
  ·rw[map_append]
   refine nodup_append.mpr ⟨nd,pairwise_singleton _ _,fun a ha b hb e=>?_⟩
   obtain⟨p,hp,rfl⟩:=mem_map.mp ha
   exact no p hp (e.trans (mem_singleton.mp hb))
  ·rcases mem_append.mp hp with hp|hp
   ·exact g3 p hp
   ·rw[mem_singleton.mp hp]
    exact⟨hz,hi⟩
  ·rw[cH n]
   exact s4 _ _ e
 ·rw[e2]at dg
  exact⟨_,rfl,_,rfl,kn,_,rfl,dg,_,rfl,dt same⟩
theorem wC{K:PySem.W.Frag}:∀(v:V) (σ:St) (H:Hp) (Q1 Q2:St→Hp→Prop),(∀σ' H',Q1 σ' H'→Q2 σ' H')→yF K 2 (oW (d7 0) (oW (d7 1) zX)) v σ H Q1→yF K 2 (oW (d7 0) (oW (d7 1) zX)) v σ H Q2:=by
 rintro v σ H Q1 Q2 hq ⟨a,xs,e,s,l,v1,r1,e1,v2,r2,e2,e3,q⟩
 exact⟨a,xs,e,s,l,v1,r1,e1,v2,r2,e2,e3,hq _ _ q⟩
theorem El{h:Int}(o:cT h):0≤h:=o.1
theorem lB:cJ ["_law_opened", "_law_cell", "_law_known", "_law_events_here", "_law_telling", "_law_hour_here", "_law_k", "_law_event", "_law_person", "_law_way", "_law_good"] ["_law_opened", "_law_cell"] (cG fA):={}
theorem Fm (D:Df K mg "_law_open_story" fA ["_law_opened", "_law_cell"] f fd) (T:Txt K mg kw C) (G__law_mix:Gd P w K mg base 1 "_law_mix" lj):Gd P w K mg base 2 "_law_open_story" B0:=by
 refine aH D lB fun X H vs Q E hh h=>?_
 obtain⟨o,vw,tw,c,ps,vws,tws,sg,qd,sd,rfl,ho,hv,ht,vl,tl,gv,gt,gk,qk,pl,k⟩:=h
 obtain⟨S0,S1,S2,S3,S4,S5,S6,S7,S8,S9,S10,_⟩:=hh.eE [0,1,2,3,4,5,6,7,8,9,10]
 have B_enumerate:=hh.b T.b_enumerate
 have B_sorted:=hh.b T.b_sorted
 have C__law_mix:=hh.c G__law_mix
 have hu:=ft hh.room
 have hsz:sizeLine=16777216:=sizeLine_eq
 refine⟨_,(af (aB S2 hh.nd J.iI)
 (af (cw (is:=[]) (xs:=["_law_sight", "_law_number"]) (ns:=[]) S3 hh.nd hh.calm (aV (ag a5 (aa S0) ae ao)) {} (fun _ _ _ _ _=>(cn (n:=2) hh.calm (aG (aX (i:=0) (by decide+kernel) rfl rfl) (aG (aX (i:=1) (by decide+kernel) rfl rfl) bh)))) (fun _ _ _ _ _=>bE) (fun _ _ _ _ _=>(aR (aQ (ag a9 (aI (i:=0) rfl rfl (by decide) (by decide)) ae ao) (ag a9 (aI (i:=0) rfl rfl (by decide) (by decide)) ae ao) (aR (aD aN (aI (i:=1) rfl rfl (by decide) (by decide))))))) hh.hsc hh.hN (by decide+kernel))
 (af (bq hh.own hh.calm (aV (ag a5 (aa S0) ae ao)) (bC hh.calm (aG (aP S4 hh.nd) (aG (aP S5 hh.nd) bh)))
 (aj (bL (bF plainAttrs_list PySem.F.slot_list_append PySem.F.type_list_append bK (aa S3) (ak (aR (aQ (aa S5) (ag aw (aa S4) ae ao) (aR (aQ aN (ag aw (aa S4) ae ao) (ag aw (aa S4) ae ao))))))))))
 (af (bq hh.own hh.calm (bX B_enumerate (ak (aE B_sorted (J.gF (L2.zi hh.room)) L2.iH (ak (aa S3))))) (bC hh.calm (aG (aP S6 hh.nd) (aG (aP S7 hh.nd) bh)))
 (af (J.asg (aa S7) (bC hh.calm (aG (aP S5 hh.nd) (aG (aP S8 hh.nd) (aG (aP S9 hh.nd) bh)))))
 (af (aB S10 hh.nd (J.o9 (aU aK (ag aw (aa S9) ae ao) aN (L2.cK _)) (aY (aT (cC hu (ag aw (aa S9) ae ao) (aa S2)) (aY (aU bR (ag aw (bB hu (aa S2) (ag aw (aa S9) ae ao) cy) ae ao) (aa S5) (L2.cK _)))))))
 (aj (aJ (bf (br (J.p9 (aa S10)) (br (J.oX hu (aa S8) (aa S2)) (bu (aF cf (ah aO (av C__law_mix (aD (aa S1) (ah a6 ae (aa S6)))) ae) ae (L2.cK _))))))
 (aj (cz hu (aa S2) (aa S8) (aR (aD (aa S5) (aa S9)))))
 aM)))))
 (aj (au (bw (is:=[2]) (xs:=["_law_person"]) (ns:=["_law_known"]) hh.calm (aV (aE B_sorted (J.eZ hh.calm) L2.iH (ak (aa S2)))) {} (fun _ _ _ _ _=>(aX (i:=0) (by decide+kernel) rfl rfl)) (fun _ _ _ _ _=>bE) (fun _ _ _ _ _=>(aR (aQ (aI (i:=0) rfl rfl (by decide) (by decide)) (ag a9 (bB hu (a8 (i:=1) rfl rfl (by decide) (by decide)) (aI (i:=0) rfl rfl (by decide) (by decide)) bo) ae ao) (ag a9 (bB hu (a8 (i:=1) rfl rfl (by decide) (by decide)) (aI (i:=0) rfl rfl (by decide) (by decide)) bo) ae ao)))) hh.hsc hh.hN))))))),?_⟩
 refine fun kn nkn=>?_
 have s1:=cI.upd (o:=.dK []) nkn
 have hk1:upd H kn (.dK []) kn=some (.dK []):=cE
 generalize upd H kn (.dK [])=H1 at s1 hk1
 refine⟨_,rfl,xL (s1 _ _ ho) rfl ⟨vw,rfl,⟨_,cL.of (s1 _ _ hv)⟩,vk (fun _ H v=>DO ps sg qd sd H v) (fun _ _ _ _ tk h=>h.mono tk) (N:=vws.length) (by omega) (fun i H2 sm hi=>⟨vws,vws[i],sm.seq (cL.of (s1 _ _ hv)),by simp[hi]⟩) (fun H2 sm=>⟨vws,sm.seq (cL.of (s1 _ _ hv)),le_refl _⟩) ?_ wC ?_⟩⟩
 ·intro i os v H2 H3 K1 hi hos sm yl k1
  obtain⟨rfl,yl⟩:=yl
  have hvi:=yl vws (sm.seq (cL.of (s1 _ _ hv)))
  obtain⟨a,b,ta,n,g,rfl,ha,hb,hg,hop⟩:=(gv v (mem_of_getElem? hvi)).mono ((Tk.of s1).trans (Tk.of sm))
  match os,hos with
  |[o1,o2],_=>
   refine⟨a,_,rfl,c8.of ha,rfl,_,_,rfl,_,_,rfl,rfl,⟨[some (.ref b),some (.int n)],rfl,rfl⟩,?_⟩
   refine⟨_,rfl,xT hb rfl ⟨_,rfl,xT hb rfl ⟨_,rfl,zD,fun q nq=>⟨n9,fun c1 nc1=>?_⟩⟩⟩⟩
   have s4:=cI.upd (o:=.tup [.str "saw",.int (n:Nat)]) nq
   have h4:upd H3 q (.tup [.str "saw",.int (n:Nat)]) q=some (.tup [.str "saw",.int (n:Nat)]):=cE
   generalize upd H3 q (.tup [.str "saw",.int (n:Nat)])=H4 at s4 h4 nc1
   have s5:=cI.upd (o:=.tup [.int g.2,.str g.1,.ref q]) nc1
   have ek:uf sg qd g.2 g.1 (.saw (n:Int)):=⟨Int.natCast_nonneg n,by rw[Int.toNat_natCast];exact hg⟩
   refine k1 _ _ (s4.trans s5) ⟨c1,g.2,g.1,q,.saw (n:Int),rfl,cE,(gk g (mem_of_getElem? hg)).2,(gk g (mem_of_getElem? hg)).1,s5 _ _ h4,ek,?_⟩
   show(decide (0≤(n:Int)) && i9 sg (jf sd) ((n:Int)).toNat)=true
   rw[decide_eq_true (Int.natCast_nonneg n),Int.toNat_natCast,dy hg,hop]
   rfl
 intro ev us0 H2 nev s2 hev ul0 hu0
 have g0:∀v∈us0,DO ps sg qd sd H2 v:=fun v hv=>by
  obtain⟨i,hi⟩:=getElem?_of_mem hv
  exact hu0 i v hi
 have nevH:H ev=none:=s1.free nev
 refine⟨_,rfl,xL (s2 _ _ (s1 _ _ ho)) rfl ⟨tw,rfl,⟨_,cL.of (s2 _ _ (s1 _ _ ht))⟩,el (K:=X.K) (a:=tw) (xs:=tws) (fun i σ H3=>∃(us:List V) (e1 e2:Option V),σ=[some (.ref o),some (.int c),some (.ref kn),some (.ref ev),e1,e2,none,none,none,none,none]∧cI H1 H3∧H3 ev=some (.lst us)∧us.length≤24+i∧∀v∈us,DO ps sg qd sd H3 v) ⟨us0,none,none,rfl,s2,hev,by omega,g0⟩ ?_ ?_ ?_⟩⟩
 ·rintro i σ H3 hi ⟨us,e1,e2,rfl,s3,_⟩
  exact cL.of (s3 _ _ (s1 _ _ ht))
 ·rintro i v σ H3 hvi ⟨us,e1,e2,rfl,s3,hev3,ul3,g3⟩
  have il:=(List.getElem?_eq_some_iff.mp hvi).1
  obtain⟨a,b,t,q,rfl,ha,hb,mt,hq⟩:=(gt v (mem_of_getElem? hvi)).mono ((Tk.of s1).trans (Tk.of s3))
  refine⟨a,_,rfl,c8.of ha,rfl,_,_,rfl,_,_,rfl,rfl,?_⟩
  refine⟨_,rfl,.inl ⟨rfl,_,cL.of hev3⟩,_,rfl,_,rfl,xT hb rfl ⟨_,rfl,xT hb rfl ⟨_,rfl,xT hb rfl ⟨n9,fun w1 nw1=>⟨n9,fun c1 nc1=>?_⟩⟩⟩⟩⟩
  have s4:=cI.upd (o:=.tup [.str "heard",.int (t.1:Nat),.str t.2.1]) nw1
  have h4:upd H3 w1 (.tup [.str "heard",.int (t.1:Nat),.str t.2.1]) w1=some (.tup [.str "heard",.int (t.1:Nat),.str t.2.1]):=cE
  generalize upd H3 w1 (.tup [.str "heard",.int (t.1:Nat),.str t.2.1])=H4 at s4 h4 nc1
  have s5:=cI.upd (o:=.tup [.int q.1,.str t.2.2,.ref w1]) nc1
  have h5:upd H4 c1 (.tup [.int q.1,.str t.2.2,.ref w1]) c1=some (.tup [.int q.1,.str t.2.2,.ref w1]):=cE
  have hw5:=s5 _ _ h4
  generalize upd H4 c1 (.tup [.int q.1,.str t.2.2,.ref w1])=H5 at s5 h5 hw5
  have s35:=s4.trans s5
  have hev5:=s35 _ _ hev3
  have tk6:Tk H5 (upd H5 ev (.lst (us++[.ref c1]))):=Tk.upd hev5
  obtain⟨j,q',hj1,hj2,hj3⟩:=(l3 t.1 t.2.1 t.2.2 qd 0).mp (mem_filter.mp mt).1
  have hj:j=t.1:=by omega
  rw[hj,hq]at hj1
  cases hj1
  have dk:=qk q (mem_of_getElem? hq)
  have zin:t.2.2∈ps:=by
   obtain⟨_,_,h⟩:=xS qk (mem_filter.mp mt).1
   exact h
  have ek:uf sg qd q.1 t.2.2 (.hrd (t.1:Int) t.2.1):=⟨Int.natCast_nonneg _,q,by rw[Int.toNat_natCast];exact hq,rfl,hj3⟩
  have eo:qo sg qd sd (t.2.2,q.1,.hrd (t.1:Int) t.2.1)=true:=by
   show(decide (0≤(t.1:Int)) && decide ((((t.1:Nat):Int).toNat,t.2.1,t.2.2)∈_))=true
   rw[decide_eq_true (Int.natCast_nonneg _),Int.toNat_natCast]
   exact decide_eq_true mt
  refine⟨ev,us,.ref c1,rfl,rfl,hev5,by omega,_,_,_,rfl,fun b o e=>?_,cE,by rw[length_append];show us.length+1≤_;omega,fun v hv=>?_⟩
  ·rw[cH (cF e nev)]
   exact s35 _ _ (s3 _ _ e)
  ·rcases mem_append.mp hv with hv|hv
   ·exact((g3 v hv).mono (Tk.of s35)).mono tk6
   ·rw[mem_singleton.mp hv]
    exact⟨c1,q.1,t.2.2,w1,.hrd (t.1:Int) t.2.1,rfl,tk6 _ _ h5,dk.1,zin,tk6 _ _ hw5,ek,eo⟩
 rintro σ H3 ⟨us,e1,e2,rfl,s3,hev3,ul3,g3⟩
 obtain⟨as,rfl⟩:∃as:List Addr,us=as.map V.ref:=by
  clear hev3 ul3
  induction us with
  |nil=>exact⟨[],rfl⟩
  |cons u us ih=>
   obtain⟨as,rfl⟩:=ih fun v hv=>g3 v (.tail _ hv)
   obtain⟨a,i,z,q,w,rfl,_⟩:=g3 u (.head _)
   exact⟨a::as,rfl⟩
 rw[length_map]at ul3
 refine⟨_,rfl,ev,as,rfl,cL.of hev3,fun a ma=>?_,fun l ys nl pm=>?_⟩
 ·obtain⟨a',i,z,q,w,e,h1,h2,h3,h4,_⟩:=g3 (.ref a) (mem_map_of_mem ma)
  cases e
  refine⟨i,z,q,c8.of h1,?_⟩
  cases w with
  |saw n=>exact .saw n (c8.of h4)
  |hrd n te=>exact .heard n te (c8.of h4)
 have s4:=cI.upd (o:=.lst (ys.map V.ref)) nl
 have hl4:upd H3 l (.lst (ys.map V.ref)) l=some (.lst (ys.map V.ref)):=cE
 generalize upd H3 l (.lst (ys.map V.ref))=H4 at s4 hl4
 have yl:ys.length≤264:=by rw[pm.length_eq];omega
 have g4:∀v∈ys.map V.ref,DO ps sg qd sd H4 v:=fun v hv=>by
  obtain⟨a,ma,rfl⟩:=mem_map.mp hv
  exact(g3 _ (mem_map_of_mem (pm.mem_iff.mp ma))).mono (Tk.of s4)
 have s04:cI H H4:=(s1.trans s3).trans s4
 have hk4:=s4 _ _ (s3 _ _ hk1)
 refine⟨l,rfl,⟨_,cL.of hl4⟩,hJ (K:=X.K) (a:=l) (xs:=ys.map V.ref) (fun i σ H5=>Gh o kn ev c ps sg qd sd H σ H5∧(∀b xs,H4 b=some (.tup xs)→H5 b=some (.tup xs))∧H5 l=some (.lst (ys.map V.ref))) ⟨⟨[],_,_,_,_,_,_,_,rfl,s04,hk4,(fun p hp=>nomatch hp),nodup_nil,(fun p hp=>nomatch hp),(fun p hp=>nomatch hp),(fun p hp=>nomatch hp)⟩,(fun b xs h=>h),hl4⟩ ?_ ?_ ?_⟩
 ·rintro i σ H5 ⟨_,_,hl5⟩
  exact cL.of hl5
 ·rintro i v q0 σ H5 hvi hq0 ⟨⟨ks,e1,e2,e3,e4,e5,e6,e7,rfl,s5,hk5,ka,nd,g5,gd,op⟩,tk5,hl5⟩
  have il:=(List.getElem?_eq_some_iff.mp hvi).1
  rw[length_map]at il
  obtain⟨a,h,z,wa,w,rfl,ha,hh',hz,hw,hk,ow⟩:=(g4 v (mem_of_getElem? hvi)).mono tk5
  have s6:=cI.upd (o:=.tup [.int i,.ref a]) hq0
  refine⟨q0,_,rfl,c8.of cE,rfl,_,_,rfl,_,_,rfl,rfl,?_⟩
  generalize upd H5 q0 (.tup [.int i,.ref a])=H6 at s6
  have s06:=s5.trans s6
  have ha6:=s6 _ _ ha
  have hw6:=hw.mono (Tk.of s6)
  have hk6:=s6 _ _ hk5
  have ka6:=ka.mono (Tk.of s6)
  have fin:∀σ H7,Gh o kn ev c ps sg qd sd H σ H7→(∀b o,H6 b=some o→b≠kn→H7 b=some o)→Gh o kn ev c ps sg qd sd H σ H7∧(∀b xs,H4 b=some (.tup xs)→H7 b=some (.tup xs))∧H7 l=some (.lst (ys.map V.ref)):=fun σ H7 oi kp=>⟨oi,fun b xs e=>kp _ _ (s6 _ _ (tk5 _ _ e)) (eW (s6 _ _ (tk5 _ _ e)) hk6 (by intro z;cases z)),kp _ _ (s6 _ _ hl5) (eW (s6 _ _ hl5) hk6 (by intro z;cases z))⟩
  refine⟨_,rfl,a,_,rfl,c8.of ha6,rfl,_,_,rfl,_,_,rfl,_,_,rfl,rfl,?_⟩
  cases w with
  |saw n=>
   have hw7:H6 wa=some (.tup [.str "saw",.int n]):=hw6
   refine⟨_,rfl,xT hw7 rfl ⟨rfl,_,rfl,iP ?_⟩⟩
   exact nj (w:=.saw n) (by omega) nkn s06 hk6 ka6 nd g5 pl hh' hz hw6 gd hk (fun _ _ _ e=>by cases e) op ow fin
  |hrd kk te=>
   have hw7:H6 wa=some (.tup [.str "heard",.int kk,.str te]):=hw6
   have dg:=eC.k (k:=Sum.inr te) hk6
   refine⟨_,rfl,xT hw7 rfl ⟨rfl,_,rfl,iN ?_⟩⟩
   rcases gI ks te with ⟨f1,no⟩|⟨p,mp,f1,f2⟩
   ·rw[f1]at dg
    refine⟨_,rfl,xT hw7 rfl ⟨_,rfl,kn,_,rfl,dg,_,rfl,dt ?_⟩⟩
    exact nj (w:=.hrd kk te) (by omega) nkn s06 hk6 ka6 nd g5 pl hh' hz hw6 gd hk (fun h=>by cases h) op ow fin
   ·rw[f2]at dg
    obtain⟨w2,hp2,_⟩:=ka6 p mp
    refine⟨_,rfl,xT hw7 rfl ⟨_,rfl,kn,_,rfl,dg,_,rfl,d6 ⟨_,rfl,_,rfl,xT hw7 rfl ⟨kn,_,rfl,dg,xT hp2 rfl ⟨_,rfl,_,_,rfl,rfl,?_⟩⟩⟩⟩⟩
    exact nj (w:=.hrd kk te) (by omega) nkn s06 hk6 ka6 nd g5 pl hh' hz hw6 gd hk (fun h _ _ e=>by cases e;exact vz nd mp f1 (of_decide_eq_true h)) op ow fin
 ·clear g4 hl4 g3 hev3 s4 hk4 s04 s3 pm
  rintro σ H3x ⟨⟨ks,e1,e2,e3,e4,e5,e6,e7,rfl,s3,hk3,ka,nd,g3,gd,op⟩,tk3,hl3⟩
  have kl:ks.length≤24:=by
   have:=gZ nd (ps:=ps) fun z hz=>by
    obtain⟨p,hp,rfl⟩:=mem_map.mp hz
    exact(g3 p hp).1
   rw[length_map]at this
   omega
  refine⟨_,rfl,kn,ke ks,ks.map (·.1.1),rfl,hk3,(by unfold ke;rw[map_map,map_map];rfl),(by rw[length_map];omega),fun l2 zs nl2 znd pm srt=>?_⟩
  have s4:=cI.upd (o:=.lst (zs.map V.str)) nl2
  have hl4:upd H3x l2 (.lst (zs.map V.str)) l2=some (.lst (zs.map V.str)):=cE
  generalize upd H3x l2 (.lst (zs.map V.str))=H4 at s4 hl4
  have zl:zs.length=ks.length:=by rw[pm.length_eq,length_map]
  refine⟨l2,rfl,⟨_,cL.of hl4⟩,jF (fun j H v=>∃z,zs[j]? =some z∧∃p∈ks,p.1.1=z∧eD H v p.1) (fun _ v _ _ tk ⟨z,e,p,m,e2,h⟩=>⟨z,e,p,m,e2,eD.mono tk v _ h⟩) (cL.of hl4) (by rw[length_map];omega) ?_ ?_⟩
  ·intro j v H5 K1 hv s5 k1
   rw[getElem?_map]at hv
   obtain⟨z,hz,rfl⟩:=map_eq_some_iff.mp hv
   have hk5:=s5 _ _ (s4 _ _ hk3)
   have dg:=eC.k (k:=Sum.inr z) hk5
   rcases gI ks z with ⟨e1,no⟩|⟨p,mp,e1,e2⟩
   ·exfalso
    obtain⟨p,hp,e⟩:=mem_map.mp (pm.mem_iff.mp (mem_of_getElem? hz))
    exact no p hp e
   ·rw[e2]at dg
    obtain⟨w2,hp2,hw2⟩:=(ka.mono (Tk.of (s4.trans s5))) p mp
    refine⟨_,rfl,_,rfl,_,rfl,kn,_,rfl,dg,xT hp2 rfl ⟨_,rfl,_,rfl,kn,_,rfl,dg,xT hp2 rfl ⟨n9,fun c1 hc1=>?_⟩⟩⟩
    have s6:=cI.upd (o:=.tup [.str z,.int p.1.2.1,.ref w2]) hc1
    refine k1 _ _ s6 ⟨z,hz,p,mp,e1,c1,w2,rfl,?_,hw2.mono (Tk.of s6)⟩
    rw[e1]
    exact cE
  ·intro D' ys H' hD' s' hd' yl hy
   rw[length_map]at yl
   obtain⟨st,e1,lz,ho⟩:=pL (H:=H') (O:=fun d=>∃p∈ks,d=p.1) ys zs (by rw[yl]) fun j v z hv hz=>by
    obtain⟨z',hz',p,mp,e2,en⟩:=hy j v hv
    rw[hz]at hz'
    cases hz'
    exact⟨p.1,e2,⟨p,mp,rfl⟩,en⟩
   refine k D' ys st H' ((s3.trans s4).trans s') ((s3.trans s4).free hD') hd' lz (by rw[←lz.1];omega) (oR gd nd (by rw[e1];exact pm) (by rw[e1];exact pm.nodup_iff.mpr znd) (by rw[e1];exact srt) ho) (by rw[e1];exact pm.nodup_iff.mpr znd) fun d hd=>?_
   obtain⟨p,mp,rfl⟩:=ho d hd
   exact⟨(gd p.1 (mem_map_of_mem mp)).1,El (g3 p mp).2,op p mp⟩
def sZ(C:Addr)(H:Hp)(ps:List Str)(ss ts ys:List V)(Q:VK):Prop:=∀(x' p' s' t' y':Addr) (H':Hp),cI H H'→H p'=none→H s'=none→H t'=none→H y'=none→Bk C H' x' p' s' t' y' ps ss ts ys→Q (.ref x') H'
theorem sZ.mono{C:Addr}{H H1:Hp}{ps:List Str}{ss ts ys:List V}{Q:VK}(s:cI H H1)(k:sZ C H ps ss ts ys Q):sZ C H1 ps ss ts ys Q:=fun x' p' s' t' y' H' sm n1 n2 n3 n4 bk=>k x' p' s' t' y' H' (s.trans sm) (s.free n1) (s.free n2) (s.free n3) (s.free n4) bk
theorem xK{C:Addr}{H:Hp}{p a b c:Addr}{ps:List Str}{ss ts ys:List V}{Q:VK}(hp:H p=some (.lst (ps.map V.str)))(ha:H a=some (.lst ss))(hb:H b=some (.lst ts))(hc:H c=some (.lst ys))(g:Parts H ps ss ts ys)(k:sZ C H ps ss ts ys Q):
  ∀x dx,H x=none→H dx=none→dx≠x→l8 C (.ref x::([.ref p,.ref a,.ref b,.ref c]++[])) (upd (upd H dx (.own x)) x (.ins C dx [])) (fun v H2=>v=.non∧Q (.ref x) H2) E0:=by
 intro x dx nx nd nex
 have s3:cI H (upd (upd H dx (.own x)) x (.ins C dx [])):=fun b o e=>by
  rw[cH (cF e nx),cH (cF e nd)]
  exact e
 refine⟨x,dx,p,a,b,c,ps,ss,ts,ys,rfl,cE,s3 _ _ hp,s3 _ _ ha,s3 _ _ hb,s3 _ _ hc,g.mono (Tk.of s3),fun p' s' t' y' H' n1 n2 n3 n4 bk kp=>⟨rfl,?_⟩⟩
 exact k x p' s' t' y' H' (fun b o e=>kp b o (s3 _ _ e) (cF e nx)) (s3.free n1) (s3.free n2) (s3.free n3) (s3.free n4) bk
theorem qu(ys:List V)(n:Nat):(dz ys none (some (n:Int))++dz ys (some ((n:Int)+1)) none).length≤ys.length:=by
 unfold dz
 have e:=HT.iW ys.length 0 (n+1)
 rw[show(((n+1:Nat)):Int)=(n:Int)+1 by omega]at e
 rw[HT.f9,HT.iW,e,HT.f9,length_append,length_take,length_take,length_drop,length_drop]
 omega
inductive Jk(C:Addr)(vs:List V)(H:Hp)(Q:VK):Prop
 |mk(x p s t y:Addr)(ps:List Str)(ss ts ys:List V)(n:Nat)(e:vs=[.ref x,.int (n:Nat)])(hn:n < ys.length)(bk:Bk C H x p s t y ps ss ts ys)(g:Parts H ps ss ts ys)(k:sZ C H ps ss ts (dz ys none (some (n:Int))++dz ys (some ((n:Int)+1)) none) Q)
def Cm(C:Addr):Sp:=fun vs H Q _=>Jk C vs H Q
theorem iZ:cJ ["self", "number", "others"] ["self", "number"] (cG cX):={}
theorem Ed (F:lM K "without_saying" "Book.without_saying" cX f fd) (me:Meth K C "without_saying" f) (bi:Binds K fd ["self", "number"] []) (T:Txt K mg kw C) (G_Book:Kd P w K mg base 7 "Book" C (l8 C)) (G_is_whole:Gd P w K mg base 1 "is_whole" (lQ K)):Md P w K mg base 9 C "without_saying" (Cm C):=by
 refine b8 F me bi T.cl iZ (fun vs H Q E h=>?_) (fun X H vs Q E hh h=>?_)
 ·obtain⟨x,p,s,t,y,ps,ss,ts,ys,n,rfl,_⟩:=h
  rfl
 ·obtain⟨x,p,s,t,y,ps,ss,ts,ys,n,rfl,hn,bk,g,k⟩:=h
  obtain⟨S0,S1,S2,_⟩:=hh.eE [0,1,2]
  have B_len:=hh.b T.b_len
  have C_is_whole:=hh.c G_is_whole
  have K_Book:=hh.Eu G_Book rfl (by decide) (by decide)
  obtain rfl:=hh.fK
  have hsz:sizeLine=16777216:=sizeLine_eq
  obtain⟨⟨dx,hx⟩,hp,hs,ht,hy⟩:=id bk
  have gl:=g.yl
  have g3:Parts H ps ss ts (dz ys none (some (n:Int))++dz ys (some ((n:Int)+1)) none):=⟨g.ok,g.sl,g.sg,g.tl,g.tg,by have:=qu ys n;omega,fun v hv=>g.yg v ((mem_append.mp hv).elim (fun z=>mem_of_mem_drop (mem_of_mem_take z)) fun z=>mem_of_mem_drop (mem_of_mem_take z))⟩
  have cl:=qu ys n
  refine⟨_,(af (aJ (bf (bZ (ba (bj (av C_is_whole (ak (aa S1))))) (cm (ba (J.iq bH bR ae (aa S1) (aE B_len aZ L2.cV (ak (bD (aa S0)))) L2.fu)))))
 cD
 aM)
 (af (aB S2 hh.nd (ah J.iY (bQ ck (bD (aa S0)) bY (bM (aa S1))) (bQ ck (bD (aa S0)) (bM (ah a6 (aa S1) ae)) bY)))
 (aj (au (J.Eu K_Book (bI (bD (aa S0)) (bD (aa S0)) (bD (aa S0)) (aa S2))))))),?_⟩
  refine⟨_,rfl,.int (n:Nat), "int",rfl,.int _,by decide,_,rfl,iN ?_⟩
  refine⟨_,rfl,_,_,rfl,rfl,_,rfl,fD (decide_eq_true (by omega)) ?_⟩
  refine⟨_,rfl,x,C,dx,_,_,rfl,hx,T.cl,T.nY,vI _ _ _ _,y,_,rfl,.inl (cL.of hy),_,_,rfl,rfl,_,rfl,?_⟩
  dsimp only
  rw[decide_eq_true (show((n:Nat):Int) < ((ys.length:Nat):Int) by omega)]
  refine dt ?_
  refine⟨_,rfl,x,C,dx,_,_,rfl,hx,T.cl,T.nY,vI _ _ _ _,_,rfl,_,rfl,y,_,rfl,cL.of hy,fun c1 hc1=>?_⟩
  have s1:=cI.upd (o:=.lst (dz ys none (some (n:Int)))) hc1
  refine⟨_,rfl,x,C,dx,_,_,rfl,s1 _ _ hx,T.cl,T.nY,vI _ _ _ _,_,rfl,_,_,rfl,rfl,_,rfl,y,_,rfl,cL.of (s1 _ _ hy),fun c2 hc2=>?_⟩
  have s2':=cI.upd (o:=.lst (dz ys (some ((n:Int)+1)) none)) hc2
  have s2:=s1.trans s2'
  have e1:=s2' _ _ (show upd H c1 (.lst (dz ys none (some (n:Int)))) c1=_ from cE)
  refine⟨c1,c2,_,_,rfl,rfl,cL.of e1,cL.of cE,by rw[length_append]at cl;omega,fun c3 hc3=>?_⟩
  have s3:=s2.trans (cI.upd (o:=.lst (dz ys none (some (n:Int))++dz ys (some ((n:Int)+1)) none)) hc3)
  refine⟨_,rfl,x,C,dx,_,_,rfl,s3 _ _ hx,T.cl,T.nP,BG _ _ _ _,_,rfl,x,C,dx,_,_,rfl,s3 _ _ hx,T.cl,T.nS,By _ _ _ _,_,rfl,x,C,dx,_,_,rfl,s3 _ _ hx,T.cl,T.nT,ye _ _ _ _,_,rfl,?_⟩
  exact xK (s3 _ _ hp) (s3 _ _ hs) (s3 _ _ ht) cE (g3.mono (Tk.of s3)) (k.mono s3)
theorem SD.Ay{a b:SD}(h:a.tup=b.tup):a=b:=by
 cases a<;>cases b<;>(try (injection h with h1 h2;exact absurd (V.str.inj h1) (by decide+kernel)))
 ·injection h with _ h
  injection h with h1 h
  injection h with h2 _
  cases h1
  cases h2
  rfl
 ·rename_i p o p' o'
  injection h with _ h
  injection h with h1 h
  injection h with h2 _
  cases h1
  cases o<;>cases o'<;>first
   |rfl
   | (cases h2;rfl)
   |cases h2
 ·injection h with _ h
  injection h with h1 h
  injection h with h2 h
  injection h with h3 _
  cases h1
  cases h2
  cases h3
  rfl
 ·injection h with _ h
  injection h with h1 h
  injection h with h2 _
  cases h1
  cases h2
  rfl
theorem zQ{H:Hp}{ys ys':List V}{sd sd':List SD}(sy:Sys H ys sd)(sy':Sys H ys' sd')(sub:∀v∈ys',v∈ys):∀d∈sd',d∈sd:=fun d hd=>by
 obtain⟨i,hi⟩:=getElem?_of_mem hd
 obtain⟨v,hv⟩:∃v,ys'[i]? =some v:=⟨_,getElem?_eq_getElem (by rw[sy'.1];exact(List.getElem?_eq_some_iff.mp hi).1)⟩
 obtain⟨a,rfl,ha⟩:=sy'.2 _ _ _ hv hi
 obtain⟨j,hj⟩:=getElem?_of_mem (sub _ (mem_of_getElem? hv))
 obtain⟨d2,a2,hd2,e,ha2⟩:=sy.at hj
 cases e
 rw[ha]at ha2
 have e2:d.tup=d2.tup:=by
  injection ha2 with h
  injection h
 rw[SD.Ay e2]
 exact mem_of_getElem? hd2
theorem o4{z:Str}{h:Int}{sd sd':List SD}(h0:0≤h)(sub:∀d∈sd',d∈sd)(q:ff h (floorOf z sd)=true):ff h (floorOf z sd')=true:=(iO h0).mpr fun o ho=>(iO h0).mp q o (sub _ ho)
theorem xC{qd:List QD}{sd sd':List SD}{t:TK}(h0:0≤eB qd t.1)(sub:∀d∈sd',d∈sd)(q:dF qd sd t=true):dF qd sd' t=true:=by
 unfold dF at q ⊢
 rw[and_eq_true,not_eq_true',Bool.or_eq_false_iff,any_eq_false,any_eq_false]at q ⊢
 exact⟨o4 h0 sub q.1,fun d hd=>q.2.1 d (sub d hd),fun d hd=>q.2.2 d (sub d hd)⟩
theorem mH{X:Cx}{N':List Str}{scope:Scope}{cl:List (Str×Addr)}{fp:List Addr}{s3:Shared}{H3:Hp}{C:Addr}(hu:X.A.units+1 < cLine):J.JC (L2.cZ X N' scope cl fp s3 H3 C) .NotIn (fun x y H Q=>L2.yL X.K x y H Q):=⟨L2.eJ (X:=L2.cZ X N' scope cl fp s3 H3 C) hu⟩
inductive Ju(C:Addr)(vs:List V)(H:Hp)(Q:VK):Prop
 |mk(x r p s t y p' s' t' y' so to:Addr)(ps:List Str)(ss ts ys tv:List V)(sg:List GD)(qd:List QD)(sd:List SD)(n:Int)(e:vs=[.ref x,.ref r,.ref so,.ref to,.int n])(bk:Bk C H x p' s' t' y' ps ss ts ys)(hr:H r=some (.lst [.ref p,.ref s,.ref t,.ref y]))(hy:H y=some (.lst ys))(g:Parts H ps ss ts ys)(gs:Lz dA H ss sg)(gk:∀d∈sg,d.1∈ps∧cT d.2)(qs:Lz d3 H ts qd)(qk:∀d∈qd,mQ ps d)(sy:Sys H ys sd)(hso:H so=some (.lst (dO sg sd sg.length)))(hto:H to=some (.lst tv))(tu:fq H tv ((fB 0 (gU qd)).filter (dF qd sd)))
   (k:∀H',cI H H'→Q (.bl true) H')
def CQ(C:Addr):Sp:=fun vs H Q _=>Ju C vs H Q
theorem xV{ps:List Str}{qd:List QD}(qk:∀d∈qd,mQ ps d){t:TK}(h:t∈fB 0 (gU qd)):0≤eB qd t.1:=by
 obtain⟨q,hq,_⟩:=xS qk h
 rw[gh hq]
 exact(qk q (mem_of_getElem? hq)).1.1
theorem nR:cJ ["_law_book_here", "_law_parts", "_law_sights", "_law_tellings", "_law_number", "_law_less", "_law_more"] ["_law_book_here", "_law_parts", "_law_sights", "_law_tellings", "_law_number"] (cG gG):={}
theorem EN (D:Df K mg "_law_one_less" gG ["_law_book_here", "_law_parts", "_law_sights", "_law_tellings", "_law_number"] f fd) (T:Txt K mg kw C) (G_without_saying:Md P w K mg base 9 C "without_saying" (Cm C)) (G_open_sights:Gd P w K mg base 4 "open_sights" (lX C)) (G_open_tellings:Gd P w K mg base 4 "open_tellings" (lN C)):Gd P w K mg base 10 "_law_one_less" (CQ C):=by
 refine aH D nR fun X H vs Q E hh h=>?_
 obtain⟨x,r,p,s,t,y,p',s',t',y',so,to,ps,ss,ts,ys,tv,sg,qd,sd,n,rfl,bk,hr,hy,g,gs,gk,qs,qk,sy,hso,hto,tu,k⟩:=h
 obtain⟨S0,S1,S2,S3,S4,S5,S6,_⟩:=hh.eE [0,1,2,3,4,5,6]
 have B_len:=hh.b T.b_len
 have C_open_sights:=hh.c G_open_sights
 have C_open_tellings:=hh.c G_open_tellings
 have M_without_saying:=hh.met G_without_saying (by decide)
 have hu:=ft hh.room
 have hsz:sizeLine=16777216:=sizeLine_eq
 obtain⟨⟨dx,hx⟩,hp,hs,ht,hy'⟩:=id bk
 have yl60:=g.yl
 refine⟨_,(af (aJ (aF (J.jL hu) (ag a5 (aa S1) ae ao) (bg bz) (L2.cK _))
 (aj (au bp))
 aM)
 (af (aB S5 hh.nd (J.met M_without_saying (aa S0) (ak (ah aO (aa S4) (aE B_len aZ L2.cV (ak (ag a5 (aa S1) ae ao))))) rfl))
 (af (aB S6 hh.nd (av C_open_sights (ak (aa S5))))
 (af (aJ (aF (J.lI hu) (bw (is:=[6]) (xs:=["_law_one"]) (ns:=["_law_more"]) hh.calm (aV (aa S2)) {} (fun _ _ _ _ _=>(aX (i:=0) (by decide+kernel) rfl rfl)) (fun _ _ _ _ _=>(bT (aF J.oh (aI (i:=0) rfl rfl (by decide) (by decide)) (a8 (i:=1) rfl rfl (by decide) (by decide)) b9))) (fun _ _ _ _ _=>(aI (i:=0) rfl rfl (by decide) (by decide))) hh.hsc hh.hN) (bg bz) (L2.cK _))
 (aj (au bp))
 aM)
 (af (aB S6 hh.nd (av C_open_tellings (ak (aa S5))))
 (aj (au (aU (J.jL hu) (bw (is:=[6]) (xs:=["_law_one"]) (ns:=["_law_more"]) hh.calm (aV (aa S3)) {} (fun _ _ _ _ _=>(aX (i:=0) (by decide+kernel) rfl rfl)) (fun _ _ _ _ _=>(bT (aF (mH hu) (aI (i:=0) rfl rfl (by decide) (by decide)) (a8 (i:=1) rfl rfl (by decide) (by decide)) b9))) (fun _ _ _ _ _=>(aI (i:=0) rfl rfl (by decide) (by decide))) hh.hsc hh.hN) (bg bz) (L2.cK _))))))))),?_⟩
 refine⟨_,rfl,xL hr rfl ⟨xG,fun e ne=>?_⟩⟩
 have s1:=cI.upd (o:=.lst []) ne
 have he1:upd H e (.lst []) e=some (.lst []):=cE
 generalize upd H e (.lst [])=H1 at s1 he1
 by_cases y0:ys=[]
 ·subst y0
  exact .same y e [] [] [] rfl rfl (cL.of (s1 _ _ hy)) (cL.of he1) rfl rfl (fun i u v c hu=>by cases hu) ⟨_,rfl,iP (k H1 s1)⟩
 have yp:0 < ys.length:=List.length_pos_iff.mpr y0
 refine .other y e ys [] rfl rfl (cL.of (s1 _ _ hy)) (cL.of he1) (by show ys.length≠0;omega) ⟨_,rfl,gW Bool.false_ne_true ?_⟩
 have hm:=p8 n (m:=(ys.length:Int)) (by omega)
 obtain⟨m,hm'⟩:=Int.eq_ofNat_of_zero_le hm.1
 refine⟨_,rfl,x,dx,_,rfl,s1 _ _ hx,fc _ _ _ _ (by decide+kernel) (by decide+kernel) (by decide+kernel) (by decide+kernel),_,rfl,_,rfl,xL (s1 _ _ hr) rfl ⟨y,_,rfl,.inl (cL.of (s1 _ _ hy)),_,_,rfl,rfl,(by show(0:Int) < (ys.length:Int);omega),x,p',s',t',y',ps,ss,ts,ys,m,(by show [V.ref x,V.int (n % (ys.length:Int))]=_;rw[hm']),by omega,bk.mono s1,g.mono (Tk.of s1),fun x2 p2 s2' t2 y2 H2 s2 _ _ _ _ bk2=>?_⟩⟩
 have s02:=s1.trans s2
 obtain⟨sd',sy',sk'⟩:=iR (g.mono (Tk.of s02)).yg |> fun _=>iR (ps:=ps) (H:=H2) (ys:=dz ys none (some (m:Int))++dz ys (some ((m:Int)+1)) none) fun v hv=>(g.mono (Tk.of s02)).yg v ((mem_append.mp hv).elim (fun z=>mem_of_mem_drop (mem_of_mem_take z)) fun z=>mem_of_mem_drop (mem_of_mem_take z))
 have sub:∀d∈sd',d∈sd:=zQ (sy.mono (Tk.of s02)) sy' fun v hv=>(mem_append.mp hv).elim (fun z=>mem_of_mem_drop (mem_of_mem_take z)) fun z=>mem_of_mem_drop (mem_of_mem_take z)
 have cl60:=qu ys m
 generalize dz ys none (some (m:Int))++dz ys (some ((m:Int)+1)) none=ys2 at bk2 sy' cl60
 refine⟨_,rfl,x2,p2,s2',t2,y2,ps,ss,ts,ys2,sg,sd',rfl,bk2,g.ok.hi,g.sl,gs.mono (dA.mono (Tk.of s02)),(fun d hd=>(gk d hd).1),sy',by omega,fun mo H3 s3 nmo hmo=>?_⟩
 have s03:=s02.trans s3
 refine⟨_,rfl,so,rfl,⟨_,cL.of (s03 _ _ hso)⟩,dM (xs:=dO sg sd sg.length) (fun _=>false) (fun _=>V.non) (cL.of (s03 _ _ hso)) (by have:=mV sg sd sg.length;have:=gs.1;have:=g.sl;omega) ?_ ?_⟩
 ·intro i os v H4 K1 K2 hv hos s4 k1 k2
  match os,hos with
  |[o1],_=>
   obtain⟨n0,hn0,rfl⟩:=mem_map.mp (mem_of_getElem? hv)
   obtain⟨nl,hp0⟩:=mem_filter.mp hn0
   have nl:=mem_range.mp nl
   obtain⟨d,hd⟩:∃d,sg[n0]? =some d:=⟨_,getElem?_eq_getElem nl⟩
   rw[dy hd]at hp0
   have e1:tG (.int (n0:Nat)) (dO sg sd' sg.length)=true:=by
    rw[nz (Int.natCast_nonneg _),Int.toNat_natCast,dy hd]
    exact o4 (gk d (mem_of_getElem? hd)).2.1 sub hp0
   refine⟨⟨[some (.int (n0:Nat))],rfl,rfl⟩,_,rfl,_,rfl,mo,_,rfl,.inl (cL.of (s4 _ _ hmo)),rfl,lq sg sd' _,_,rfl,gW ?_ (k2 rfl H4 (cI.refl _))⟩
   intro z
   have z:(!tG (.int (n0:Nat)) (dO sg sd' sg.length))=true:=z
   rw[e1]at z
   cases z
 intro D1 H4 nD1 s4 hD1
 have hD1:H4 D1=some (.lst []):=by
  rw[hD1,List.filter_eq_nil_iff.mpr (fun _ _=>Bool.false_ne_true)]
  rfl
 refine⟨xG,fun e2 ne2=>?_⟩
 have s5:=cI.upd (o:=.lst []) ne2
 have he2:upd H4 e2 (.lst []) e2=some (.lst []):=cE
 generalize upd H4 e2 (.lst [])=H5 at s5 he2
 refine .same D1 e2 [] [] [] rfl rfl (cL.of (s5 _ _ hD1)) (cL.of he2) rfl rfl (fun i u v c hu=>by cases hu) ⟨_,rfl,iN ?_⟩
 have s35:=s4.trans s5
 have s05:=s03.trans s35
 refine⟨_,rfl,x2,p2,s2',t2,y2,ps,ss,ts,ys2,qd,sd',rfl,bk2.mono (s3.trans s35),g.ok.hi,g.tl,qs.mono (d3.mono (Tk.of s05)),qk,sy'.mono (Tk.of (s3.trans s35)),by omega,fun l us H6 s6 nl hl tu'=>?_⟩
 have s06:=s05.trans s6
 have tl0:=iJ (gU qd) 0
 have tl1:=length_filter_le (dF qd sd) (fB 0 (gU qd))
 have tl2:=tu.1
 have tl3:=(xm qs).1
 have tl4:=g.tl
 refine⟨_,rfl,to,rfl,⟨_,cL.of (s06 _ _ hto)⟩,dM (xs:=tv) (fun _=>false) (fun _=>V.non) (cL.of (s06 _ _ hto)) (by omega) ?_ ?_⟩
 ·intro i os v H7 K1 K2 hv hos s7 k1 k2
  obtain⟨o1,rfl⟩:=List.length_eq_one_iff.mp hos
  obtain⟨tt,htt⟩:∃tt,((fB 0 (gU qd)).filter (dF qd sd))[i]? =some tt:=⟨_,getElem?_eq_getElem (by rw[←tu.1];exact(List.getElem?_eq_some_iff.mp hv).1)⟩
  obtain⟨c,rfl,hc⟩:=tu.2 _ _ _ hv htt
  obtain⟨m1,m2⟩:=mem_filter.mp (mem_of_getElem? htt)
  have tu7:=tu'.mono (Tk.of s7)
  have ea:=vf tu7 tt
  have e1:decide (tt∈(fB 0 (gU qd)).filter (dF qd sd'))=true:=decide_eq_true (mem_filter.mpr ⟨m1,xC (xV qk m1) sub m2⟩)
  rw[e1]at ea
  refine⟨⟨[some (.ref c)],rfl,rfl⟩,_,rfl,_,rfl,c,l,_,us,rfl,rfl,s7 _ _ (s06 _ _ hc),cL.of (s7 _ _ hl),rfl,rf tu7,_,rfl,gW ?_ (k2 rfl H7 (cI.refl _))⟩
  rw[ea]
  exact Bool.false_ne_true
 intro D2 H7 nD2 s7 hD2
 have hD2:H7 D2=some (.lst []):=by
  rw[hD2,List.filter_eq_nil_iff.mpr (fun _ _=>Bool.false_ne_true)]
  rfl
 refine⟨xG,fun e3 ne3=>?_⟩
 have s8:=cI.upd (o:=.lst []) ne3
 have he3:upd H7 e3 (.lst []) e3=some (.lst []):=cE
 generalize upd H7 e3 (.lst [])=H8 at s8 he3
 exact .same D2 e3 [] [] [] rfl rfl (cL.of (s8 _ _ hD2)) (cL.of he3) rfl rfl (fun i u v c hu=>by cases hu) (k H8 (s06.trans (s7.trans s8)))
theorem IC{K:PySem.W.Frag}{a e:Addr}{xs:List V}{H:Hp}{Q:VK}(h:H a=some (.lst xs))(n:H e=none)(k:∀H',cI H H'→Q (.bl xs.isEmpty) H'):B4 K (.ref a) (.ref e) (upd H e (.lst [])) Q:=by
 have s1:=cI.upd (o:=.lst []) n
 cases xs with
 |nil=>exact .same a e [] [] [] rfl rfl (cL.of (s1 _ _ h)) (cL.of cE) rfl rfl (fun i u v c hu=>by cases hu) (k _ s1)
 |cons x0 xr=>exact .other a e (x0::xr) [] rfl rfl (cL.of (s1 _ _ h)) (cL.of cE) (by show xr.length+1≠0;omega) (k _ s1)
theorem J0{K:PySem.W.Frag}{a e:Addr}{xs:List V}{H:Hp}{Q:VK}(h:H a=some (.lst xs))(n:H e=none)(k:∀H',cI H H'→Q (.bl (!xs.isEmpty)) H'):DH K (.ref a) (.ref e) (upd H e (.lst [])) Q:=by
 have s1:=cI.upd (o:=.lst []) n
 cases xs with
 |nil=>exact .same a e [] [] [] rfl rfl (cL.of (s1 _ _ h)) (cL.of cE) rfl rfl (fun i u v c hu=>by cases hu) (k _ s1)
 |cons x0 xr=>exact .other a e (x0::xr) [] rfl rfl (cL.of (s1 _ _ h)) (cL.of cE) (by show xr.length+1≠0;omega) (k _ s1)
def ja(H H':Hp):Prop:=∀b o,H b=some o→(∀ps,o≠.tbl ps)→H' b=some o
theorem ja.of{P0:Addr}{H H':Hp}{pos:Pos}{qual:Str}(s:jg P0 H H')(tb:jN H P0 pos qual):ja H H':=fun b o e n=>by
 refine s b o (fun z=>?_) e
 obtain⟨ps',h1,_⟩:=tb
 rw[z,h1]at e
 cases e
 exact n _ rfl
theorem ja.same{H H':Hp}(s:cI H H'):ja H H':=fun b o e _=>s b o e
theorem ja.trans{H H1 H2:Hp}(a:ja H H1)(b:ja H1 H2):ja H H2:=fun c o e n=>b c o (a c o e n) n
theorem ja.lst{H H':Hp}(s:ja H H'){a:Addr}{xs:List V}(h:H a=some (.lst xs)):H' a=some (.lst xs):=s _ _ h (by intro _ z;cases z)
theorem ja.tk{H H':Hp}(s:ja H H'):Tk H H':=fun b xs e=>s b _ e (by intro _ z;cases z)
theorem ja.bk{H H':Hp}(s:ja H H'){C x p q t y:Addr}{ps:List Str}{ss ts ys:List V}(h:Bk C H x p q t y ps ss ts ys):Bk C H' x p q t y ps ss ts ys:=by
 obtain⟨⟨dx,hx⟩,hp,hs,ht,hy⟩:=h
 exact⟨⟨dx,s _ _ hx (by intro _ z;cases z)⟩,s.lst hp,s.lst hs,s.lst ht,s.lst hy⟩
inductive CH  (K:PySem.W.Frag)(P0:Addr)(vs:List V)(H:Hp)(Q:VK):Prop
 |mk(a:Addr)(ns:List Int)(h0:vs=[.ref a])(h1:cL K H a (ns.map V.int))(h2:ns.length≤63)(h3:H P0=some (.tbl #[]))(h4:∀H',Q (.bl true) H')
def uQ  (K:PySem.W.Frag)(P0:Addr):Sp:=fun vs H Q _=>CH K P0 vs H Q
section
variable {P:Program}{w:World}{K:PySem.W.Frag}{mg:Str→Option Value}{base:Heap}{kw C P0:Addr}
theorem Cz:cJ ["_law_script", "_law_parts", "_law_book_here", "_law_sights", "_law_tellings", "_law_opened", "_law_cell", "_law_story_here"] ["_law_script"] (cG mM):={}
theorem BR {f:Addr}{fd:FuncData}(F:lM K "law" "law" mM f fd) (T:Txt K mg kw C) (G__law_book:Gd P w K mg base 3 "_law_book" (pU K)) (G_Book:Kd P w K mg base 7 "Book" C (l8 C)) (G_open_sights:Gd P w K mg base 4 "open_sights" (lX C)) (G_open_tellings:Gd P w K mg base 4 "open_tellings" (lN C)) (G__law_open_parts:Gd P w K mg base 1 "_law_open_parts" CI) (G__law_story:Gd P w K mg base 3 "_law_story" CO) (G_is_story:Gd P w K mg base 3 "is_story" (AR C P0)) (G__law_all_open:Gd P w K mg base 1 "_law_all_open" Cy) (G__law_others:Gd P w K mg base 4 "_law_others" (AW C)) (G__law_open_story:Gd P w K mg base 2 "_law_open_story" B0) (G__law_one_less:Gd P w K mg base 10 "_law_one_less" (CQ C)) (G__law_mix:Gd P w K mg base 1 "_law_mix" lj):dY P w K mg base jC 12 f fd ["_law_script"] (uQ K P0):=by
 refine J.l4 F Cz (fun vs H Q E h=>?_) (fun X H vs Q E hh h=>?_)
 ·obtain⟨a,ns,rfl,_⟩:=h
  rfl
 ·obtain⟨a,ns,rfl,hS,hlen,hP,k⟩:=h
  obtain⟨S0,S1,S2,S3,S4,S5,S6,S7,_⟩:=hh.eE [0,1,2,3,4,5,6,7]
  have B_len:=hh.b T.b_len
  have C__law_all_open:=hh.c G__law_all_open
  have C__law_book:=hh.c G__law_book
  have C__law_mix:=hh.c G__law_mix
  have C__law_one_less:=hh.c G__law_one_less
  have C__law_open_parts:=hh.c G__law_open_parts
  have C__law_open_story:=hh.c G__law_open_story
  have C__law_others:=hh.c G__law_others
  have C__law_story:=hh.c G__law_story
  have C_is_story:=hh.c G_is_story
  have C_open_sights:=hh.c G_open_sights
  have C_open_tellings:=hh.c G_open_tellings
  have K_Book:=hh.Eu G_Book rfl (by decide) (by decide)
  have hu:=ft hh.room
  obtain rfl:=hh.fK
  have hsz:sizeLine=16777216:=sizeLine_eq
  have tb:jN H P0 gP jQ:=⟨#[],hP,trivial,.inl rfl⟩
  refine⟨_,(af (aB S1 hh.nd (av C__law_book (aD (aa S0) ae)))
 (af (aB S2 hh.nd (J.Eu K_Book (bI (ag a5 (aa S1) ae ao) (ag a5 (aa S1) ae ao) (ag a5 (aa S1) ae ao) (ag a5 (aa S1) ae ao))))
 (af (aB S3 hh.nd (av C_open_sights (ak (aa S2))))
 (af (aB S4 hh.nd (av C_open_tellings (ak (aa S2))))
 (af (aB S5 hh.nd (av C__law_open_parts (aQ (aa S1) (aa S3) (aa S4))))
 (af (bq hh.own hh.calm (aV (ah J.iY (bQ ck (aa S0) bY (bM ae)) (bg (ak (aE B_len aZ L2.cV (ak (aa S0))))))) (aP S6 hh.nd)
 (af (aB S7 hh.nd (av C__law_story (aD (aa S1) (aa S6))))
 (af (aJ (ba (bj (av C_is_story (aD (aa S2) (aa S7)))))
 (aj (au bp))
 aM)
 (af (aJ (aF cv (av C__law_all_open (aQ (aa S3) (aa S4) (aa S7))) (aU (J.jL hu) (av C__law_others (aQ (aa S2) (aa S1) (aa S7))) (bg bz) (L2.cK _)) (L2.cK _))
 (aj (au bp))
 aM)
 (af (aB S7 hh.nd (av C__law_open_story (aD (aa S5) (aa S6))))
 (aj (aJ (bf (bZ (ba (bj (av C_is_story (aD (aa S2) (aa S7))))) (cm (aF (J.lI hu) (av C__law_others (aQ (aa S2) (aa S1) (aa S7))) (bg bz) (L2.cK _)))))
 (aj (au bp))
 aM)))))))
 (aj (au (av C__law_one_less (J.Jf (aa S2) (aa S1) (aa S3) (aa S4) (av C__law_mix (aD (aE B_len aZ L2.cV (ak (aa S0))) ae)))))))))))),?_⟩
  refine⟨_,rfl,a,ns,rfl,hS,hlen,fun r p s t y ps ss ts ys H1 s1 nr np ns' nt ny nd hr hp hs ht hy g t60 y60=>?_⟩
  refine⟨_,rfl,xL hr rfl ⟨_,rfl,xL hr rfl ⟨_,rfl,xL hr rfl ⟨_,rfl,xL hr rfl fun x dx nx ndx nex=>?_⟩⟩⟩⟩
  have s2:cI H1 (upd (upd H1 dx (.own x)) x (.ins C dx [])):=fun b o e=>by
   rw[cH (cF e nx),cH (cF e ndx)]
   exact e
  refine⟨x,dx,p,s,t,y,ps,ss,ts,ys,rfl,cE,s2 _ _ hp,s2 _ _ hs,s2 _ _ ht,s2 _ _ hy,g.mono (Tk.of s2),fun p' s' t' y' H3 _ _ _ _ bk kp=>⟨rfl,?_⟩⟩
  have s3:cI H1 H3:=fun b o e=>kp b o (s2 _ _ e) (cF e nx)
  have hr3:=s3 _ _ hr
  have hp3:=s3 _ _ hp
  have hs3:=s3 _ _ hs
  have ht3:=s3 _ _ ht
  have g3:=g.mono (Tk.of s3)
  obtain⟨sg,gs,gk⟩:=rg g3.sg
  obtain⟨qd,qs,qk⟩:=Ds g3.tg
  obtain⟨sd,sy,sk⟩:=iR g3.yg
  have hy3:=s3 _ _ hy
  have pl:=g3.ok.hi
  have sl':=g3.sl
  have tl:=g3.tl
  have yl:=g3.yl
  have s03:=s1.trans s3
  clear s2 kp
  have hS3:cL X.K H3 a (ns.map V.int):=s03.seq hS
  refine⟨_,rfl,x,p',s',t',y',ps,ss,ts,ys,sg,sd,rfl,bk,pl,sl',gs,(fun d hd=>(gk d hd).1),sy,yl,fun so H4 s4 nso hso=>?_⟩
  refine⟨_,rfl,x,p',s',t',y',ps,ss,ts,ys,qd,sd,rfl,bk.mono s4,pl,tl,qs.mono (d3.mono (Tk.of s4)),qk,sy.mono (Tk.of s4),yl,fun to tv H5 s5 nto hto tu=>?_⟩
  have s35:=s4.trans s5
  refine⟨_,rfl,_,rfl,_,rfl,r,p,s,t,y,so,to,ps,ss,ts,tv,sg,qd,sd,rfl,s35 _ _ hr3,s35 _ _ hs3,s35 _ _ ht3,sl',tl,gs.mono (dA.mono (Tk.of s35)),qs.mono (d3.mono (Tk.of s35)),qk,s5 _ _ hso,hto,tu,fun op vw tw vws tws H6 s6 hop hvw htw vl2 tl2 gv gt=>?_⟩
  have tb6:jN H6 P0 gP jQ:=tb.mono (s03.trans (s35.trans s6))
  have s36:=s35.trans s6
  refine⟨_,rfl,_,rfl,a,_,rfl,s36.seq hS3,fun sl nsl=>?_⟩
  have slen:=ll (ns.map V.int) none (some 30)
  have sints:∀v∈dz (ns.map V.int) none (some 30),∃c:Int,v=.int c:=fun v hv=>by
   obtain⟨c,_,rfl⟩:=mem_map.mp (mem_of_mem_drop (mem_of_mem_take hv))
   exact⟨c,rfl⟩
  rw[length_map]at slen
  have s7:=cI.upd (o:=.lst (dz (ns.map V.int) none (some 30))) nsl
  have hsl:upd H6 sl (.lst (dz (ns.map V.int) none (some 30))) sl=some (.lst (dz (ns.map V.int) none (some 30))):=cE
  generalize upd H6 sl (.lst (dz (ns.map V.int) none (some 30)))=H7 at s7 hsl
  generalize dz (ns.map V.int) none (some 30)=cs at slen sints hsl
  refine⟨_,rfl,a,_,rfl,.inl (s7.seq (s36.seq hS3)),Jb,fun ol nol=>?_⟩
  rw[length_map]
  have s8:=cI.upd (o:=.lst [V.int ns.length]) nol
  have hol:upd H7 ol (.lst [V.int ns.length]) ol=some (.lst [V.int ns.length]):=cE
  generalize upd H7 ol (.lst [V.int ns.length])=H8 at s8 hol
  refine⟨sl,ol,cs,[V.int ns.length],rfl,rfl,cL.of (s8 _ _ hsl),cL.of hol,by show cs.length+1≤sizeLine;omega,fun cl ncl=>?_⟩
  have s9:=cI.upd (o:=.lst (cs++[V.int ns.length])) ncl
  have hcl:upd H8 cl (.lst (cs++[V.int ns.length])) cl=some (.lst (cs++[V.int ns.length])):=cE
  generalize upd H8 cl (.lst (cs++[V.int ns.length]))=H9 at s9 hcl
  have ci:∀v∈cs++[V.int ns.length],∃c:Int,v=.int c:=fun v hv=>by
   rcases mem_append.mp hv with hv|hv
   ·exact sints v hv
   ·exact⟨_,mem_singleton.mp hv⟩
  generalize cs++[V.int ns.length]=ds at hcl ci
  have s69:=(s7.trans s8).trans s9
  have s39:=s36.trans s69
  have s59:=s6.trans s69
  have s49:=s5.trans s59
  have isst:∀{H7:Hp}{l:Addr}{us:List V}{rs:List RI}{Q':VK},ja H3 H7→jN H7 P0 gP jQ→H7 l=some (.lst us)→Lz eD H7 us rs→rs.length≤100→zI sg qd rs=true→(∀H',ja H7 H'→jN H' P0 gP jQ→Q' (.bl true) H')→AR C P0 [.ref x,.ref l] H7 Q' E0:=fun {H7 l us rs Q'} kp tb hl lz rl eb kk=>
   ⟨x,p',s',t',y',l,ps,ss,ts,ys,us,sg,qd,rs,rfl,kp.bk bk,sl',tl,gs.mono (dA.mono kp.tk),qs.mono (d3.mono kp.tk),qk,hl,lz,rl,tb,fun H' sP tb'=>by rw[eb];exact kk H' (.of sP tb) tb'⟩
  have oth:∀{H7:Hp}{l:Addr}{us:List V}{rs:List RI}{Q':VK},ja H3 H7→H7 l=some (.lst us)→Lz eD H7 us rs→rs.length≤24→(rs.map (·.1)).Nodup→(∀o H',cI H7 H'→H7 o=none→H' o=some (.lst ((sU rs sd).map fun i=>V.int (i:Nat)))→Q' (.ref o) H')→AW C [.ref x,.ref r,.ref l] H7 Q' E0:=fun {H7 l us rs Q'} kp hl lz rl nd kk=>
   ⟨x,r,p,s,t,y,p',s',t',y',l,ps,ss,ts,ys,us,sd,rs,rfl,kp.bk bk,kp.lst hr3,kp.lst hy3,sy.mono kp.tk,yl,hl,lz,nd,rl,kk⟩
  refine⟨cl,rfl,⟨_,cL.of hcl⟩,el (K:=X.K) (a:=cl) (xs:=ds) (fun i σ H7=>∃e1 e2:Option V,σ=[some (.ref a),some (.ref r),some (.ref x),some (.ref so),some (.ref to),some (.ref op),e1,e2]∧ja H9 H7∧jN H7 P0 gP jQ) ⟨none,none,rfl,.same (cI.refl _),tb6.mono s69⟩ ?_ ?_ ?_⟩
  ·rintro i σ Ha hi ⟨e1,e2,rfl,ka,tba⟩
   exact cL.of (ka.lst hcl)
  ·rintro i v σ Ha hv ⟨e1,e2,rfl,ka,tba⟩
   obtain⟨c,rfl⟩:=ci v (mem_of_getElem? hv)
   have k3:ja H3 Ha:=(ja.same s39).trans ka
   refine⟨_,rfl,_,rfl,r,p,s,t,y,c,ps,ss,ts,sg,qd,rfl,k3.lst hr3,k3.lst hs3,k3.lst ht3,sl',tl,gs.mono (dA.mono k3.tk),gk,qs.mono (d3.mono k3.tk),qk,pl,fun l us st Hb sb nl hl lz stl good nd ev=>?_⟩
   have k3b:=k3.trans (.same sb)
   refine⟨_,rfl,_,rfl,isst k3b (tba.mono sb) hl lz (by omega) good fun Hc kc tbc=>⟨_,rfl,dt ?_⟩⟩
   have k3c:=k3b.trans kc
   have k9c:=(ka.trans (.same sb)).trans kc
   have k5c:ja H5 Hc:=(ja.same s59).trans k9c
   have k4c:ja H4 Hc:=(ja.same s49).trans k9c
   have lzc:=lz.mono (eD.mono kc.tk)
   have hlc:=kc.lst hl
   refine⟨_,rfl,_,rfl,_,rfl,so,to,l,tv,us,sg,qd,sd,st,rfl,k4c.lst hso,k5c.lst hto,tu.mono k5c.tk,hlc,lzc,(fun d hd=>(ev d hd).1),fun Hd sd1=>?_⟩
   rw[qT (fun d hd=>(ev d hd).1) nd fun d hd=>(ev d hd).2]
   refine⟨_,rfl,_,rfl,_,rfl,oth (k3c.trans (.same sd1)) (sd1 _ _ hlc) (lzc.mono (eD.mono (Tk.of sd1))) stl nd fun o He se no ho=>⟨xG,fun e3 ne3=>IC ho ne3 fun Hf sf=>?_⟩⟩
   rw[oU]
   have scf:=(sd1.trans se).trans sf
   refine⟨rfl,_,rfl,gW (by simp) ?_⟩
   have k9f:=k9c.trans (.same scf)
   have k6f:ja H6 Hf:=(ja.same s69).trans k9f
   have tbf:=tbc.mono scf
   have k3f:ja H3 Hf:=k3c.trans (.same scf)
   refine⟨_,rfl,_,rfl,op,vw,tw,c,ps,vws,tws,sg,qd,sd,rfl,k6f.lst hop,k6f.lst hvw,k6f.lst htw,vl2,tl2,(fun v hv=>(gv v hv).mono k6f.tk),(fun v hv=>(gt v hv).mono k6f.tk),gk,qk,pl,fun l2 us2 st2 Hg sg2 nl2 hl2 lz2 stl2 good2 nd2 ev2=>?_⟩
   have k3g:=k3f.trans (.same sg2)
   refine⟨_,rfl,_,rfl,isst k3g (tbf.mono sg2) hl2 lz2 (by omega) good2 fun Hh kh tbh=>⟨_,rfl,dt ?_⟩⟩
   refine⟨_,rfl,_,rfl,_,rfl,oth (k3g.trans kh) (kh.lst hl2) (lz2.mono (eD.mono kh.tk)) stl2 nd2 fun o2 Hi si no2 ho2=>⟨xG,fun e4 ne4=>J0 ho2 ne4 fun Hj sj=>?_⟩⟩
   rw[oU,←qT (sg:=sg) (qd:=qd) (fun d hd=>(ev2 d hd).1) nd2 fun d hd=>(ev2 d hd).2.1,all_eq_true.mpr fun d hd=>(ev2 d hd).2.2]
   exact⟨_,rfl,dt ⟨_,_,rfl,((k9f.trans (.same sg2)).trans kh).trans (.same (si.trans sj)),tbh.mono (si.trans sj)⟩⟩
  ·rintro σ Ha ⟨e1,e2,rfl,ka,tba⟩
   have k3:ja H3 Ha:=(ja.same s39).trans ka
   have k5:ja H5 Ha:=(ja.same s59).trans ka
   have k4:ja H4 Ha:=(ja.same s49).trans ka
   have hSa:cL X.K Ha a (ns.map V.int):=by
    rcases hS3 with (h|⟨o,h⟩)|h
    ·exact .inl (.inl (k3 _ _ h (by intro _ z;cases z)))
    ·exact .inl (.inr ⟨o,k3 _ _ h (by intro _ z;cases z)⟩)
    ·exact .inr h
   refine⟨_,rfl,_,rfl,_,rfl,_,rfl,_,rfl,a,_,rfl,.inl hSa,_,7,rfl,by decide,by decide,fun m1 m10 m11=>?_⟩
   exact⟨x,r,p,s,t,y,p',s',t',y',so,to,ps,ss,ts,ys,tv,sg,qd,sd,m1,rfl,k3.bk bk,k3.lst hr3,k3.lst hy3,g3.mono k3.tk,gs.mono (dA.mono k3.tk),gk,qs.mono (d3.mono k3.tk),qk,sy.mono k3.tk,k4.lst hso,k5.lst hto,tu.mono k5.tk,fun Hz _=>k Hz⟩
end
end K16
namespace K16
open PySem L2
theorem len0(us:List Value)(h:us.length=0):us=[]:=eq_nil_of_length_eq_zero h
theorem wX{n:Nat}(us:List Value)(h:us.length=n+1):∃a r,us=a::r∧r.length=n:=by
 cases us with
 |nil=>cases h
 |cons a r=>exact⟨a,r,rfl,Nat.succ.inj h⟩
theorem tV(us:List Value)(h:us.length=1):∃a,us=[a]:=by
 obtain⟨a,r,rfl,h'⟩:=wX us h
 exact⟨a,by rw[len0 r h']⟩
theorem Cs(us:List Value)(h:us.length=2):∃a b,us=[a,b]:=by
 obtain⟨a,r,rfl,h'⟩:=wX us h
 obtain⟨b,rfl⟩:=tV r h'
 exact⟨a,b,rfl⟩
theorem EC(us:List Value)(h:us.length=3):∃a b c,us=[a,b,c]:=by
 obtain⟨a,r,rfl,h'⟩:=wX us h
 obtain⟨b,c,rfl⟩:=Cs r h'
 exact⟨a,b,c,rfl⟩
theorem Fg(us:List Value)(h:us.length=4):∃a b c d,us=[a,b,c,d]:=by
 obtain⟨a,r,rfl,h'⟩:=wX us h
 obtain⟨b,c,d,rfl⟩:=EC r h'
 exact⟨a,b,c,d,rfl⟩
theorem Dp(us:List Value)(h:us.length=5):∃a b c d e,us=[a,b,c,d,e]:=by
 obtain⟨a,r,rfl,h'⟩:=wX us h
 obtain⟨b,c,d,e,rfl⟩:=Fg r h'
 exact⟨a,b,c,d,e,rfl⟩
theorem JN(us:List Value)(h:us.length=6):∃a b c d e f,us=[a,b,c,d,e,f]:=by
 obtain⟨a,r,rfl,h'⟩:=wX us h
 obtain⟨b,c,d,e,f,rfl⟩:=Dp r h'
 exact⟨a,b,c,d,e,f,rfl⟩
theorem FF.d{K:PySem.W.Frag}{h:Heap}{mg:Str→Option Value}{x:Str}{st:Stmt}(F:FF K x st)(X:K.In h)(G:h.Ns mainGlobals mg)(ps:List Str)(hb:∀(kV doc pm:Value)(an:Option Addr)(cdv ct:Value)(us:List Value),us.length=ps.length→bindArgs (fnOf x x (cW st) (cN st) (cG st) .none kV doc pm an cdv ct) ⟨us,[]⟩=pure (ps.zip us):=by intro _ _ _ _ _ _ us hl;first| (obtain⟨_,rfl⟩:=tV us hl;rfl)| (obtain⟨_,_,rfl⟩:=Cs us hl;rfl)| (obtain⟨_,_,_,rfl⟩:=EC us hl;rfl)| (obtain⟨_,_,_,_,rfl⟩:=Fg us hl;rfl)| (obtain⟨_,_,_,_,_,rfl⟩:=Dp us hl;rfl)):∃f fd,Df K mg x st ps f fd:=by
 obtain⟨a,l,c,k⟩:=F
 have F1:=gK (st:=st) l c k
 exact⟨_,_,F1,mg_of X G a,F1.binds hb⟩
theorem j4:∀{zs:List Str}{us:List Value},strsOf us=zs.map some→Vals (zs.map V.str) us
 |[],[],_=>.nil
 |[],_::_,h=>by cases h
 |_::_,[],h=>by cases h
 |z::zs,u::us,h=>by
  have h1:oneOf u::strsOf us=some z::zs.map some:=h
  injection h1 with e1 e2
  refine .cons ?_ (j4 e2)
  cases u with
  |str x t=>
   cases e1
   exact⟨t,rfl⟩
  |_=>cases e1
theorem all_mk {l:PySem.W.OpenLaw}{w:World}{K:PySem.W.Frag}{h:Heap}{mg:Str→Option Value}{fa P0:Addr}(X:K.In h) (G:h.Ns mainGlobals mg) (hfa:mg "law" =some (.ref fa)) (FX:Facts K P0):
  (∃c0,codeHdIn K c0 P0=true)∧K.lookup P0=none∧∃fd:FuncData,(∀(s:Shared) (v:Value),BindsTo s fd ⟨[v],[]⟩ [("_law_script",v)])∧∀base:Heap,K.In base→base.Ns mainGlobals mg→jE mg base→dY l.prog w K mg base jC 12 fa fd ["_law_script"] (uQ K P0):=by
 obtain @⟨kw,C,c0,f52,f53,f54,f55,f56,f57,f58,odw,od52,an52,od53,an53,od54,an54,od55,an55,od56,an56,od57,an57,od58,an58,slw,sl52,sl53,sl54,sl55,sl56,sl57,sl58,oc52,kV52,dc52,pm52,cd52,ct52,oc53,kV53,dc53,pm53,cd53,ct53,oc54,kV54,dc54,pm54,cd54,ct54,oc55,kV55,dc55,pm55,cd55,ct55,oc56,kV56,dc56,pm56,cd56,ct56,oc57,kV57,dc57,pm57,cd57,ct57,oc58,kV58,dc58,pm58,cd58,ct58,its,nW,tk1,tk2,tk3,tk4,tk5,aW,lW,vW,h1,h2,h3,h4,h5,h6,h7,h8,h9,h10,h11,h12,h13,h14,h15,h16,h17,h18,h19,h20,h21,h22,h23,h24,h25,h26,h27,h28,h29,h30,h31,h32,h33,h34,h35,h36,h37,h38,h39,h40,h41,h42,h43,h44,h45,h46,h47,h48,h49,h50,h51,aC,pg,hd,po,sa,mk,kc,nP,nS,nT,nY,yst,ycP,yKP,a52,i52,l52,c52,k52,a53,i53,l53,c53,k53,a54,i54,l54,c54,k54,a55,i55,l55,c55,k55,a56,i56,l56,c56,k56,a57,i57,l57,c57,k57,a58,i58,l58,c58,k58,z1,z2,z3,z4,z5,z6,z7,z8,z9,z10,z11,z12,z13,z14,z15,z16,z17,z18,z19,g1,g2,g3,g4,g5⟩:=FX
 have vW:=j4 (zs:=kept) vW
 obtain @⟨f51,oc51,kV51,dc51,pm51,cd51,ct51,od51,an51,sl51,a51,l51,c51,k51⟩:=h51
 have e:=hfa.symm.trans (mg_of X G a51)
 cases e
 have hsz:its.size≤sizeLine:=by
  have e:=vW.length
  have e2:(kept.map V.str).length=12:=by decide+kernel
  rw[e2,length_toList]at e
  have:sizeLine=16777216:=sizeLine_eq
  omega
 have T:Txt K mg kw C:=⟨mg_none_of X G z1,mg_none_of X G z2,mg_none_of X G z3,mg_none_of X G z4,mg_none_of X G z5,mg_none_of X G z6,mg_none_of X G z7,mg_none_of X G z8,mg_none_of X G z9,mg_none_of X G z10,mg_none_of X G z11,mg_none_of X G z12,mg_none_of X G z13,mg_none_of X G z14,mg_none_of X G z15,mg_none_of X G z16,mg_none_of X G z17,mg_none_of X G z18,mg_none_of X G z19,mg_of X G aW,⟨_,its,nW,lW,rfl,rfl,hsz,vW⟩,⟨_,mg_of X G g1,⟨_,rfl⟩⟩,⟨_,mg_of X G g2,⟨_,rfl⟩⟩,⟨_,mg_of X G g3,⟨_,rfl⟩⟩,⟨_,mg_of X G g4,⟨_,rfl⟩⟩,⟨_,mg_of X G g5,⟨_,rfl⟩⟩,⟨pg,hd,po,sa⟩,nP,nS,nT,nY⟩
 have F51:=gK (st:=mM) l51 c51 k51
 have F52:=gK (st:=gA) l52 c52 k52
 have F53:=gK (st:=ef) l53 c53 k53
 have F54:=gK (st:=eG) l54 c54 k54
 have F55:=gK (st:=fb) l55 c55 k55
 have F56:=gK (st:=d8) l56 c56 k56
 have F57:=gK (st:=dW) l57 c57 k57
 have F58:=gK (st:=cX) l58 c58 k58
 obtain⟨_,_,D_is_whole⟩:=h1.d X G ["thing"]
 obtain⟨_,_,D_is_hour⟩:=h2.d X G ["thing"]
 obtain⟨_,_,D_is_name⟩:=h3.d X G ["thing"]
 obtain⟨_,_,D_is_list_up_to⟩:=h4.d X G ["thing", "most"]
 obtain⟨_,_,D_is_tuple_of⟩:=h5.d X G ["thing", "length"]
 obtain⟨_,_,D_is_person⟩:=h6.d X G ["persons", "thing"]
 obtain⟨_,_,D_are_unlike_persons⟩:=h7.d X G ["persons", "one", "other"]
 obtain⟨_,_,D_is_tale⟩:=h8.d X G ["thing"]
 obtain⟨_,_,D_is_sight⟩:=h9.d X G ["persons", "thing"]
 obtain⟨_,_,D_is_way⟩:=h10.d X G ["thing"]
 obtain⟨_,_,D_is_talk⟩:=h11.d X G ["persons", "thing"]
 obtain⟨_,_,D_is_span⟩:=h12.d X G ["begin", "end"]
 obtain⟨_,_,D_is_short_saying⟩:=h13.d X G ["persons", "kind", "person", "behind"]
 obtain⟨_,_,D_is_saying⟩:=h14.d X G ["persons", "thing"]
 obtain⟨_,_,D_are_persons⟩:=h15.d X G ["thing"]
 obtain⟨_,_,D_are_sights⟩:=h16.d X G ["persons", "thing"]
 obtain⟨_,_,D_are_talks⟩:=h17.d X G ["persons", "thing"]
 obtain⟨_,_,D_are_sayings⟩:=h18.d X G ["persons", "thing"]
 obtain⟨_,_,D_l_names⟩:=h19.d X G ["_law_cell"]
 obtain⟨_,_,D_l_hour⟩:=h20.d X G ["_law_number"]
 obtain⟨_,_,D_l_tale⟩:=h21.d X G ["_law_number", "_law_names_here"]
 obtain⟨_,_,D_l_talk⟩:=h22.d X G ["_law_number", "_law_persons"]
 obtain⟨_,_,D_l_saying⟩:=h23.d X G ["_law_number", "_law_persons"]
 obtain⟨_,_,D_l_book⟩:=h24.d X G ["_law_script", "_law_most"]
 obtain⟨_,_,D_hours_in⟩:=h25.d X G ["story"]
 obtain⟨_,_,D_are_rising⟩:=h26.d X G ["names"]
 obtain⟨_,_,D_is_sight_at⟩:=h27.d X G ["sights", "i", "person", "hour"]
 obtain⟨_,_,D_hours_of_tellings⟩:=h28.d X G ["book"]
 obtain⟨_,_,D_is_told_at⟩:=h29.d X G ["talk_hours", "telling", "hour"]
 obtain⟨_,_,D_fits_knew⟩:=h30.d X G ["hours", "person", "hour"]
 obtain⟨_,_,D_fits_unheard⟩:=h31.d X G ["hours", "person", "hour"]
 obtain⟨_,_,D_fits_silent⟩:=h32.d X G ["story", "person", "begin", "end"]
 obtain⟨_,_,D_fits_barred⟩:=h33.d X G ["story", "person", "other"]
 obtain⟨_,_,D_fits⟩:=h34.d X G ["story", "saying"]
 obtain⟨_,_,D_unfitted⟩:=h35.d X G ["book", "story"]
 obtain⟨_,_,D_floor_of⟩:=h36.d X G ["book", "person"]
 obtain⟨_,_,D_floors_of_all⟩:=h37.d X G ["book"]
 obtain⟨_,_,D_is_above⟩:=h38.d X G ["hour", "floor"]
 obtain⟨_,_,D_is_silent⟩:=h39.d X G ["sayings", "person", "hour"]
 obtain⟨_,_,D_is_barred⟩:=h40.d X G ["sayings", "hearer", "teller"]
 obtain⟨_,_,D_open_sights⟩:=h41.d X G ["book"]
 obtain⟨_,_,D_open_tellings⟩:=h42.d X G ["book"]
 obtain⟨_,_,D_l_mix⟩:=h43.d X G ["_law_cell", "_law_k"]
 obtain⟨_,_,D_l_events⟩:=h44.d X G ["_law_parts", "_law_cell"]
 obtain⟨_,_,D_l_story⟩:=h45.d X G ["_law_parts", "_law_cell"]
 obtain⟨_,_,D_l_all_open⟩:=h46.d X G ["_law_sights", "_law_tellings", "_law_story_here"]
 obtain⟨_,_,D_l_open_parts⟩:=h47.d X G ["_law_parts", "_law_sights", "_law_tellings"]
 obtain⟨_,_,D_l_open_story⟩:=h48.d X G ["_law_opened", "_law_cell"]
 obtain⟨_,_,D_l_others⟩:=h49.d X G ["_law_book_here", "_law_parts", "_law_story_here"]
 obtain⟨_,_,D_l_one_less⟩:=h50.d X G ["_law_book_here", "_law_parts", "_law_sights", "_law_tellings", "_law_number"]
 have b_m_init:=F52.binds (ps:=["self", "persons", "sights", "talks", "sayings"]) fun _ _ _ _ _ _ us hl=>by
  obtain⟨_,_,_,_,_,rfl⟩:=Dp us hl
  rfl
 have F_m_init:=F52
 have mk_m_init:Mk K C f52:=⟨mk,a52,i52,kc⟩
 have b_m_persons:=F53.binds (ps:=["self"]) fun _ _ _ _ _ _ us hl=>by
  obtain⟨_,rfl⟩:=tV us hl
  rfl
 have F_m_persons:=F53
 have me_m_persons:Meth K C "persons" f53:=⟨a53,i53,k53⟩
 have b_m_sights:=F54.binds (ps:=["self"]) fun _ _ _ _ _ _ us hl=>by
  obtain⟨_,rfl⟩:=tV us hl
  rfl
 have F_m_sights:=F54
 have me_m_sights:Meth K C "sights" f54:=⟨a54,i54,k54⟩
 have b_m_talks:=F55.binds (ps:=["self"]) fun _ _ _ _ _ _ us hl=>by
  obtain⟨_,rfl⟩:=tV us hl
  rfl
 have F_m_talks:=F55
 have me_m_talks:Meth K C "talks" f55:=⟨a55,i55,k55⟩
 have b_m_sayings:=F56.binds (ps:=["self"]) fun _ _ _ _ _ _ us hl=>by
  obtain⟨_,rfl⟩:=tV us hl
  rfl
 have F_m_sayings:=F56
 have me_m_sayings:Meth K C "sayings" f56:=⟨a56,i56,k56⟩
 have b_m_tellings:=F57.binds (ps:=["self"]) fun _ _ _ _ _ _ us hl=>by
  obtain⟨_,rfl⟩:=tV us hl
  rfl
 have F_m_tellings:=F57
 have me_m_tellings:Meth K C "tellings" f57:=⟨a57,i57,k57⟩
 have b_m_without_saying:=F58.binds (ps:=["self", "number"]) fun _ _ _ _ _ _ us hl=>by
  obtain⟨_,_,rfl⟩:=Cs us hl
  rfl
 have F_m_without_saying:=F58
 have me_m_without_saying:Meth K C "without_saying" f58:=⟨a58,i58,k58⟩
 have nmB:=mg_of X G aC
 obtain @⟨fS,ocS,kVS,dcS,pmS,ctS,odS,anS,slS,aS,lS,cS,kS⟩:=yst
 refine⟨⟨c0,ycP⟩,yKP,fnOf "law" "law" (cW mM) (cN mM) (cG mM) .none kV51 dc51 pm51 an51 cd51 ct51,fun s v=>.of_eq rfl,fun base hM _ hb=>?_⟩
 have G1:Gd l.prog w K mg base 2 "is_hour" (kD K):=⟨_,_,_,zK D_is_hour.fn D_is_whole T,D_is_hour.nm,D_is_hour.fn.kp,D_is_hour.bi⟩
 have G2:Gd l.prog w K mg base 1 "is_name" (mO K):=⟨_,_,_,AF D_is_name.fn T,D_is_name.nm,D_is_name.fn.kp,D_is_name.bi⟩
 have G3:Gd l.prog w K mg base 1 "is_list_up_to" gf:=ua D_is_list_up_to T
 have G4:Gd l.prog w K mg base 1 "is_tuple_of" lU:=wM D_is_tuple_of T
 have G5:Gd l.prog w K mg base 2 "is_person" gn:=xk D_is_person G2
 have G6:Gd l.prog w K mg base 3 "are_unlike_persons" jK:=wk D_are_unlike_persons G5
 have G7:Gd l.prog w K mg base 2 "is_tale" tO:=Bj D_is_tale T G2
 have G8:Gd l.prog w K mg base 3 "is_sight" pC:=yJ D_is_sight G4 G5 G1 G7
 have G9:Gd l.prog w K mg base 1 "is_way" yy:=CA D_is_way T
 have G10:Gd l.prog w K mg base 4 "is_talk" t6:=Ar D_is_talk G4 G6 G1 G9
 have G11:Gd l.prog w K mg base 3 "is_span" uw:=zR D_is_span G1
 have G12:Gd l.prog w K mg base 4 "is_short_saying" p5:=zj D_is_short_saying G6 G5 G1
 have G13:Gd l.prog w K mg base 5 "is_saying" mJ:=wB D_is_saying T G5 G11 G12
 have G14:Gd l.prog w K mg base 2 "are_persons" kW:=uh D_are_persons T G3 G2
 have G15:Gd l.prog w K mg base 4 "are_sights" (gR ej 24):=og D_are_sights T G3 G8
 have G16:Gd l.prog w K mg base 5 "are_talks" (gR eQ 120):=qe D_are_talks T G3 G10
 have G17:Gd l.prog w K mg base 6 "are_sayings" (gR gB 60):=nO D_are_sayings T G3 G13
 have GB:Kd l.prog w K mg base 7 "Book" C (l8 C):=AO F_m_init mk_m_init b_m_init nmB T G14 G15 G16 G17
 have G20:Gd l.prog w K mg base 1 "_law_hour" j7:=wg D_l_hour
 have G21:Gd l.prog w K mg base 1 "_law_names" pR:=tK D_l_names T
 have G22:Gd l.prog w K mg base 1 "_law_tale" pK:=v3 D_l_tale T
 have G23:Gd l.prog w K mg base 2 "_law_talk" pX:=vQ D_l_talk T G20
 have G24:Gd l.prog w K mg base 2 "_law_saying" t7:=qP D_l_saying T G20
 have G25:Gd l.prog w K mg base 3 "_law_book" (pU K):=wY D_l_book T G20 G21 G22 G23 G24
 have M1:Md l.prog w K mg base 1 C "persons" (dw C fun p _ _ _=>p):=pS F_m_persons me_m_persons b_m_persons T
 have M2:Md l.prog w K mg base 1 C "sights" (dw C fun _ s _ _=>s):=sq F_m_sights me_m_sights b_m_sights T
 have M3:Md l.prog w K mg base 1 C "talks" (dw C fun _ _ t _=>t):=uq F_m_talks me_m_talks b_m_talks T
 have M4:Md l.prog w K mg base 1 C "sayings" (dw C fun _ _ _ y=>y):=pN F_m_sayings me_m_sayings b_m_sayings T
 have M5:Md l.prog w K mg base 1 C "tellings" (gL C):=qQ F_m_tellings me_m_tellings b_m_tellings T
 have G26:Gd l.prog w K mg base 2 "floor_of" (qf C):=rO D_floor_of T M4
 have G27:Gd l.prog w K mg base 3 "floors_of_all" (jU C):=wD D_floors_of_all T M1 G26
 have G28:Gd l.prog w K mg base 1 "is_above" l0:=sV D_is_above
 have G33:Gd l.prog w K mg base 1 "is_silent" vM:=qh D_is_silent T
 have G34:Gd l.prog w K mg base 1 "is_barred" vo:=pI D_is_barred
 have G29:Gd l.prog w K mg base 4 "open_sights" (lX C):=mT D_open_sights T M2 G27 G28
 have G30:Gd l.prog w K mg base 4 "open_tellings" (lN C):=kQ D_open_tellings T M3 M4 M5 G27 G28 G33 G34
 have G40:Gd l.prog w K mg base 1 "hours_in" A6:=E6 D_hours_in
 have G41:Gd l.prog w K mg base 1 "are_rising" yq:=DI D_are_rising T
 have G42:Gd l.prog w K mg base 1 "is_sight_at" Dq:=EZ D_is_sight_at T
 have G43:Gd l.prog w K mg base 1 "is_told_at" DQ:=EV D_is_told_at
 have G44:Gd l.prog w K mg base 2 "hours_of_tellings" (yu C):=Di D_hours_of_tellings T M3 M5
 have G45:Gd l.prog w K mg base 3 "is_story" (AR C P0):=E9 lS cS kS (mg_of X G aS) ycP hM hb T (zL T G42 G43) G41 M2 G44 G40
 have G61:Gd l.prog w K mg base 1 "fits_knew" DM:=EB D_fits_knew
 have G62:Gd l.prog w K mg base 1 "fits_unheard" Dc:=EH D_fits_unheard
 have G63:Gd l.prog w K mg base 1 "fits_silent" CW:=EY D_fits_silent T
 have G64:Gd l.prog w K mg base 1 "fits_barred" BZ:=Ef D_fits_barred T
 have G65:Gd l.prog w K mg base 2 "fits" DL:=EJ D_fits G40 G61 G62 G63 G64
 have G66:Gd l.prog w K mg base 3 "unfitted" (Ct C):=Fw D_unfitted T M4 G65
 have G47:Gd l.prog w K mg base 1 "_law_mix" lj:=Dd D_l_mix
 have G48:Gd l.prog w K mg base 2 "_law_events" CM:=Eb D_l_events T G47
 have G49:Gd l.prog w K mg base 3 "_law_story" CO:=Fu D_l_story T G47 G48
 have G50:Gd l.prog w K mg base 1 "_law_all_open" Cy:=Ey D_l_all_open
 have G51:Gd l.prog w K mg base 4 "_law_others" (AW C):=ET D_l_others G66
 have G52:Gd l.prog w K mg base 1 "_law_open_parts" CI:=ER D_l_open_parts
 have G53:Gd l.prog w K mg base 2 "_law_open_story" B0:=Fm D_l_open_story T G47
 have G60:Gd l.prog w K mg base 1 "is_whole" (lQ K):=⟨_,_,_,tf D_is_whole.fn T,D_is_whole.nm,D_is_whole.fn.kp,D_is_whole.bi⟩
 have M6:Md l.prog w K mg base 9 C "without_saying" (Cm C):=Ed F_m_without_saying me_m_without_saying b_m_without_saying T GB G60
 have G54:Gd l.prog w K mg base 10 "_law_one_less" (CQ C):=EN D_l_one_less T M6 G29 G30
 exact BR F51 T G25 GB G29 G30 G52 G49 G45 G50 G51 G53 G54 G47
theorem walk{l:PySem.W.OpenLaw}{q:Program}{loose:List Str}{XP:(Str→Option Value)→Heap→Prop}{YP:World→Heap→Prop}{d:DefRec}{K:Params→PySem.W.Frag}{P0:Addr}(hn:l.most=some 63)(hdf:d.params.defaults=[])
  (hY:∀(w:World)(h:Heap),YP w h→(K w.params).In h∧h.get? P0=some (tabObj #[]))
  (F:∀(w:World)(mg:Str→Option Value)(fa:Addr)(h:Heap),(K w.params).In h→h.Ns mainGlobals mg→mg d.name=some (.ref fa)→
   (∃c0,codeHdIn (K w.params) c0 P0=true)∧(K w.params).lookup P0=none∧∃fd:FuncData,(∀(s:Shared) (u:Value),BindsTo s fd ⟨[u],[]⟩ [("_law_script",u)])∧∀base:Heap,(K w.params).In base→base.Ns mainGlobals mg→jE mg base→dY l.prog w (K w.params) mg base jC 12 fa fd ["_law_script"] (uQ (K w.params) P0)):
  PySem.W.WalkO q loose XP YP l.row.toRowW d [] (fun f vs=>PySem.call f vs):=
 L2.xX (n:=63) (k:=12) (x:= "_law_script") (CX:=fun _=>jC) (sp:=fun w=>uQ (K w.params) P0) hn (by decide) hdf ⟨rfl,by decide,by decide⟩ hY F (fun _ _ a ns hl hP hS=>⟨a,ns,rfl,hS,hl,hP,fun _=>rfl⟩) fun _ _ _ _ _ z=>z
end K16
open PySem PySem.W PyProof.Rows
theorem PySem.Challenge.cw_knewby_k16_whole_open_ways_holds : PySem.Challenge.rw_knewby_k16_whole_open_ways.Holds :=
 K16.closing fun hdn hdf hY hT hF=>K16.walk (l:=PySem.Challenge.rw_knewby_k16_whole_open_ways) rfl hdf (fun w h Y=>⟨hY w h Y,hT w h Y⟩) fun w mg fa h KX G hmg=>K16.all_mk KX G (by rw[←hdn];exact hmg) (hF w mg fa h KX G hmg)
